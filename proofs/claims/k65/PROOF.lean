import PyProof.Rows.All
import Wide.All
import OpenK.AllK
import Wide.FinOn
import Lean
import PyProof.EqAt
import PyProof.EqKinds
import PyProof.TupleCall
import PyProof.NeKinds
import KE.KTryMore
import PyProof.NsDelKeeps
import PySem.SetTable
import PyProof.DictTable
import PyProof.SliceStr2
import PyProof.MeetsStr
import PyProof.StrWalks
import PyProof.TupleKey
import PyProof.SetKind
import PyProof.Rows.SetFrom
import PyProof.ZipIter
import PyProof.Rows.ZipGen
import PyProof.LayNew
import PySem.Challenge.RW_chalkline_k65_changes_told
section
set_option Elab.async false
set_option linter.all false
set_option maxRecDepth 100000
namespace L2
open PySem PySem.Spec PyProof.Rows
noncomputable abbrev Key := Sum Int Str
noncomputable def zve : Key → Value → Bool
 | .inl k, v => Value.isInt k v
 | .inr x, v => Value.isStrOf x v
noncomputable def keyH (w : World) : Key → Int
 | .inl k => hashInt k
 | .inr x => hashStr w x
theorem za0 : ∀ {k : Key} {v : Value}, zve k v = true → (∃ i t, k = Sum.inl i ∧ v = Value.int i t) ∨ (∃ x t, k = Sum.inr x ∧ v = Value.str x t)
 | .inl i, v, h => by
  obtain ⟨t, e⟩ := Value.isInt_shape (k := i) (v := v) h
  exact .inl ⟨i, t, rfl, e⟩
 | .inr x, v, h => by
  obtain ⟨t, e⟩ := Value.isStrOf_shape (x := x) (v := v) h
  exact .inr ⟨x, t, rfl, e⟩
theorem zvf (a b : Int) : decide ((Sum.inl a : Key) = Sum.inl b) = (a == b) := by
 by_cases e : a = b
 ·subst e; simp
 ·have h : ¬ (Sum.inl a : Key) = Sum.inl b := fun q => e (Sum.inl.inj q)
  rw [decide_eq_false h]
  exact (beq_eq_false_iff_ne.mpr e).symm
theorem zvg (a b : Str) : decide ((Sum.inr a : Key) = Sum.inr b) = decide (a = b) := by
 by_cases e : a = b
 ·subst e; simp
 ·have h : ¬ (Sum.inr a : Key) = Sum.inr b := fun q => e (Sum.inr.inj q)
  rw [decide_eq_false h, decide_eq_false e]
theorem zvh (a : Int) (b : Str) : decide ((Sum.inl a : Key) = Sum.inr b) = false := decide_eq_false (fun q => nomatch q)
theorem zvi (a : Str) (b : Int) : decide ((Sum.inr a : Key) = Sum.inl b) = false := decide_eq_false (fun q => nomatch q)
noncomputable def zor (prog : Program) (w : World) : PySem.KeyKind prog w Key where
 is := zve
 hash := keyH w
 inj := fun v a b ha hb => by
  rcases za0 ha with ⟨i, t, rfl, rfl⟩ | ⟨x, t, rfl, rfl⟩
  ·rcases za0 hb with ⟨j, u, rfl, e⟩ | ⟨y, u, rfl, e⟩
   ·injection e with e1 _; rw [e1]
   ·exact nomatch e
  ·rcases za0 hb with ⟨j, u, rfl, e⟩ | ⟨y, u, rfl, e⟩
   ·exact nomatch e
   ·injection e with e1 _; rw [e1]
 byValue := fun k v h => by
  rcases za0 h with ⟨i, t, rfl, rfl⟩ | ⟨x, t, rfl, rfl⟩ <;> rfl
 pyHash := fun hv h => by
  rcases za0 hv with ⟨i, t, rfl, rfl⟩ | ⟨x, t, rfl, rfl⟩
  ·exact wpAny_pyHash_int h
  ·exact wpAny_pyHash_str h
 eqBool := fun hu hv h => by
  rcases za0 hu with ⟨i, t, rfl, rfl⟩ | ⟨x, t, rfl, rfl⟩
  ·rcases za0 hv with ⟨j, u, rfl, rfl⟩ | ⟨y, u, rfl, rfl⟩
   ·rw [zvf] at h; exact wpAny_eqBool_int h
   ·rw [zvh] at h; exact SeqAt.EqAt.int_str i t y u _ _ _ _ h
  ·rcases za0 hv with ⟨j, u, rfl, rfl⟩ | ⟨y, u, rfl, rfl⟩
   ·rw [zvi] at h; exact SeqAt.EqAt.str_int x t j u _ _ _ _ h
   ·rw [zvg] at h; exact wpAny_eqBool_str h
 «strs» := fun k x t v h => by
  rcases za0 h with ⟨i, u, rfl, e⟩ | ⟨y, u, rfl, e⟩
  ·exact nomatch e
  ·injection e with e1 _
   subst e1
   cases v <;> rfl
end L2
namespace L2
open PySem PySem.Spec PyProof.Rows
inductive V where
 | non | bl (b : Bool) | int (i : Int) | str (x : Str) | byt (b : Array UInt8) | flt (b : UInt64) | ref (a : Addr) | ty (n : String)
 deriving DecidableEq
noncomputable def zbC : V → Value → Prop
 | .non, u => u = Value.none
 | .bl b, u => u = Value.bool b
 | .int i, u => ∃ t, u = Value.int i t
 | .str x, u => ∃ t, u = Value.str x t
 | .byt b, u => ∃ t, u = Value.bytes b t
 | .flt b, u => ∃ t, u = Value.float b t
 | .ref a, u => u = Value.ref a
 | .ty n, u => u = Value.type n
noncomputable abbrev zbA : List V → List Value → Prop := Paired zbC
theorem zbA.length {xs : List V} {us : List Value} (r : zbA xs us) : xs.length = us.length := Paired.length r
theorem zbA.get : ∀ {xs : List V} {us : List Value} {i : Nat} {x : V}, zbA xs us → xs[i]? = some x → ∃ u, us[i]? = some u ∧ zbC x u
 | _, _, _, _, .nil, e => by simp at e
 | _, _, 0, _, .cons r _, e => by simp at e; subst e; exact ⟨_, rfl, r⟩
 | _, _, i + 1, x, .cons _ t, e => by
  obtain ⟨u, h1, h2⟩ := zbA.get (i := i) (x := x) t (by simpa using e)
  exact ⟨u, by simpa using h1, h2⟩
theorem zbA.set {x : V} {u : Value} (r : zbC x u) : ∀ {xs : List V} {us : List Value} (i : Nat), zbA xs us → zbA (xs.set i x) (us.set i u)
 | _, _, _, .nil => .nil
 | _, _, 0, .cons _ t => .cons r t
 | _, _, i + 1, .cons q t => .cons q (zbA.set r i t)
theorem zbA.append : ∀ {xs ys : List V} {us ws : List Value}, zbA xs us → zbA ys ws → zbA (xs ++ ys) (us ++ ws)
 | _, _, _, _, .nil, s => s
 | _, _, _, _, .cons r t, s => .cons r (zbA.append t s)
theorem zbA.take : ∀ {xs : List V} {us : List Value} (n : Nat), zbA xs us → zbA (xs.take n) (us.take n)
 | _, _, 0, _ => .nil
 | _, _, _ + 1, .nil => .nil
 | _, _, n + 1, .cons r t => .cons r (zbA.take n t)
theorem zbA.drop : ∀ {xs : List V} {us : List Value} (n : Nat), zbA xs us → zbA (xs.drop n) (us.drop n)
 | _, _, 0, r => r
 | _, _, _ + 1, .nil => .nil
 | _, _, n + 1, .cons _ t => zbA.drop n t
noncomputable def RelO : Option V → Option Value → Prop
 | some v, some u => zbC v u
 | none, none => True
 | _, _ => False
noncomputable def KV {κ : Type} : List (κ × V) → List (κ × Value) → Prop := Paired fun (p : κ × V) (q : κ × Value) => p.1 = q.1 ∧ zbC p.2 q.2
noncomputable def kV : Key → V
 | .inl i => .int i
 | .inr x => .str x
inductive HO where
 | lst (xs : List V)
 | tup (xs : List V)
 | dK (kvs : List (Key × V)) | dT (kvs : List (List Key × V))
 | set (S : Int → Bool) (n : Nat)
 | ins (C dx : Addr) (fs : List (Str × V))
 | own (x : Addr)
 | xd (fs : List (Str × V))
 | met (f x : Addr)
 | rng (lo hi : Int)
 | frz (o : Obj) (u : HO)
 | tbl (ps : Array Value)
 | ext (φ : Heap → Prop)
noncomputable abbrev Hp := Addr → Option HO
noncomputable def upd (H : Hp) (a : Addr) (o : HO) : Hp := fun b => if b = a then some o else H b
theorem zav {H : Hp} {a : Addr} {o : HO} : upd H a o a = some o := by unfold upd; rw [if_pos rfl]
theorem zay {H : Hp} {a b : Addr} {o : HO} (h : b ≠ a) : upd H a o b = H b := by unfold upd; rw [if_neg h]
theorem zat {H : Hp} {a b : Addr} {o : HO} (h : H a = some o) (h' : H b = none) : a ≠ b := by
 intro e; subst e; rw [h] at h'; cases h'
section
variable (P : Program) (w : World)
noncomputable def zdI (H : Hp) (h : Heap) (a : Addr) : HO → Prop
 | .lst xs => xs.length ≤ sizeLine ∧ ∃ (its : List Value) (n : Nat), zbA xs its ∧ h.get? a = some { cls := .type "list", data := .seq its.toArray n }
 | .tup xs => xs.length ≤ sizeLine ∧ ∃ its : List Value, zbA xs its ∧ IsTup h a its.toArray
 | .dK kvs => kvs.length ≤ sizeLine ∧ (a == sysModules) = false ∧ ∃ vs, KV kvs vs ∧ h.DictOf (zor P w) a vs
 | .dT kvs => kvs.length ≤ sizeLine ∧ (a == sysModules) = false ∧ ∃ xs : List (List Key × Addr × Value),
   Paired (fun (p : List Key × V) (q : List Key × Addr × Value) => p.1 = q.1 ∧ H q.2.1 = some (.tup (p.1.map kV)) ∧ zbC p.2 q.2.2) kvs xs ∧
   ∃ o es ep, h.get? a = some o ∧ o.ExactDict ∧ o.data = .dict es ep ∧ es.toList = xs.map (entryOfKey (tupleKind (zor P w))) ∧ (xs.map (·.1)).Nodup
 | .set S n => h.SetOf (intKind P w) a S n
 | .ins C dx fs => H dx = some (.own a) ∧ fs.length ≤ 1000 ∧ dx ≠ a ∧ h.get? a = some (PySem.W.instObj C dx) ∧
   ∃ mA, h.Ns1 dx mA ∧ (∀ f, RelO (fs.lookup f) (mA f)) ∧ PySem.Within mA (fs.map (·.1))
 | .own _ => ∃ o, h.get? a = some o
 | .xd fs => ∃ mA, h.Ns1 a mA ∧ ∀ f, RelO (fs.lookup f) (mA f)
 | .rng lo hi => ∃ t u v, h.get? a = some { cls := .type "range", data := .fields #[.int lo t, .int hi u, .int 1 v] }
 | .frz o u => h.get? a = some o ∧ zdI H h a u
 | .tbl ps => h.get? a = some { cls := .none, data := .fields ps }
 | .met f x => h.get? a = some (PySem.W.methodObj (.ref f) (.ref x))
 | .ext φ => φ h ∧ (∃ o, h.get? a = some o) ∧ ∀ h1 h2 : Heap, φ h1 → (∀ o, h1.get? a = some o → h2.get? a = some o) → φ h2
noncomputable def HOk (H : Hp) (h : Heap) : Prop := ∀ a o, H a = some o → zdI P w H h a o
end
section
variable {P : Program} {w : World} {H H' : Hp} {h h' : Heap} {a : Addr} {o : HO}
theorem zdI.lt (x : zdI P w H h a o) : a < h.objs.size := by
 cases o with
 | lst xs => obtain ⟨_, _, _, _, e⟩ := x; exact Heap.lt_size e
 | tup xs => obtain ⟨_, _, _, p⟩ := x; exact p.lt
 | dK kvs => obtain ⟨_, _, _, _, o, _, _, e, _⟩ := x; exact Heap.lt_size e
 | dT kvs => obtain ⟨_, _, _, _, o, _, _, e, _⟩ := x; exact Heap.lt_size e
 | set S n => obtain ⟨o, _, _, _, e, _⟩ := x; exact Heap.lt_size e
 | ins C dx fs => obtain ⟨_, _, _, e, _⟩ := x; exact Heap.lt_size e
 | own y => obtain ⟨_, e⟩ := x; exact Heap.lt_size e
 | xd fs => obtain ⟨_, ⟨_, _, _, e, _⟩, _⟩ := x; exact Heap.lt_size e
 | rng lo hi => obtain ⟨_, _, _, e⟩ := x; exact Heap.lt_size e
 | frz ob u => obtain ⟨e, _⟩ := x; exact Heap.lt_size e
 | tbl ps => exact Heap.lt_size (show h.get? a = some _ from x)
 | met f y => exact Heap.lt_size (show h.get? a = some _ from x)
 | ext φ => obtain ⟨_, ⟨_, e⟩, _⟩ := x; exact Heap.lt_size e
theorem Paired.mapP {α β : Type} {F G : α → β → Prop} : ∀ {l₁ : List α} {l₂ : List β}, Paired F l₁ l₂ → (∀ a b, F a b → G a b) → Paired G l₁ l₂
 | _, _, .nil, _ => .nil
 | _, _, .cons r t, f => .cons (f _ _ r) (Paired.mapP t f)
theorem zdI.stay (x : zdI P w H h a o) (k : ∀ b u, (b = a ∨ H b = some (.own a)) → h.get? b = some u → h'.get? b = some u)
  (ho : ∀ b, H b = some (.own a) → H' b = some (.own a)) (ht : ∀ b xs, H b = some (.tup xs) → H' b = some (.tup xs)) : zdI P w H' h' a o := by
 induction o with
 | lst xs => obtain ⟨z, its, n, r, e⟩ := x; exact ⟨z, its, n, r, k _ _ (.inl rfl) e⟩
 | tup xs => obtain ⟨z, its, r, ob, e, c⟩ := x; exact ⟨z, its, r, ob, k _ _ (.inl rfl) e, c⟩
 | dK kvs => obtain ⟨z, y, vs, r, ob, es, ep, e, c⟩ := x; exact ⟨z, y, vs, r, ob, es, ep, k _ _ (.inl rfl) e, c⟩
 | dT kvs =>
  obtain ⟨z, y, xs, r, ob, es, ep, e, c⟩ := x
  exact ⟨z, y, xs, Paired.mapP r fun p q z => ⟨z.1, ht _ _ z.2.1, z.2.2⟩, ob, es, ep, k _ _ (.inl rfl) e, c⟩
 | set S n => obtain ⟨ob, es, ep, t, e, c⟩ := x; exact ⟨ob, es, ep, t, k _ _ (.inl rfl) e, c⟩
 | ins C dx fs =>
  obtain ⟨d, z, ne, e, mA, ⟨od, es, ep, e2, c⟩, r⟩ := x
  exact ⟨ho _ d, z, ne, k _ _ (.inl rfl) e, mA, ⟨od, es, ep, k _ _ (.inr d) e2, c⟩, r⟩
 | own y => obtain ⟨ob, e⟩ := x; exact ⟨ob, k _ _ (.inl rfl) e⟩
 | xd fs => obtain ⟨mA, ⟨od, es, ep, e, c⟩, r⟩ := x; exact ⟨mA, ⟨od, es, ep, k _ _ (.inl rfl) e, c⟩, r⟩
 | rng lo hi => obtain ⟨t, u, v, e⟩ := x; exact ⟨t, u, v, k _ _ (.inl rfl) e⟩
 | frz ob u ih => obtain ⟨e, q⟩ := x; exact ⟨k _ _ (.inl rfl) e, ih q⟩
 | tbl ps =>
  have e : h.get? a = some { cls := .none, data := .fields ps } := x
  show h'.get? a = some { cls := .none, data := .fields ps }
  exact k a _ (.inl rfl) e
 | met f y =>
  have e : h.get? a = some (PySem.W.methodObj (.ref f) (.ref y)) := x
  show h'.get? a = some (PySem.W.methodObj (.ref f) (.ref y))
  exact k a _ (.inl rfl) e
 | ext φ => obtain ⟨p, ⟨o, e⟩, st⟩ := x; exact ⟨st _ _ p fun o q => k _ _ (.inl rfl) q, ⟨o, k _ _ (.inl rfl) e⟩, st⟩
theorem HOk.lt (x : HOk P w H h) (e : H a = some o) : a < h.objs.size := (x a o e).lt
theorem HOk.fresh (x : HOk P w H h) (e : h.objs.size ≤ a) : H a = none := by
 cases q : H a with
 | none => rfl
 | some u => exact absurd (Nat.lt_of_lt_of_le (x.lt q) e) (Nat.lt_irrefl _)
theorem HOk.kept (x : HOk P w H h) (k : ∀ b u, h.get? b = some u → h'.get? b = some u) : HOk P w H h' := fun a o e =>
 (x a o e).stay (fun b u _ q => k b u q) (fun _ q => q) fun _ _ q => q
theorem HOk.laid (x : HOk P w H h) (k : ∀ b u, h.get? b = some u → h'.get? b = some u) (hp : h.objs.size ≤ a) (new : zdI P w (upd H a o) h' a o) : HOk P w (upd H a o) h' := fun b u e => by
 have hn := x.fresh hp
 by_cases hb : b = a
 ·subst hb; rw [zav] at e; cases e; exact new
 ·rw [zay hb] at e
  exact (x b u e).stay (fun c v _ q => k c v q) (fun c q => by rw [zay (zat q hn)]; exact q) fun c xs q => by rw [zay (zat q hn)]; exact q
end
noncomputable def Rd (H : Hp) (a : Addr) (u : HO) : Prop := H a = some u ∨ ∃ o, H a = some (.frz o u)
theorem Rd.ok {P : Program} {w : World} {H : Hp} {h : Heap} {a : Addr} {u : HO} (r : Rd H a u) (x : HOk P w H h) : zdI P w H h a u := by
 rcases r with r | ⟨o, r⟩
 ·exact x a u r
 ·obtain ⟨_, q⟩ := x a _ r
  exact q
noncomputable def Mut : Option HO → Prop
 | some (.lst _) => True
 | some (.dK _) => True
 | some (.dT _) => True
 | some (.set _ _) => True
 | some (.ins _ _ _) => True
 | some (.ext _) => True
 | _ => False
section
variable {P : Program} {w : World} {H : Hp} {h h' : Heap} {x e : Addr} {o' : HO}
theorem HOk.write (ok : HOk P w H h) (mu : Mut (H x)) (he : e = x ∨ H e = some (.own x)) (k : ∀ b u, b ≠ e → h.get? b = some u → h'.get? b = some u) (heo : ∃ u, h'.get? e = some u)
  (new : zdI P w (upd H x o') h' x o') : HOk P w (upd H x o') h' := fun b u q => by
 have nown : ∀ c y, H c = some (.own y) → c ≠ x := fun c y r z => by subst z; rw [r] at mu; exact mu
 have ntup : ∀ c xs, H c = some (.tup xs) → c ≠ x := fun c xs r z => by subst z; rw [r] at mu; exact mu
 by_cases hb : b = x
 ·subst hb; rw [zav] at q; cases q; exact new
 ·rw [zay hb] at q
  by_cases hbe : b = e
  ·have q' : H b = some (.own x) := by
    rcases he with z | z
    ·exact absurd (hbe.trans z) hb
    ·rw [hbe]; exact z
   rw [q] at q'; cases q'
   obtain ⟨v, hv⟩ := heo
   exact ⟨v, by rw [hbe]; exact hv⟩
  ·refine (ok b u q).stay (fun c v hc r => k c v ?_ r) (fun c r => by rw [zay (nown c b r)]; exact r) fun c xs r => by rw [zay (ntup c xs r)]; exact r
   rcases hc with rfl | hc
   ·exact hbe
   ·rintro rfl
    rcases he with z | z
    ·exact nown c b hc z
    ·rw [hc] at z; cases z; exact hb rfl
end
structure Un (fs ex : List Addr) (H H' : Hp) (h h' : Heap) : Prop where
 keep : ∀ b o, h.get? b = some o → H b = none → b ∉ fs → b ∉ ex → h'.get? b = some o
 slot : ∀ b o, h.get? b = some o → H b = none → b ∈ fs → b ∉ ex → ∃ sl, h'.get? b = some { o with slots := sl }
 free : ∀ b o, h.get? b = some o → H b = none → b ∉ ex → H' b = none
 there : ∀ b o, h.get? b = some o → b ∉ ex → ∃ o', h'.get? b = some o'
 tups : ∀ b xs, H b = some (.tup xs) → H' b = some (.tup xs)
 frzs : ∀ b o u, H b = some (.frz o u) → H' b = some (.frz o u)
 tbls : ∀ b ps, H b = some (.tbl ps) → ∃ more, H' b = some (.tbl (ps ++ more))
section
variable {fs fs' ex ex' : List Addr} {H H1 H2 : Hp} {h h1 h2 h' : Heap} {a x e : Addr} {o : HO}
theorem Un.any (u : Un fs ex H H1 h h1) {b : Addr} {ob : Obj} (q : h.get? b = some ob) (n : H b = none) (hx : b ∉ ex) : ∃ sl, h1.get? b = some { ob with slots := sl } := by
 by_cases hb : b ∈ fs
 ·exact u.slot b ob q n hb hx
 ·exact ⟨ob.slots, u.keep b ob q n hb hx⟩
theorem Un.kept (k : ∀ b u, h.get? b = some u → h'.get? b = some u) : Un fs ex H H h h' :=
 ⟨fun b ob q _ _ _ => k b ob q, fun b ob q _ _ _ => ⟨ob.slots, k b ob q⟩, fun _ _ _ n _ => n, fun b ob q _ => ⟨ob, k b ob q⟩, fun _ _ q => q, fun _ _ _ q => q, fun _ ps q => ⟨#[], by rw [q]; simp⟩⟩
theorem Un.refl : Un fs ex H H h h := Un.kept fun _ _ q => q
theorem Un.laid (k : ∀ b u, h.get? b = some u → h'.get? b = some u) (hp : h.objs.size ≤ a) (hn : H a = none) : Un fs ex H (upd H a o) h h' where
 keep := fun b u q _ _ _ => k b u q
 slot := fun b u q _ _ _ => ⟨u.slots, k b u q⟩
 free := fun b u q n _ => by rw [zay (Nat.ne_of_lt (Nat.lt_of_lt_of_le (Heap.lt_size q) hp))]; exact n
 there := fun b u q _ => ⟨u, k b u q⟩
 tups := fun b xs q => by rw [zay (zat q hn)]; exact q
 frzs := fun b u xs q => by rw [zay (zat q hn)]; exact q
 tbls := fun b ps q => ⟨#[], by rw [zay (zat q hn), q]; simp⟩
theorem Un.write (mu : Mut (H x)) (he : e = x ∨ H e = some (.own x)) (k : ∀ b u, b ≠ e → h.get? b = some u → h'.get? b = some u) (heo : ∃ u, h'.get? e = some u) : Un fs ex H (upd H x o) h h' := by
 have hx : ∀ b, H b = none → b ≠ x := fun b n z => by subst z; rw [n] at mu; exact mu
 have hb : ∀ b, H b = none → b ≠ e := fun b n z => by
  subst z
  rcases he with r | r
  ·exact hx b n r
  ·rw [n] at r; cases r
 have hm : ∀ b u, H b = some u → ¬ Mut (some u) → b ≠ x := fun b u q nm z => by subst z; rw [q] at mu; exact nm mu
 refine ⟨fun b u q n _ _ => k b u (hb b n) q, fun b u q n _ _ => ⟨u.slots, k b u (hb b n) q⟩, fun b u q n _ => by rw [zay (hx b n)]; exact n, fun b u q _ => ?_,
  fun b xs q => by rw [zay (hm b _ q fun z => z)]; exact q, fun b u xs q => by rw [zay (hm b _ q fun z => z)]; exact q, fun b ps q => ⟨#[], by rw [zay (hm b _ q fun z => z), q]; simp⟩⟩
 by_cases hbe : b = e
 ·subst hbe; exact heo
 ·exact ⟨u, k b u hbe q⟩
end
noncomputable def trk (h : Heap) (H : Hp) : List Addr := (List.range h.objs.size).filter fun a => (H a).isSome
noncomputable def zq9 (h : Heap) (H : Hp) : Heap := PySem.W.hideAll h (trk h H)
theorem zos (h : Heap) (H : Hp) : (zq9 h H).objs.size = h.objs.size := PySem.W.hideAll_size _ _
theorem zra {h : Heap} {H : Hp} {b : Addr} {o : Obj} (e : h.get? b = some o) (n : H b = none) : (zq9 h H).get? b = some o :=
 PySem.W.hideAll_get _ e fun hm => by
  have q : (H b).isSome = true := (List.mem_filter.mp hm).2
  rw [n] at q; simp at q
theorem ztz {h : Heap} {H : Hp} {b : Addr} {o : Obj} (e : (zq9 h H).get? b = some o) : h.get? b = some o ∧ H b = none := by
 have e' : h.get? b = some o := PySem.W.of_hideAll (trk h H) e
 refine ⟨e', ?_⟩
 cases q : H b with
 | none => rfl
 | some x =>
  have hm : b ∈ trk h H := List.mem_filter.mpr ⟨List.mem_range.mpr (Heap.lt_size e'), by simp [q]⟩
  have z : (zq9 h H).get? b = none := PySem.W.hideAll_none (trk h H) hm
  rw [z] at e; cases e
noncomputable def ztA (g h : Heap) (L : Addr) : List (Addr × Obj) := (List.range h.objs.size).filterMap fun a => if a = L ∨ (g.get? a).isSome = true then none else (h.get? a).map fun o => (a, o)
noncomputable def zbs (g h : Heap) (L d : Addr) : List (Addr × Obj) := (ztA g h L).filter fun p => decide (p.1 ≠ d)
end L2
namespace L2
open PySem PySem.Spec PyProof.Rows
structure Mod (K : PySem.W.Frag) (mg : Str → Option Value) (base : Heap) : Prop where
 kin : K.In base
 glob : base.Ns mainGlobals mg
 blt : ∃ mb, base.Ns builtinsNs mb ∧ ∀ x : Str, x ≠ "__name__" → mb x = bootBuiltins x
 nolimit : base.NoLimit
structure Cx where
 prog : Program
 w : World
 K : PySem.W.Frag
 mg : Str → Option Value
 base : Heap
 A : Around
 N : List Str
 s₀ : Shared
 H₀ : Hp
 env : Env
 outer : List Env
 stack : List Env
 ex : List Addr
 fn : Str → Bool
 calm : Bool
 pn : List (Addr × Obj)
 xe : Value → Shared → Prop
noncomputable def frs (l : List Env) : List Addr := l.filterMap (·.frame)
noncomputable abbrev Cx.fs (X : Cx) : List Addr := frs X.outer
noncomputable def Vis (sc : Scope) (x : Str) : Prop := sc.names.lookup x = some .local ∨ sc.names.lookup x = some .cell ∨ sc.names.lookup x = some .free
noncomputable def Loc (sc : Scope) (x : Str) : Prop := sc.names.lookup x = some .local ∨ sc.names.lookup x = some .cell
noncomputable def Look (env : Env) (h : Heap) (m : Str → Option Value) (x : Str) (u : Value) : Prop :=
 (env.kindOf x = some .local ∧ m x = some u) ∨ ((env.kindOf x = some .cell ∨ env.kindOf x = some .free) ∧ ∃ c, env.cells.lookup x = some c ∧ h.IsCell c (some u))
structure Cx.Ok (X : Cx) : Prop where
 mod : Mod X.K X.mg X.base
 kind : X.env.scope.kind = .function
 glob : X.env.globals = mainGlobals
 blt : X.env.builtins = builtinsNs
 above : X.s₀.heap.objs.size ≤ X.env.locals
 inj : ∀ x y c, X.env.cells.lookup x = some c → X.env.cells.lookup y = some c → x = y
 has : ∀ x, (X.env.kindOf x = some .cell ∨ X.env.kindOf x = some .free) → ∃ c, X.env.cells.lookup x = some c
 cab : ∀ x c, X.fn x = true → X.env.cells.lookup x = some c → X.s₀.heap.objs.size ≤ c
 hd : X.calm = true → X.A.handled = none
 frames : X.A.frames = some X.stack
 stk : X.stack = X.outer ∨ (X.stack = X.env :: X.outer ∧ X.env.frame = some X.env.locals)
 exf : ∀ b ∈ X.ex, b ≠ X.env.locals ∧ ∀ x c, X.env.cells.lookup x = some c → c ≠ b
 bs : ∀ b o, X.base.get? b = some o → X.s₀.heap.get? b = some o ∧ X.H₀ b = none
 bsz : X.base.objs.size ≤ X.s₀.heap.objs.size
 noex : ∀ b o, X.base.get? b = some o → b ∉ X.ex
 exfs : ∀ b ∈ X.ex, b ∉ X.fs
 funs : X.s₀.heap.FunFrames X.base X.outer
 frf : ∀ b ∈ X.fs, X.H₀ b = none
structure Inv (X : Cx) (pins : List (Addr × Obj)) (σ : List (Option V)) (H : Hp) (s : Shared) : Prop where
 ok : X.Ok
 os : s.os = X.s₀.os
 bare : AllBare s.gens
 base : Un X.fs X.ex X.H₀ H X.s₀.heap s.heap
 loc : ∃ m, s.heap.Ns X.env.locals m ∧ ∀ (i : Nat) (x : Str) (v : V), X.N[i]? = some x → σ[i]? = some (some v) → Vis X.env.scope x → ∃ u, zbC v u ∧ Look X.env s.heap m x u
 cell : ∀ x c, X.env.cells.lookup x = some c → ∃ v, s.heap.IsCell c v
 free : H X.env.locals = none
 freeC : ∀ x c, X.env.cells.lookup x = some c → H c = none
 pin : ∀ p ∈ X.pn ++ pins, s.heap.get? p.1 = some p.2 ∧ H p.1 = none ∧ p.1 ≠ X.env.locals ∧ p.1 ∉ X.fs ∧ ∀ v, p.2.data ≠ .cell v
 hok : HOk X.prog X.w H s.heap
 len : σ.length = X.N.length
section
variable {X : Cx} {pins : List (Addr × Obj)} {σ : List (Option V)} {H H' : Hp} {s : Shared} {h' : Heap}
theorem Cx.Ok.nofr (ok : X.Ok) {b : Addr} {o : Obj} (e : X.base.get? b = some o) : b ∉ X.fs := fun hb => by
 have := (ok.funs.mem hb).1
 rw [e] at this; cases this
theorem Inv.bs (I : Inv X pins σ H s) : ∀ b o, X.base.get? b = some o → s.heap.get? b = some o ∧ H b = none := fun b o e =>
 ⟨I.base.keep b o (I.ok.bs b o e).1 (I.ok.bs b o e).2 (I.ok.nofr e) (I.ok.noex b o e), I.base.free b o (I.ok.bs b o e).1 (I.ok.bs b o e).2 (I.ok.noex b o e)⟩
theorem Inv.bk (I : Inv X pins σ H s) : ∀ b o, X.base.get? b = some o → s.heap.get? b = some o := fun b o e => (I.bs b o e).1
theorem Inv.mod (I : Inv X pins σ H s) : Mod X.K X.mg X.base := I.ok.mod
theorem Inv.kIn (I : Inv X pins σ H s) : X.K.In s.heap := I.ok.mod.kin.keeps I.bk
theorem Inv.fr (I : Inv X pins σ H s) : ∃ m, Fr X.base X.env.locals s.heap m :=
 let ⟨m, hn, _⟩ := I.loc
 ⟨m, hn, I.bk, Nat.le_trans I.ok.bsz I.ok.above⟩
theorem Inv.lt (I : Inv X pins σ H s) : X.env.locals < s.heap.objs.size := let ⟨_, hn, _⟩ := I.loc; hn.lt
theorem Inv.sz (I : Inv X pins σ H s) : X.s₀.heap.objs.size ≤ s.heap.objs.size := Nat.le_trans I.ok.above (Nat.le_of_lt I.lt)
theorem Inv.nofs (I : Inv X pins σ H s) {a : Addr} (h : s.heap.objs.size ≤ a) : a ∉ X.fs := fun hb => by
 obtain ⟨_, o, ho, _⟩ := I.ok.funs.mem hb
 exact absurd (Nat.lt_of_lt_of_le (Heap.lt_size ho) (Nat.le_trans I.sz h)) (Nat.lt_irrefl _)
theorem Inv.cne (I : Inv X pins σ H s) : ∀ x c, X.env.cells.lookup x = some c → c ≠ X.env.locals := fun x c e z => by
 obtain ⟨v, o, ho, hd⟩ := I.cell x c e
 obtain ⟨m, ⟨o', es, ep, ho', hd', _⟩, _⟩ := I.loc
 rw [z, ho'] at ho; cases ho; rw [hd'] at hd; cases hd
theorem Inv.funs (I : Inv X pins σ H s) : s.heap.FunFrames X.base X.outer := by
 have all : ∀ (l : List Env), (∀ b ∈ frs l, b ∈ X.fs) → X.s₀.heap.FunFrames X.base l → s.heap.FunFrames X.base l := by
  intro l
  induction l with
  | nil => intro _ _; trivial
  | cons env r ih =>
   intro hs hl
   obtain ⟨hk, ⟨L, o, hf, hn, ho, hd⟩, hr⟩ := hl
   have hL : L ∈ X.fs := hs L (by unfold frs; rw [List.filterMap_cons, hf]; exact List.mem_cons_self)
   obtain ⟨sl, e⟩ := I.base.slot L o ho (I.ok.frf L hL) hL fun z => I.ok.exfs L z hL
   exact ⟨hk, ⟨L, _, hf, hn, e, hd⟩, ih (fun b hb => hs b (by unfold frs; rw [List.filterMap_cons, hf]; exact List.mem_cons_of_mem _ hb)) hr⟩
 exact all X.outer (fun _ hb => hb) I.ok.funs
theorem Inv.stack (I : Inv X pins σ H s) : s.heap.FunFrames X.base X.stack := by
 rcases I.ok.stk with e | ⟨e, hf⟩
 ·rw [e]; exact I.funs
 ·rw [e]
  obtain ⟨m, hn, _⟩ := I.loc
  refine .cons (by rw [I.ok.kind]; decide) hf hn ?_ I.funs
  exact Heap.get?_none_of_le (Nat.le_trans I.ok.bsz I.ok.above)
theorem Inv.stkSub (I : Inv X pins σ H s) : ∀ b ∈ frs X.stack, b ∈ X.env.locals :: X.fs := fun b hb => by
 rcases I.ok.stk with e | ⟨e, hf⟩
 ·rw [e] at hb; exact List.mem_cons_of_mem _ hb
 ·rw [e] at hb
  unfold frs at hb
  rw [List.filterMap_cons, hf] at hb
  exact hb
theorem Inv.stkFree (I : Inv X pins σ H s) : ∀ b ∈ frs X.stack, H b = none := fun b hb => by
 rcases List.mem_cons.mp (I.stkSub b hb) with e | hb
 ·rw [e]; exact I.free
 ·obtain ⟨_, o, ho, _⟩ := I.ok.funs.mem hb
  exact I.base.free b o ho (I.ok.frf b hb) fun z => I.ok.exfs b z hb
theorem Inv.step {g' : Array GenState} {t' : Nat} {d' : Drawn} {ch : List Addr} (I : Inv X pins σ H s)
  (hch : ∀ b ∈ ch, (b ∈ X.ex ∨ X.s₀.heap.objs.size ≤ b) ∧ b ≠ X.env.locals ∧ (∀ x c, X.env.cells.lookup x = some c → c ≠ b) ∧ ∀ p ∈ X.pn ++ pins, p.1 ≠ b)
  (keep : ∀ b o, b ≠ X.env.locals → b ∉ X.fs → b ∉ ch → s.heap.get? b = some o → H b = none → h'.get? b = some o)
  (slot : ∀ b o, b ≠ X.env.locals → b ∈ X.fs → b ∉ ch → s.heap.get? b = some o → H b = none → ∃ sl, h'.get? b = some { o with slots := sl }) (free : ∀ b o, b ∉ ch → s.heap.get? b = some o → H b = none → H' b = none)
  (there : ∀ b o, b ∉ ch → s.heap.get? b = some o → ∃ o', h'.get? b = some o')
  (tups : ∀ b xs, H b = some (.tup xs) → H' b = some (.tup xs)) (frzs : ∀ b o u, H b = some (.frz o u) → H' b = some (.frz o u)) (tbls : ∀ b ps, H b = some (.tbl ps) → ∃ more, H' b = some (.tbl (ps ++ more)))
  (ns : ∀ m, s.heap.Ns X.env.locals m → h'.Ns X.env.locals m) (hok : HOk X.prog X.w H' h') (hg : AllBare g') :
  Inv X pins σ H' { s with heap := h', gens := g', drawn := d', toks := t' } := by
 have neL : ∀ b o, X.s₀.heap.get? b = some o → b ≠ X.env.locals := fun b o e => Nat.ne_of_lt (Nat.lt_of_lt_of_le (Heap.lt_size e) I.ok.above)
 have neC : ∀ b o, X.s₀.heap.get? b = some o → b ∉ X.ex → b ∉ ch := fun b o e hx hb => by
  rcases (hch b hb).1 with z | z
  ·exact hx z
  ·exact absurd (Nat.lt_of_lt_of_le (Heap.lt_size e) z) (Nat.lt_irrefl _)
 have cellK : ∀ x c, X.env.cells.lookup x = some c → ∀ v, s.heap.IsCell c v → h'.IsCell c v := fun x c e v ⟨o, ho, hd⟩ => by
  have nch : c ∉ ch := fun z => (hch c z).2.2.1 x c e rfl
  by_cases hc : c ∈ X.fs
  ·obtain ⟨sl, q⟩ := slot c o (I.cne x c e) hc nch ho (I.freeC x c e)
   exact ⟨_, q, hd⟩
  ·exact ⟨o, keep c o (I.cne x c e) hc nch ho (I.freeC x c e), hd⟩
 refine ⟨I.ok, I.os, hg, ⟨fun b o e n hb hx => ?_, fun b o e n hb hx => ?_, fun b o e n hx => ?_, fun b o e hx => ?_, fun b xs e => tups b xs (I.base.tups b xs e), fun b o xs e => frzs b o xs (I.base.frzs b o xs e), fun b ps e => ?_⟩, ?_, fun x c e => ?_, ?_, fun x c e => ?_, fun p hp => ?_, hok, I.len⟩
 ·exact keep b o (neL b o e) hb (neC b o e hx) (I.base.keep b o e n hb hx) (I.base.free b o e n hx)
 ·obtain ⟨sl, e1⟩ := I.base.slot b o e n hb hx
  obtain ⟨sl', e2⟩ := slot b _ (neL b o e) hb (neC b o e hx) e1 (I.base.free b o e n hx)
  exact ⟨sl', e2⟩
 ·obtain ⟨o', e1⟩ := I.base.there b o e hx
  exact free b o' (neC b o e hx) e1 (I.base.free b o e n hx)
 ·obtain ⟨o', e1⟩ := I.base.there b o e hx
  exact there b o' (neC b o e hx) e1
 ·obtain ⟨m1, e1⟩ := I.base.tbls b ps e
  obtain ⟨m2, e2⟩ := tbls b _ e1
  exact ⟨m1 ++ m2, by rw [e2, Array.append_assoc]⟩
 ·obtain ⟨m, hn, hl⟩ := I.loc
  refine ⟨m, ns m hn, fun i x v e1 e2 e3 => ?_⟩
  obtain ⟨u, r, l⟩ := hl i x v e1 e2 e3
  refine ⟨u, r, ?_⟩
  rcases l with l | ⟨k, c, e, z⟩
  ·exact .inl l
  ·exact .inr ⟨k, c, e, cellK x c e _ z⟩
 ·obtain ⟨v, z⟩ := I.cell x c e
  exact ⟨v, cellK x c e v z⟩
 ·obtain ⟨m, ⟨o, _, _, ho, _⟩, _⟩ := I.loc
  exact free _ o (fun z => (hch _ z).2.1 rfl) ho I.free
 ·obtain ⟨v, o, ho, hd⟩ := I.cell x c e
  exact free c o (fun z => (hch c z).2.2.1 x c e rfl) ho (I.freeC x c e)
 ·obtain ⟨e, n, ne, nf, d⟩ := I.pin p hp
  have nch : p.1 ∉ ch := fun z => (hch p.1 z).2.2.2 p hp rfl
  exact ⟨keep p.1 p.2 ne nf nch e n, free p.1 p.2 nch e n, ne, nf, d⟩
theorem Inv.un {t' : Nat} (I : Inv X pins σ H s) (u : Un X.fs [] H H' s.heap h') (hok : HOk X.prog X.w H' h') : Inv X pins σ H' { s with heap := h', toks := t' } := by
 obtain ⟨m, ⟨o, es, ep, ho, r⟩, _⟩ := id I.loc
 obtain ⟨sl, hL⟩ := u.any ho I.free (by simp)
 exact I.step (g' := s.gens) (d' := s.drawn) (ch := []) (fun _ z => nomatch z) (fun b o _ hb _ e n => u.keep b o e n hb (by simp)) (fun b o _ hb _ e n => u.slot b o e n hb (by simp)) (fun b o _ e n => u.free b o e n (by simp)) (fun b o _ e => u.there b o e (by simp)) u.tups u.frzs u.tbls (fun m' hm => by
  obtain ⟨o', es', ep', ho', r'⟩ := hm
  rw [ho] at ho'; cases ho'
  exact ⟨_, es', ep', hL, r'⟩) hok I.bare
theorem Inv.call {g' : Array GenState} {t' : Nat} {d' : Drawn} {ch : List Addr} (I : Inv X pins σ H s) (u : Un (frs X.stack) ch H H' s.heap h') (hok : HOk X.prog X.w H' h') (hg : AllBare g')
  (hch : ∀ b ∈ ch, (b ∈ X.ex ∨ X.s₀.heap.objs.size ≤ b) ∧ b ≠ X.env.locals ∧ (∀ x c, X.env.cells.lookup x = some c → c ≠ b) ∧ ∀ p ∈ X.pn ++ pins, p.1 ≠ b) :
  Inv X pins σ H' { s with heap := h', gens := g', drawn := d', toks := t' } := by
 obtain ⟨m, ⟨o, es, ep, ho, r⟩, _⟩ := id I.loc
 obtain ⟨sl, hL⟩ := u.any ho I.free fun z => (hch _ z).2.1 rfl
 exact I.step (ch := ch) hch (fun b o hL hb hc e n => u.keep b o e n (fun z => (List.mem_cons.mp (I.stkSub b z)).elim hL hb) hc) (fun b o _ _ hc e n => u.any e n hc) (fun b o hc e n => u.free b o e n hc) (fun b o hc e => u.there b o e hc) u.tups u.frzs u.tbls (fun m' hm => by
  obtain ⟨o', es', ep', ho', r'⟩ := hm
  rw [ho] at ho'; cases ho'
  exact ⟨_, es', ep', hL, r'⟩) hok hg
theorem Inv.turned {t' : Nat} {it : Addr} (I : Inv X pins σ H s) (k : ∀ b o, b ≠ it → s.heap.get? b = some o → h'.get? b = some o) (hn : H it = none) (hL : it ≠ X.env.locals)
  (h1 : it ∈ X.ex ∨ X.s₀.heap.objs.size ≤ it) (h2 : ∀ x c, X.env.cells.lookup x = some c → c ≠ it) (h3 : ∀ p ∈ X.pn ++ pins, p.1 ≠ it) : Inv X pins σ H { s with heap := h', toks := t' } := by
 have nit : ∀ b u, H b = some u → b ≠ it := fun b u e z => by rw [z, hn] at e; cases e
 refine I.step (g' := s.gens) (d' := s.drawn) (ch := [it]) (fun b hb => ?_) (fun b o _ _ hc e _ => k b o (fun z => hc (by simp [z])) e) (fun b o _ _ hc e _ => ⟨o.slots, k b o (fun z => hc (by simp [z])) e⟩) (fun _ _ _ _ n => n)
  (fun b o hc e => ⟨o, k b o (fun z => hc (by simp [z])) e⟩) (fun _ _ e => e) (fun _ _ _ e => e) (fun b ps e => ⟨#[], by rw [e]; simp⟩) (fun m hm => ?_) (fun b u e => ?_) I.bare
 ·have e : b = it := by simpa using hb
  subst e
  exact ⟨h1, hL, h2, h3⟩
 ·obtain ⟨o, es, ep, ho, r⟩ := hm
  exact ⟨o, es, ep, k _ o (Ne.symm hL) ho, r⟩
 ·refine (I.hok b u e).stay (fun c v hc q => k c v ?_ q) (fun _ q => q) fun _ _ q => q
  rcases hc with z | z
  ·rw [z]; exact nit b u e
  ·exact nit c _ z
theorem Inv.tok (I : Inv X pins σ H s) (t : Nat) : Inv X pins σ H { s with toks := t } := I.un (h' := s.heap) (t' := t) Un.refl I.hok
theorem Inv.kept {t' : Nat} (I : Inv X pins σ H s) (k : ∀ b u, s.heap.get? b = some u → h'.get? b = some u) : Inv X pins σ H { s with heap := h', toks := t' } := I.un (Un.kept k) (I.hok.kept k)
theorem Inv.laid {a : Addr} {o : HO} {t' : Nat} (I : Inv X pins σ H s) (k : ∀ b u, s.heap.get? b = some u → h'.get? b = some u) (hp : s.heap.objs.size ≤ a) (new : zdI X.prog X.w (upd H a o) h' a o) :
  Inv X pins σ (upd H a o) { s with heap := h', toks := t' } := I.un (Un.laid k hp (I.hok.fresh hp)) (I.hok.laid k hp new)
theorem Inv.write {x e : Addr} {o : HO} {t' : Nat} (I : Inv X pins σ H s) (mu : Mut (H x)) (he : e = x ∨ H e = some (.own x)) (k : ∀ b u, b ≠ e → s.heap.get? b = some u → h'.get? b = some u) (heo : ∃ u, h'.get? e = some u)
  (new : zdI X.prog X.w (upd H x o) h' x o) : Inv X pins σ (upd H x o) { s with heap := h', toks := t' } := I.un (Un.write mu he k heo) (I.hok.write mu he k heo new)
theorem Inv.weak {σ' : List (Option V)} (I : Inv X pins σ H s) (hl : σ'.length = σ.length) (w : ∀ (i : Nat) v, σ'[i]? = some (some v) → σ[i]? = some (some v)) : Inv X pins σ' H s :=
 ⟨I.ok, I.os, I.bare, I.base, let ⟨m, hn, hl'⟩ := I.loc; ⟨m, hn, fun i x v e1 e2 e3 => hl' i x v e1 (w i v e2) e3⟩, I.cell, I.free, I.freeC, I.pin, I.hok, hl.trans I.len⟩
theorem Inv.pins_of {pins' : List (Addr × Obj)} (I : Inv X pins σ H s) (h : ∀ p ∈ pins', s.heap.get? p.1 = some p.2 ∧ H p.1 = none ∧ p.1 ≠ X.env.locals ∧ p.1 ∉ X.fs ∧ ∀ v, p.2.data ≠ .cell v) : Inv X pins' σ H s :=
 ⟨I.ok, I.os, I.bare, I.base, I.loc, I.cell, I.free, I.freeC, fun p hp => (List.mem_append.mp hp).elim (fun z => I.pin p (List.mem_append_left _ z)) (h p), I.hok, I.len⟩
theorem zl9 {N : List Str} (hN : N.Nodup) {i j : Nat} {x : Str} (a : N[i]? = some x) (b : N[j]? = some x) : i = j := by
 obtain ⟨h1, e1⟩ := List.getElem?_eq_some_iff.mp a
 obtain ⟨h2, e2⟩ := List.getElem?_eq_some_iff.mp b
 exact (List.getElem_inj hN).mp (e1.trans e2.symm)
theorem zot {M : Model} {A : Around} {E : Value → Shared → Prop} {i : Nat} {x : Str} {v : V} {u : Value} {Q : Unit → Shared → Prop} (I : Inv X pins σ H s) (hN : X.N.Nodup) (hi : X.N[i]? = some x) (hx : Loc X.env.scope x) (r : zbC v u)
  (h : ∀ s', Inv X pins (σ.set i (some v)) H s' → (∃ a, Heap.SameBut a s.heap s'.heap ∧ (a = X.env.locals ∨ X.env.cells.lookup x = some a)) → Q () s') (hf : X.fn x = true ∨ X.env.scope.names.lookup x = some .local := by first | exact .inl rfl | exact .inr rfl | assumption) : wpAny M A (storeName X.env x u) Q E s := by
 obtain ⟨m, hn, hl⟩ := id I.loc
 have hcls : (X.env.scope.kind == .class || (X.env.scope.kind == .module && X.env.locals != X.env.globals)) = false := by rw [I.ok.kind]; rfl
 have hiσ : i < σ.length := by rw [I.len]; exact (List.getElem?_eq_some_iff.mp hi).1
 have cne := I.cne
 have tracked : ∀ {a : Addr} {h' : Heap}, (∃ o, s.heap.get? a = some o ∧ H a = none) → Heap.SameBut a s.heap h' → HOk X.prog X.w H h' := fun {a h'} ha hs b ob e => by
  obtain ⟨_, _, hfree⟩ := ha
  refine (I.hok b ob e).stay (fun c w' hc q => (hs.2 c ?_).trans q) (fun _ q => q) fun _ _ q => q
  rintro rfl
  rcases hc with rfl | hc
  ·rw [hfree] at e; cases e
  ·rw [hfree] at hc; cases hc
 rcases hx with hk | hk
 ·refine wpAny_storeName_local hk hn (fun h' hn' hs => ?_) hcls
  obtain ⟨oL, _, _, hoL, _⟩ := id hn
  refine h _ ⟨I.ok, I.os, I.bare, ⟨fun b o e n hb hx => ?_, fun b o e n hb hx => ?_, I.base.free, fun b o e hx => ?_, I.base.tups, I.base.frzs, I.base.tbls⟩, ⟨_, hn', fun j y v' e1 e2 e3 => ?_⟩, fun y c e => ?_, I.free, I.freeC, fun p hp => ?_, tracked ⟨oL, hoL, I.free⟩ hs, by simpa using I.len⟩ ⟨_, hs, .inl rfl⟩
  ·exact (hs.2 b (Nat.ne_of_lt (Nat.lt_of_lt_of_le (Heap.lt_size e) I.ok.above))).trans (I.base.keep b o e n hb hx)
  ·obtain ⟨sl, e1⟩ := I.base.slot b o e n hb hx
   exact ⟨sl, (hs.2 b (Nat.ne_of_lt (Nat.lt_of_lt_of_le (Heap.lt_size e) I.ok.above))).trans e1⟩
  ·obtain ⟨o', e1⟩ := I.base.there b o e hx
   exact ⟨o', (hs.2 b (Nat.ne_of_lt (Nat.lt_of_lt_of_le (Heap.lt_size e) I.ok.above))).trans e1⟩
  ·by_cases hj : j = i
   ·subst hj
    rw [hi] at e1; cases e1
    rw [List.getElem?_set_self hiσ] at e2
    cases e2
    exact ⟨u, r, .inl ⟨hk, by simp⟩⟩
   ·rw [List.getElem?_set_ne (Ne.symm hj)] at e2
    obtain ⟨u', r', q⟩ := hl j y v' e1 e2 e3
    refine ⟨u', r', ?_⟩
    rcases q with ⟨k, e⟩ | ⟨k, c, e, z⟩
    ·refine .inl ⟨k, ?_⟩
     have : y ≠ x := fun e => hj (zl9 hN e1 (e ▸ hi))
     simp [this, e]
    ·exact .inr ⟨k, c, e, z.sameBut hs (cne y c e)⟩
  ·obtain ⟨w', z⟩ := I.cell y c e
   exact ⟨w', z.sameBut hs (cne y c e)⟩
  ·obtain ⟨e, n, ne, nf, d⟩ := I.pin p hp
   exact ⟨(hs.2 p.1 ne).trans e, n, ne, nf, d⟩
 ·have hfn : X.fn x = true := by
   rcases hf with z | z
   ·exact z
   ·rw [z] at hk; cases hk
  obtain ⟨c, hc⟩ := I.ok.has x (.inl hk)
  obtain ⟨w', z⟩ := I.cell x c hc
  refine wpAny_storeName_cell I.ok.kind hk hc z (fun h' hc' hs => ?_)
  obtain ⟨oc, hoc, hocd⟩ := id z
  refine h { s with heap := h' } ⟨I.ok, I.os, I.bare, ⟨fun b o e n hb hx => ?_, fun b o e n hb hx => ?_, I.base.free, fun b o e hx => ?_, I.base.tups, I.base.frzs, I.base.tbls⟩, ⟨m, hn.sameBut hs (Ne.symm (cne x c hc)), fun j y v' e1 e2 e3 => ?_⟩, fun y c' e => ?_, I.free, I.freeC, fun p hp => ?_, tracked ⟨oc, hoc, I.freeC x c hc⟩ hs, by simpa using I.len⟩ ⟨c, hs, .inr hc⟩
  ·exact (hs.2 b (Nat.ne_of_lt (Nat.lt_of_lt_of_le (Heap.lt_size e) (I.ok.cab x c hfn hc)))).trans (I.base.keep b o e n hb hx)
  ·obtain ⟨sl, e1⟩ := I.base.slot b o e n hb hx
   exact ⟨sl, (hs.2 b (Nat.ne_of_lt (Nat.lt_of_lt_of_le (Heap.lt_size e) (I.ok.cab x c hfn hc)))).trans e1⟩
  ·obtain ⟨o', e1⟩ := I.base.there b o e hx
   exact ⟨o', (hs.2 b (Nat.ne_of_lt (Nat.lt_of_lt_of_le (Heap.lt_size e) (I.ok.cab x c hfn hc)))).trans e1⟩
  ·by_cases hj : j = i
   ·subst hj
    rw [hi] at e1; cases e1
    rw [List.getElem?_set_self hiσ] at e2
    cases e2
    exact ⟨u, r, .inr ⟨.inl hk, c, hc, hc'⟩⟩
   ·rw [List.getElem?_set_ne (Ne.symm hj)] at e2
    obtain ⟨u', r', q⟩ := hl j y v' e1 e2 e3
    refine ⟨u', r', ?_⟩
    rcases q with q | ⟨k, c', e, z'⟩
    ·exact .inl q
    ·refine .inr ⟨k, c', e, z'.sameBut hs ?_⟩
     rintro rfl
     exact hj (zl9 hN e1 (I.ok.inj _ _ _ e hc ▸ hi))
  ·by_cases hcc : c' = c
   ·subst hcc; exact ⟨_, hc'⟩
   ·obtain ⟨w2, z2⟩ := I.cell y c' e
    exact ⟨w2, z2.sameBut hs hcc⟩
  ·obtain ⟨e, n, ne, nf, d⟩ := I.pin p hp
   refine ⟨(hs.2 p.1 ?_).trans e, n, ne, nf, d⟩
   intro q
   rw [q, hoc] at e
   have q' : oc = p.2 := Option.some.inj e
   exact d w' (by rw [← q']; exact hocd)
theorem zjg {M : Model} {A : Around} {E : Value → Shared → Prop} {i : Nat} {x : Str} {v : V} {u : Value} {Q : Unit → Shared → Prop} (I : Inv X pins σ H s) (hN : X.N.Nodup) (hi : X.N[i]? = some x) (hx : Loc X.env.scope x) (r : zbC v u)
  (h : ∀ s', Inv X pins (σ.set i (some v)) H s' → Q () s') (hf : X.fn x = true ∨ X.env.scope.names.lookup x = some .local := by first | exact .inl rfl | exact .inr rfl | assumption) : wpAny M A (storeName X.env x u) Q E s :=
 zot I hN hi hx r (fun s' I' _ => h s' I') hf
theorem Inv.call' {s' : Shared} {ch : List Addr} (I : Inv X pins σ H s) (ho : s'.os = s.os) (u : Un (frs X.stack) ch H H' s.heap s'.heap) (hok : HOk X.prog X.w H' s'.heap) (hg : AllBare s'.gens)
  (hch : ∀ b ∈ ch, (b ∈ X.ex ∨ X.s₀.heap.objs.size ≤ b) ∧ b ≠ X.env.locals ∧ (∀ x c, X.env.cells.lookup x = some c → c ≠ b) ∧ ∀ p ∈ X.pn ++ pins, p.1 ≠ b) : Inv X pins σ H' s' := by
 obtain ⟨h', g', d', t', o'⟩ := s'
 have e : o' = s.os := ho
 subst e
 exact I.call (g' := g') (t' := t') (d' := d') u hok hg hch
end
noncomputable abbrev XK := Value → Option Addr → Hp → Prop
noncomputable abbrev St := List (Option V)
noncomputable abbrev VK := V → Hp → Prop
noncomputable abbrev TE := St → Hp → VK → Prop
noncomputable abbrev TT := St → Hp → (Bool → Hp → Prop) → Prop
noncomputable abbrev TA := St → Hp → (List V → Hp → Prop) → Prop
structure zrb where
 nx : St → Hp → Prop
 rt : VK
 bk : St → Hp → Prop := fun _ _ => False
 ct : St → Hp → Prop := fun _ _ => False
noncomputable abbrev TS := zrb → St → Hp → Prop
noncomputable def EP (X : Cx) (pins : List (Addr × Obj)) (σ : St) (Q : VK) (u : Value) (s' : Shared) : Prop := ∃ v H', Inv X pins σ H' s' ∧ zbC v u ∧ Q v H'
noncomputable def TP (X : Cx) (pins : List (Addr × Obj)) (σ : St) (Q : Bool → Hp → Prop) (b : Bool) (s' : Shared) : Prop := ∃ H', Inv X pins σ H' s' ∧ Q b H'
noncomputable def AP (X : Cx) (pins : List (Addr × Obj)) (σ : St) (Q : List V → Hp → Prop) (us : List Value) (s' : Shared) : Prop := ∃ vs H', Inv X pins σ H' s' ∧ zbA vs us ∧ Q vs H'
noncomputable def SP (X : Cx) (pins : List (Addr × Obj)) (D : zrb) (f : Flow) (s' : Shared) : Prop :=
 match f with
 | .next => ∃ σ' H', Inv X pins σ' H' s' ∧ D.nx σ' H'
 | .brk => ∃ σ' H', Inv X pins σ' H' s' ∧ D.bk σ' H'
 | .cont => ∃ σ' H', Inv X pins σ' H' s' ∧ D.ct σ' H'
 | .ret u => ∃ v σ' H', Inv X pins σ' H' s' ∧ zbC v u ∧ D.rt v H'
noncomputable def PE (X : Cx) (e : Expr) (t : TE) : Prop :=
 ∀ (pins : List (Addr × Obj)) (s : Shared) (σ : St) (H : Hp) (Q : VK), Inv X pins σ H s → t σ H Q → wpAny (model X.prog X.w) X.A (eval e X.env) (EP X pins σ Q) X.xe s
noncomputable def PT (X : Cx) (e : Expr) (t : TT) : Prop :=
 ∀ (pins : List (Addr × Obj)) (s : Shared) (σ : St) (H : Hp) (Q : Bool → Hp → Prop), Inv X pins σ H s → t σ H Q → wpAny (model X.prog X.w) X.A (isTrue e X.env (eval e X.env)) (TP X pins σ Q) X.xe s
noncomputable def PW (X : Cx) (e : Expr) (t : TT) : Prop :=
 ∀ (whole : Sem Value) (pins : List (Addr × Obj)) (s : Shared) (σ : St) (H : Hp) (Q : Bool → Hp → Prop), Inv X pins σ H s → t σ H Q → wpAny (model X.prog X.w) X.A (isTrue e X.env whole) (TP X pins σ Q) X.xe s
noncomputable def PA (X : Cx) (es : List Expr) (t : TA) : Prop :=
 ∀ (pos : Pos) (pins : List (Addr × Obj)) (s : Shared) (σ : St) (H : Hp) (Q : List V → Hp → Prop), Inv X pins σ H s → t σ H Q → wpAny (model X.prog X.w) X.A (spliced (backTo pos (starEach es X.env))) (AP X pins σ Q) X.xe s
noncomputable def PS (X : Cx) (st : Stmt) (t : TS) : Prop :=
 ∀ (pins : List (Addr × Obj)) (s : Shared) (σ : St) (H : Hp) (D : zrb), Inv X pins σ H s → t D σ H → wpAny (model X.prog X.w) X.A (exec st X.env) (SP X pins D) X.xe s
noncomputable def PSs (X : Cx) (st : List Stmt) (t : TS) : Prop :=
 ∀ (pins : List (Addr × Obj)) (s : Shared) (σ : St) (H : Hp) (D : zrb), Inv X pins σ H s → t D σ H → wpAny (model X.prog X.w) X.A (execs st X.env) (SP X pins D) X.xe s
theorem thn {α : Type} {t : Sem α} {Q Q' : α → Shared → Prop} {M : Model} {A : Around} {E : Value → Shared → Prop} {s : Shared} (h : wpAny M A t Q E s) (hQ : ∀ a s, Q a s → Q' a s) : wpAny M A t Q' E s := wpAny_mono h hQ fun _ _ x => x
end L2
namespace L2
open PySem PySem.Spec PyProof.Rows
section
variable {X : Cx}
theorem bin {a b : Expr} {ta tb : TE} (ha : PE X a ta) (hb : PE X b tb) {pins : List (Addr × Obj)} {s : Shared} {σ : St} {H : Hp} {R : V → V → Hp → Prop} (I : Inv X pins σ H s) (h : ta σ H fun x H1 => tb σ H1 fun y H2 => R x y H2)
  {α : Type} {Q : α → Shared → Prop} {f : Value → Value → Sem α}
  (hf : ∀ v u s2 x y H2, Inv X pins σ H2 s2 → zbC x v → zbC y u → R x y H2 → wpAny (model X.prog X.w) X.A (f v u) Q X.xe s2) :
  wpAny (model X.prog X.w) X.A (eval a X.env) (fun v s₁ => wpAny (model X.prog X.w) X.A (eval b X.env) (fun u s₂ => wpAny (model X.prog X.w) X.A (f v u) Q X.xe s₂) X.xe s₁) X.xe s := by
 refine thn (ha pins s σ H _ I h) fun v s1 ⟨x, H1, I1, r1, q1⟩ => ?_
 refine thn (hb pins s1 σ H1 _ I1 q1) fun u s2 ⟨y, H2, I2, r2, q2⟩ => ?_
 exact hf v u s2 x y H2 I2 r1 r2 q2
noncomputable def tVar (i : Nat) : TE := fun σ H Q => ∃ v, σ[i]? = some (some v) ∧ Q v H
noncomputable def tC (v : V) : TE := fun _ H Q => Q v H
theorem zvj {i : Nat} {x : Str} {pos : Pos} (hN : X.N[i]? = some x) (hv : Vis X.env.scope x) (hd : (x == ("__debug__" : Str)) = false := by decide) (hcd : (x == ("__classdict__" : Str)) = false := by decide) : PE X (.Name x pos) (tVar i) := by
 intro pins s σ H Q I h
 obtain ⟨v, e, h⟩ := h
 obtain ⟨m, hn, hl⟩ := I.loc
 obtain ⟨u, r, l⟩ := hl i x v hN e hv
 have fin : EP X pins σ Q u s := ⟨v, H, I, r, h⟩
 rcases l with ⟨hk, hm⟩ | ⟨hk, c, hc, hcell⟩
 ·exact wpAny_Name (wpAny_loadName_local I.ok.kind hk hn hm fin) hd
 ·rcases hk with hk | hk
  ·exact wpAny_Name (wpAny_loadName_cell I.ok.kind hk hc hcell fin) hd
  ·exact wpAny_Name (wpAny_loadName_free I.ok.kind hk hc hcell fin hcd) hd
theorem zvk {i j pos} : PE X (.Constant (.int i) j pos) (tC (.int i)) := fun _ _ _ H _ I h => wpAny_Constant_int ⟨.int i, H, I.tok _, ⟨_, rfl⟩, h⟩
theorem zxy {b j pos} : PE X (.Constant (.bool b) j pos) (tC (.bl b)) := fun _ _ _ H _ I h => Constant_bool ⟨.bl b, H, I, rfl, h⟩
theorem zvl {j pos} : PE X (.Constant .none j pos) (tC .non) := fun _ _ _ H _ I h => Constant_none ⟨.non, H, I, rfl, h⟩
theorem zvm {x j pos} : PE X (.Constant (.str x) j pos) (tC (.str x)) := fun _ _ _ H _ I h => Calls.Constant_str ⟨.str x, H, I.tok _, ⟨_, rfl⟩, h⟩
noncomputable def Gl (X : Cx) (x : Str) : Prop := X.env.kindOf x = some .globalImplicit
theorem zlq {E : Value → Shared → Prop} {pins : List (Addr × Obj)} {s : Shared} {σ : St} {H : Hp} {x : Str} {u : Value} {pos : Pos} {Q : Value → Shared → Prop} (I : Inv X pins σ H s) (hg : Gl X x) (hm : X.mg x = some u) (h : Q u s)
  (hd : (x == ("__debug__" : Str)) = false := by decide) : wpAny (model X.prog X.w) X.A (eval (.Name x pos) X.env) Q E s :=
 Calls.Name_function_global I.ok.kind hg (Calls.loadGlobal_global (by rw [I.ok.glob]; exact I.mod.glob.keeps I.bk) hm h) hd
theorem ziD {E : Value → Shared → Prop} {pins : List (Addr × Obj)} {s : Shared} {σ : St} {H : Hp} {x : Str} {u : Value} {pos : Pos} {Q : Value → Shared → Prop} (I : Inv X pins σ H s) (hg : Gl X x) (hm : X.mg x = none) (hv : bootBuiltins x = some u) (h : Q u s)
  (hn : x ≠ "__name__" := by decide) (hd : (x == ("__debug__" : Str)) = false := by decide) : wpAny (model X.prog X.w) X.A (eval (.Name x pos) X.env) Q E s := by
 obtain ⟨mb, h1, h2⟩ := I.mod.blt
 exact Calls.Name_function_global I.ok.kind hg (Calls.loadGlobal_builtin (by rw [I.ok.glob]; exact I.mod.glob.keeps I.bk) hm (by rw [I.ok.blt]; exact h1.keeps I.bk) ((h2 x hn).trans hv) h) hd
theorem ztB {x : Str} {v : V} {u : Value} {pos : Pos} (hg : Gl X x) (hm : X.mg x = some u) (r : zbC v u) (hd : (x == ("__debug__" : Str)) = false := by decide) : PE X (.Name x pos) (tC v) :=
 fun _ _ _ H _ I h => zlq I hg hm ⟨v, H, I, r, h⟩ hd
theorem ztC {x : Str} {v : V} {u : Value} {pos : Pos} (hg : Gl X x) (hm : X.mg x = none) (hv : bootBuiltins x = some u) (r : zbC v u) (hn : x ≠ "__name__" := by decide) (hd : (x == ("__debug__" : Str)) = false := by decide) : PE X (.Name x pos) (tC v) :=
 fun _ _ _ H _ I h => ziD I hg hm hv ⟨v, H, I, r, h⟩ hn hd
variable {a b : Expr} {ta tb : TE} {pos : Pos}
noncomputable def PC (X : Cx) (op : CmpOp) (a b : Expr) (t : TE) : Prop :=
 ∀ (pins : List (Addr × Obj)) (s : Shared) (σ : St) (H : Hp) (Q : VK), Inv X pins σ H s → t σ H Q →
  wpAny (model X.prog X.w) X.A (eval a X.env) (fun v s₁ => wpAny (model X.prog X.w) X.A (eval b X.env) (fun u s₂ => wpAny (model X.prog X.w) X.A (compareOp op v u) (EP X pins σ Q) X.xe s₂) X.xe s₁) X.xe s
theorem zaM (b : Expr) {op : CmpOp} (h : op ≠ .In) (h2 : op ≠ .NotIn) : behindInMarks op b = false := by
 have e1 : (op == CmpOp.In) = false := by cases op <;> first | rfl | exact absurd rfl h
 have e2 : (op == CmpOp.NotIn) = false := by cases op <;> first | rfl | exact absurd rfl h2
 cases b <;> simp [behindInMarks, e1, e2]
noncomputable def tB (t : TE) : TT := fun σ H Q => t σ H fun x H1 => ∃ c, x = .bl c ∧ Q c H1
theorem pt_cmp {op : CmpOp} {t : TE} (h : PC X op a b t) (h1 : behindInMarks op b = false := by first | exact zaM _ (by decide) (by decide) | rfl) : PT X (.Compare a [op] [b] pos) (tB t) := by
 intro pins s σ H Q I hw
 refine wpAny_isTrue_Compare1 (thn (h pins s σ H _ I hw) fun v s1 h1 => thn h1 fun u s2 h2 => thn h2 fun c s3 ⟨x, H1, I1, r1, q1⟩ => ?_) h1
 obtain ⟨d, rfl, q⟩ := q1
 cases r1
 exact wpAny_truthy_bool ⟨H1, I1, q⟩
theorem zvn {e : Expr} {t : TE} (h : PE X e t) (he : ∀ whole, isTrue e X.env whole = (do let v ← whole; standAt e.pos; holding [v] (truthy v)) := by intro _; rfl) : PT X e (tB t) := by
 intro pins s σ H Q I hw
 refine isTrue_plain (thn (h pins s σ H _ I hw) fun v s1 ⟨x, H1, I1, r1, q1⟩ => ?_) (he _)
 obtain ⟨d, rfl, q⟩ := q1
 cases r1
 exact wpAny_truthy_bool ⟨H1, I1, q⟩
variable {tA tB' : TT} {zbs : List Expr}
noncomputable def tAnd (t u : TT) : TT := fun σ H Q => t σ H fun c H1 => if c = true then u σ H1 Q else Q false H1
noncomputable def tOr (t u : TT) : TT := fun σ H Q => t σ H fun c H1 => if c = true then Q true H1 else u σ H1 Q
noncomputable def tNot (t : TT) : TT := fun σ H Q => t σ H fun c H1 => Q (!c) H1
theorem ztD (ha : PT X a tA) : PW X (.BoolOp .And [a] pos) tA := by
 intro wh pins s σ H Q I h
 refine isTrue_and (thn (ha pins s σ H Q I h) fun c s1 e => ?_)
 cases c with
 | true => exact isTrue_and_nil e
 | false => exact e
theorem zvo (ha : PT X a tA) : PW X (.BoolOp .Or [a] pos) tA := by
 intro wh pins s σ H Q I h
 refine isTrue_or (thn (ha pins s σ H Q I h) fun c s1 e => ?_)
 cases c with
 | false => exact isTrue_or_nil e
 | true => exact e
theorem zvp (ha : PT X a tA) (hb : PW X (.BoolOp .And (b :: zbs) pos) tB') : PW X (.BoolOp .And (a :: b :: zbs) pos) (tAnd tA tB') := by
 intro wh pins s σ H Q I h
 refine isTrue_and (thn (ha pins s σ H _ I h) fun c s1 ⟨H1, I1, q1⟩ => ?_)
 cases c with
 | true => exact hb wh pins s1 σ H1 Q I1 q1
 | false => exact ⟨H1, I1, q1⟩
theorem zxz (ha : PT X a tA) (hb : PW X (.BoolOp .Or (b :: zbs) pos) tB') : PW X (.BoolOp .Or (a :: b :: zbs) pos) (tOr tA tB') := by
 intro wh pins s σ H Q I h
 refine isTrue_or (thn (ha pins s σ H _ I h) fun c s1 ⟨H1, I1, q1⟩ => ?_)
 cases c with
 | true => exact ⟨H1, I1, q1⟩
 | false => exact hb wh pins s1 σ H1 Q I1 q1
theorem zvq (ha : PT X a tA) : PT X (.UnaryOp .Not a pos) (tNot tA) := by
 intro pins s σ H Q I h
 exact isTrue_not (ha pins s σ H (fun c H1 => Q (!c) H1) I h)
noncomputable def zxA (ta tb : TE) : TE := fun σ H Q => ta σ H fun x H1 => ∃ c, x = .bl c ∧ if c = true then tb σ H1 Q else Q (.bl false) H1
noncomputable def zxB (ta : TE) : TE := fun σ H Q => ta σ H fun x H1 => ∃ c, x = .bl c ∧ Q (.bl (!c)) H1
theorem zvr {op} {t : TE} (h : PE X a t) : PE X (.BoolOp op [a] pos) t := fun pins s σ H Q I hw => BoolOp_one (h pins s σ H Q I hw)
theorem zvs (ha : PE X a ta) (hb : PE X (.BoolOp .And (b :: zbs) pos) tb) : PE X (.BoolOp .And (a :: b :: zbs) pos) (zxA ta tb) := by
 intro pins s σ H Q I h
 refine BoolOp_and (thn (ha pins s σ H _ I h) fun v s1 ⟨x, H1, I1, r1, q1⟩ => ?_)
 obtain ⟨c, rfl, q1⟩ := q1
 cases r1
 refine wpAny_truthy_bool ?_
 cases c with
 | true => exact hb pins s1 σ H1 Q I1 q1
 | false => exact ⟨.bl false, H1, I1, rfl, q1⟩
theorem zvt (ha : PE X a ta) : PE X (.UnaryOp .Not a pos) (zxB ta) := by
 intro pins s σ H Q I h
 refine UnaryOp_ (thn (ha pins s σ H _ I h) fun v s1 ⟨x, H1, I1, r1, q1⟩ => ?_)
 obtain ⟨c, rfl, q1⟩ := q1
 cases r1
 exact not_of (wpAny_truthy_bool ⟨.bl (!c), H1, I1, rfl, q1⟩)
end
end L2
namespace L2
open PySem PySem.Spec PyProof.Rows
noncomputable def SqL (K : PySem.W.Frag) (H : Hp) (a : Addr) (xs : List V) : Prop :=
 Rd H a (.lst xs) ∨
  ∃ (o : Obj) (its : Array Value) (n : Nat), K.lookup a = some o ∧ o.cls = .type "list" ∧ o.dict = none ∧ o.data = .seq its n ∧ its.size ≤ sizeLine ∧ zbA xs its.toList
noncomputable def SqT (K : PySem.W.Frag) (H : Hp) (a : Addr) (xs : List V) : Prop :=
 Rd H a (.tup xs) ∨
  ∃ (o : Obj) (its : Array Value) (n : Nat), K.lookup a = some o ∧ o.cls = .type "tuple" ∧ o.data = .seq its n ∧ its.size ≤ sizeLine ∧ zbA xs its.toList
noncomputable def absV : Value → Option V
 | .none => some .non
 | .bool b => some (.bl b)
 | .int i _ => some (.int i)
 | .str x _ => some (.str x)
 | .bytes b _ => some (.byt b)
 | .float b _ => some (.flt b)
 | .ref a => some (.ref a)
 | .type n => some (.ty n)
 | _ => none
theorem zbC.abs {x : V} {u : Value} (r : zbC x u) : absV u = some x := by
 cases x with
 | non => cases r; rfl
 | bl _ => cases r; rfl
 | int _ => obtain ⟨t, rfl⟩ := r; rfl
 | str _ => obtain ⟨t, rfl⟩ := r; rfl
 | byt _ => obtain ⟨t, rfl⟩ := r; rfl
 | flt _ => obtain ⟨t, rfl⟩ := r; rfl
 | ref _ => cases r; rfl
 | ty _ => cases r; rfl
theorem zbC.inj {x y : V} {u : Value} (r : zbC x u) (q : zbC y u) : x = y := Option.some.inj (r.abs.symm.trans q.abs)
theorem zbA.inj : ∀ {xs ys : List V} {us : List Value}, zbA xs us → zbA ys us → xs = ys
 | _, _, _, .nil, .nil => rfl
 | _, _, _, .cons r t, .cons r' t' => by rw [r.inj r', zbA.inj t t']
section
variable {X : Cx} {pins : List (Addr × Obj)} {σ : St} {H : Hp} {s : Shared} {a : Addr} {xs ys : List V}
theorem SqL.of {K : PySem.W.Frag} (h : H a = some (.lst xs)) : SqL K H a xs := .inl (.inl h)
theorem SqT.of {K : PySem.W.Frag} (h : H a = some (.tup xs)) : SqT K H a xs := .inl (.inl h)
theorem Inv.list (I : Inv X pins σ H s) (h : SqL X.K H a xs) : ∃ its : List Value, zbA xs its ∧ PlainL s.heap a its.toArray ∧ xs.length ≤ sizeLine := by
 rcases h with h | ⟨o, its, n, hk, hc, hd, hs, hz, r⟩
 ·obtain ⟨z, its, n, r, e⟩ := h.ok I.hok
  exact ⟨its, r, ⟨_, n, e, rfl, rfl, rfl⟩, z⟩
 ·refine ⟨its.toList, r, ⟨o, n, I.kIn a o hk, hc, hd, by simpa using hs⟩, ?_⟩
  have e := r.length
  simp only [Array.length_toList] at e
  omega
theorem Inv.tuple (I : Inv X pins σ H s) (h : SqT X.K H a xs) : ∃ its : List Value, zbA xs its ∧ IsTup s.heap a its.toArray ∧ xs.length ≤ sizeLine := by
 rcases h with h | ⟨o, its, n, hk, hc, hs, hz, r⟩
 ·obtain ⟨z, its, r, p⟩ := h.ok I.hok
  exact ⟨its, r, p, z⟩
 ·refine ⟨its.toList, r, ⟨o, I.kIn a o hk, hc, n, by simpa using hs⟩, ?_⟩
  have e := r.length
  simp only [Array.length_toList] at e
  omega
theorem Inv.list_inj (I : Inv X pins σ H s) (h : SqL X.K H a xs) (h' : SqL X.K H a ys) : xs = ys := by
 obtain ⟨its, r, ⟨o, n, e, _, _, d⟩, _⟩ := I.list h
 obtain ⟨its', r', ⟨o', n', e', _, _, d'⟩, _⟩ := I.list h'
 rw [e] at e'; cases e'
 rw [d] at d'
 injection d' with d1 _
 have : its = its' := by simpa using congrArg Array.toList d1
 subst this
 exact r.inj r'
theorem Inv.tuple_inj (I : Inv X pins σ H s) (h : SqT X.K H a xs) (h' : SqT X.K H a ys) : xs = ys := by
 obtain ⟨its, r, ⟨o, e, _, n, d⟩, _⟩ := I.tuple h
 obtain ⟨its', r', ⟨o', e', _, n', d'⟩, _⟩ := I.tuple h'
 rw [e] at e'; cases e'
 rw [d] at d'
 injection d' with d1 _
 have : its = its' := by simpa using congrArg Array.toList d1
 subst this
 exact r.inj r'
end
section
variable {X : Cx} {pins : List (Addr × Obj)} {σ : St} {H : Hp} {s : Shared} {E : Value → Shared → Prop}
end
section
variable {X : Cx} {st : Stmt} {zbs : List Stmt} {t u : TS} {e : Expr} {te : TE} {pos : Pos}
noncomputable def zxC : TS := fun D σ H => D.nx σ H
noncomputable def tSeq (t u : TS) : TS := fun D σ H => t { D with nx := u D } σ H
theorem ztE : PSs X [] zxC := fun _ _ σ H _ I h => wpAny_execs_nil ⟨σ, H, I, h⟩
theorem zrc (h1 : PS X st t) (h2 : PSs X zbs u) : PSs X (st :: zbs) (tSeq t u) := by
 intro pins s σ H D I h
 refine wpAny_execs_cons (thn (h1 pins s σ H { D with nx := u D } I h) fun f s1 q => ?_)
 cases f with
 | next =>
  obtain ⟨σ', H', I', q⟩ := q
  exact h2 pins s1 σ' H' D I' q
 | ret v => exact q
 | brk => exact q
 | cont => exact q
theorem ztF (h1 : PS X st t) : PSs X [st] t := by
 intro pins s σ H D I h
 refine wpAny_execs_cons (thn (h1 pins s σ H D I h) fun f s1 q => ?_)
 cases f with
 | next => exact wpAny_execs_nil q
 | ret v => exact q
 | brk => exact q
 | cont => exact q
theorem Inv.quiet {pins : List (Addr × Obj)} {σ : St} {H : Hp} {s : Shared} (I : Inv X pins σ H s) : interactive X.env = false := by simp [interactive, I.ok.kind]
noncomputable def zxD (te : TE) : TS := fun D σ H => te σ H fun _ H1 => D.nx σ H1
theorem zlr (he : PE X e te) (hs : swapsWith e none pos.line X.env = pure false := by rfl) : PS X (.Expr e pos) (zxD te) := by
 intro pins s σ H D I h
 exact wpAny_Expr_any (thn (he pins s σ H _ I h) fun v s1 ⟨x, H1, I1, r1, q1⟩ => ⟨σ, H1, I1, q1⟩) I.quiet hs
noncomputable def tRet (te : TE) : TS := fun D σ H => te σ H D.rt
theorem zou (he : PE X e te) : PS X (.Return (some e) pos) (tRet te) := by
 intro pins s σ H D I h
 exact wpAny_Return_some (thn (he pins s σ H _ I h) fun v s1 ⟨x, H1, I1, r1, q1⟩ => ⟨x, σ, H1, I1, r1, q1⟩)
noncomputable def tIfS (c : TT) (t u : TS) : TS := fun D σ H => c σ H fun b H1 => if b = true then t D σ H1 else u D σ H1
theorem zxE {c : Expr} {a b : List Stmt} {tc : TT} (hc : PT X c tc) (ha : PSs X a t) (hb : PSs X b u) : PS X (.If c a b pos) (tIfS tc t u) := by
 intro pins s σ H D I h
 refine wpAny_If (thn (hc pins s σ H _ I h) fun d s1 ⟨H1, I1, q1⟩ => ?_)
 cases d with
 | true => exact ha pins s1 σ H1 D I1 q1
 | false => exact hb pins s1 σ H1 D I1 q1
noncomputable def zvu : TS := fun _ _ _ => False
theorem zrd : PS X st zvu := fun _ _ _ _ _ _ h => h.elim
end
noncomputable abbrev TG := V → St → Hp → (St → Hp → Prop) → Prop
noncomputable abbrev TGs := List V → St → Hp → (St → Hp → Prop) → Prop
noncomputable def PG (X : Cx) (target : Expr) (t : TG) : Prop :=
 ∀ (pins : List (Addr × Obj)) (s : Shared) (σ : St) (H : Hp) (v : V) (u : Value) (Q : St → Hp → Prop), Inv X pins σ H s → zbC v u → t v σ H Q →
  wpAny (model X.prog X.w) X.A (assign target X.env u) (fun _ s' => ∃ σ' H', Inv X pins σ' H' s' ∧ Q σ' H') X.xe s
noncomputable def PGs (X : Cx) (ts : List Expr) (t : TGs) : Prop :=
 ∀ (pins : List (Addr × Obj)) (s : Shared) (σ : St) (H : Hp) (vs : List V) (us : List Value) (Q : St → Hp → Prop), Inv X pins σ H s → zbA vs us → t vs σ H Q →
  wpAny (model X.prog X.w) X.A (assignInOrder ((assignEach ts X.env).map (·.2)) us) (fun _ s' => ∃ σ' H', Inv X pins σ' H' s' ∧ Q σ' H') X.xe s
noncomputable abbrev TSet := V → V → V → Hp → (Hp → Prop) → Prop
noncomputable def PSet (X : Cx) (t : TSet) : Prop :=
 ∀ (pins : List (Addr × Obj)) (s : Shared) (σ : St) (H : Hp) (o i v : V) (ov iv u : Value) (Q : Hp → Prop), Inv X pins σ H s → zbC o ov → zbC i iv → zbC v u → t o i v H Q →
  wpAny (model X.prog X.w) X.A (setItem ov iv u) (fun _ s' => ∃ H', Inv X pins σ H' s' ∧ Q H') X.xe s
section
variable {X : Cx} {pos : Pos}
noncomputable def zj0 (i : Nat) : TG := fun v σ H Q => Q (σ.set i (some v)) H
theorem zfk {i : Nat} {x : Str} (hN : X.N.Nodup) (hi : X.N[i]? = some x) (hx : Loc X.env.scope x) (hf : X.fn x = true ∨ X.env.scope.names.lookup x = some .local := by first | exact .inl rfl | exact .inr rfl | assumption) : PG X (.Name x pos) (zj0 i) := by
 intro pins s σ H v u Q I r h
 exact wpAny_assign_Name (zjg I hN hi hx r (fun s' I' => ⟨_, H, I', h⟩) hf)
noncomputable def gNil : TGs := fun vs σ H Q => vs = [] ∧ Q σ H
noncomputable def zvv (t : TG) (u : TGs) : TGs := fun vs σ H Q => ∃ v r, vs = v :: r ∧ t v σ H fun σ' H' => u r σ' H' Q
theorem zls : PGs X [] gNil := by
 intro pins s σ H vs us Q I r h
 obtain ⟨e, h⟩ := h
 subst e
 cases r
 exact assignInOrder_nil ⟨σ, H, I, h⟩
theorem zeH {e : Expr} {es : List Expr} {t : TG} {u : TGs} (h1 : PG X e t) (h2 : PGs X es u)
  (hs : (assignEach (e :: es) X.env).map (·.2) = assign e X.env :: (assignEach es X.env).map (·.2) := by rfl) : PGs X (e :: es) (zvv t u) := by
 intro pins s σ H vs us Q I r h
 obtain ⟨v, vr, e1, h⟩ := h
 subst e1
 cases r with
 | cons r rr =>
  rw [hs]
  refine assignInOrder_cons (thn (h1 pins s σ H _ _ _ I r h) fun _ s1 ⟨σ1, H1, I1, q1⟩ => ?_)
  exact h2 pins s1 σ1 H1 _ _ Q I1 rr q1
noncomputable def gTup (K : PySem.W.Frag) (n : Nat) (t : TGs) : TG := fun v σ H Q => ∃ a xs, v = .ref a ∧ SqT K H a xs ∧ xs.length = n ∧ t xs σ H Q
theorem zvw {es : List Expr} {k : Nat} {t : TGs} {n : Nat} (hc : X.calm = true) (h : PGs X es t)
  (hn : (assignEach es X.env).length = n := by rfl) (hst : (assignEach es X.env).findIdx? (·.1) = none := by rfl) : PG X (.Tuple es k pos) (gTup X.K n t) := by
 intro pins s σ H v u Q I r hw
 obtain ⟨a, xs, e1, hq, hl, hw⟩ := hw
 subst e1
 cases r
 obtain ⟨its, rv, ht, hz⟩ := I.tuple hq
 refine assign_Tuple_tuple (I.ok.hd hc) ht (by simp [hn, ← hl, rv.length]) hst fun h' hx => ?_
 have I1 : Inv X pins σ H { s with heap := h' } := I.kept (t' := s.toks) fun b o e => hx b o (Nat.ne_of_lt (Heap.lt_size e)) e
 exact h pins _ σ H xs _ Q I1 (by simpa using rv) hw
noncomputable def gSub (to ti : TE) (t : TSet) : TG := fun v σ H Q => to σ H fun o H1 => ti σ H1 fun i H2 => t o i v H2 fun H3 => Q σ H3
theorem zvx {o i : Expr} {to ti : TE} {t : TSet} (ho : PE X o to) (hi : PE X i ti) (hs : PSet X t)
  (ha : ∀ v, assign (.Subscript o i pos) X.env v = (do
   let ov ← holding [v] (eval o X.env)
   let iv ← holding [v, ov] (eval i X.env)
   standAt pos
   holding [v, ov, iv] (setItem ov iv v)
   release [v, ov, iv] []) := by intro _; rfl) : PG X (.Subscript o i pos) (gSub to ti t) := by
 intro pins s σ H v u Q I r h
 rw [ha]
 refine wpAny_bind (wpAny_holding (thn (ho pins s σ H _ I h) fun ov s1 ⟨x, H1, I1, r1, q1⟩ => ?_))
 refine wpAny_bind (wpAny_holding (thn (hi pins s1 σ H1 _ I1 q1) fun iv s2 ⟨y, H2, I2, r2, q2⟩ => ?_))
 refine wpAny_bind (wpAny_standAt (wpAny_bind (wpAny_holding (thn (hs pins s2 σ H2 x y v ov iv u _ I2 r1 r2 r q2) fun _ s3 ⟨H3, I3, q3⟩ => ?_))))
 exact wpAny_release ⟨σ, H3, I3, q3⟩
noncomputable def ztG (te : TE) (g : TG) : TS := fun D σ H => te σ H fun x H1 => g x σ H1 D.nx
theorem zso {tg e : Expr} {te : TE} {g : TG} (he : PE X e te) (hg : PG X tg g) (hs : swapsWithSole [tg] e pos.line X.env = pure false := by rfl) (hw : swappedStores [tg] e X.env = pure none := by rfl)
  (h1 : (assignEach [tg] X.env).map (·.2) = [assign tg X.env] := by rfl) : PS X (.Assign [tg] e pos) (ztG te g) := by
 intro pins s σ H D I h
 refine wpAny_Assign_stores (thn (he pins s σ H _ I h) fun v s1 ⟨x, H1, I1, r1, q1⟩ => ?_) hs hw
 rw [h1]
 exact thn (hg pins s1 σ H1 x v _ I1 r1 q1) fun _ s2 q => q
theorem zma {i : Nat} {x : Str} {e : Expr} {te : TE} {pos' : Pos} (hN : X.N.Nodup) (hi : X.N[i]? = some x) (hx : Loc X.env.scope x) (he : PE X e te) (hs : swapsWith e (some (.Name x pos')) pos.line X.env = pure false := by rfl) (hf : X.fn x = true ∨ X.env.scope.names.lookup x = some .local := by first | exact .inl rfl | exact .inr rfl | assumption) :
  PS X (.Assign [.Name x pos'] e pos) (ztG te (zj0 i)) := by
 intro pins s σ H D I h
 refine wpAny_Assign_Name (thn (he pins s σ H _ I h) fun v s1 ⟨y, H1, I1, r1, q1⟩ => ?_) hs
 exact zjg I1 hN hi hx r1 (fun s2 I2 => ⟨_, H1, I2, q1⟩) hf
end
section
variable {X : Cx} {pos : Pos}
noncomputable def zvy (c : TT) (tb : TS) : TS := fun D σ H => ∃ W : Nat → St → Hp → Prop, (∃ m, W m σ H) ∧ ∀ m σ H, W m σ H →
 c σ H fun b H1 => if b = true then ∃ N : St → Hp → Prop, (∀ σ' H', N σ' H' → ∃ m', m' < m ∧ W m' σ' H') ∧ tb { D with nx := N, ct := N, bk := D.nx } σ H1 else D.nx σ H1
theorem zre {c : Expr} {body : List Stmt} {tc : TT} {tb : TS} (hp : PassesOwn (model X.prog X.w) X.A X.env X.xe) (hc : PT X c tc) (hb : PSs X body tb) : PS X (.While c body [] pos) (zvy tc tb) := by
 intro pins s σ H D I h
 obtain ⟨W, ⟨m0, w0⟩, turn⟩ := h
 refine wpAny_While (codeAny_whileLoop (fun n s' => ∃ σ' H', Inv X pins σ' H' s' ∧ W n σ' H') ?_ m0 ⟨σ, H, I, w0⟩)
 rintro n s1 ⟨σ1, H1, I1, w1⟩
 refine wpAny_passesOwn hp (thn (hc pins s1 σ1 H1 _ I1 (turn n σ1 H1 w1)) fun b s2 ⟨H2, I2, q2⟩ => ?_)
 cases b with
 | true =>
  obtain ⟨N, hN, q2⟩ := q2
  rw [if_pos rfl]
  refine wpAny_passesOwn hp (thn (hb pins s2 σ1 H2 _ I2 q2) fun f s3 q3 => ?_)
  cases f with
  | next =>
   obtain ⟨σ3, H3, I3, n3⟩ := q3
   obtain ⟨m', hm, w3⟩ := hN σ3 H3 n3
   exact ⟨m', hm, σ3, H3, I3, w3⟩
  | cont =>
   obtain ⟨σ3, H3, I3, n3⟩ := q3
   obtain ⟨m', hm, w3⟩ := hN σ3 H3 n3
   exact ⟨m', hm, σ3, H3, I3, w3⟩
  | brk => exact q3
  | ret v => exact q3
 | false =>
  rw [if_neg Bool.false_ne_true]
  exact wpAny_execs_nil ⟨σ1, H2, I2, q2⟩
end
structure It where
 go : Nat → Hp → Prop
 yld : Nat → Hp → V → Hp → Prop
 stop : Nat → Hp → Prop
noncomputable def zom (X : Cx) (pins : List (Addr × Obj)) (H : Hp) (b : Addr) : Prop :=
 H b = none ∧ b ≠ X.env.locals ∧ b ∉ X.fs ∧ (b ∈ X.ex ∨ X.s₀.heap.objs.size ≤ b) ∧ (∀ x c, X.env.cells.lookup x = some c → c ≠ b) ∧ ∀ p ∈ X.pn ++ pins, p.1 ≠ b
theorem Inv.fpOk {X : Cx} {pins : List (Addr × Obj)} {σ : St} {H H' : Hp} {s : Shared} {b : Addr} (I : Inv X pins σ H s) (hb : s.heap.objs.size ≤ b) (hn : H' b = none) : zom X pins H' b := by
 refine ⟨hn, Nat.ne_of_gt (Nat.lt_of_lt_of_le I.lt hb), I.nofs hb, .inr (Nat.le_trans I.sz hb), fun x c e z => ?_, fun p hp z => ?_⟩
 ·obtain ⟨v, q⟩ := I.cell x c e
  exact absurd (Nat.lt_of_lt_of_le q.lt (by rw [z]; exact hb)) (Nat.lt_irrefl _)
 ·exact absurd (Nat.lt_of_lt_of_le (Heap.lt_size (I.pin p hp).1) (by rw [z]; exact hb)) (Nat.lt_irrefl _)
structure zu5 (P : Program) (w : World) (K : PySem.W.Frag) (tg : Expr) (J : It) (fp : List Addr) (it : Addr) (tn : Nat → Heap → Prop) : Prop where
 mem : it ∈ fp
 obj : ∀ i h, tn i h → ∀ b ∈ fp, ∃ o, h.get? b = some o ∧ ∀ v, o.data ≠ .cell v
 keep : ∀ i h h', tn i h → (∀ b ∈ fp, ∀ o, h.get? b = some o → h'.get? b = some o) → tn i h'
 item : ∀ (X : Cx), X.prog = P → X.w = w → X.K = K → X.calm = true → ∀ (i : Nat) (pins : List (Addr × Obj)) (s : Shared) (σ : St) (H : Hp) (E : Value → Shared → Prop), Inv X pins σ H s → (∀ b ∈ fp, zom X pins H b) → tn i s.heap → J.go i H →
  wpAny (model P w) X.A (pyNext (.ref it)) (fun r s1 => ∃ u, r = some u ∧
   wpAny (model P w) X.A (letOwnedTupleGo tg (.ref it) u) (fun _ s2 => ∃ x H', Inv X pins σ H' s2 ∧ zbC x u ∧ J.yld i H x H' ∧ tn (i + 1) s2.heap ∧ ∀ b ∈ fp, H' b = none) E s1) E s
 done : ∀ (X : Cx), X.prog = P → X.w = w → X.K = K → X.calm = true → ∀ (i : Nat) (pins : List (Addr × Obj)) (s : Shared) (σ : St) (H : Hp) (E : Value → Shared → Prop), Inv X pins σ H s → (∀ b ∈ fp, zom X pins H b) → tn i s.heap → J.stop i H →
  wpAny (model P w) X.A (pyNext (.ref it)) (fun r s1 => r = none ∧ Inv X pins σ H s1) E s
 self : ∀ (A : Around) (i : Nat) (s : Shared) (Q : Value → Shared → Prop) (E : Value → Shared → Prop), tn i s.heap → Q (.ref it) s → wpAny (model P w) A (pyIter (.ref it)) Q E s
noncomputable abbrev TI := St → Hp → (It → Hp → Prop) → Prop
noncomputable def PIE (X : Cx) (pins : List (Addr × Obj)) (σ : St) (tg : Expr) (R : It → Hp → Prop) (itv : Value) (s2 : Shared) : Prop :=
 ∃ (it : Addr) (fp : List Addr) (tn : Nat → Heap → Prop) (J : It) (H' : Hp), itv = .ref it ∧ Inv X pins σ H' s2 ∧ zu5 X.prog X.w X.K tg J fp it tn ∧ tn 0 s2.heap ∧ (∀ b ∈ fp, zom X pins H' b) ∧ R J H'
noncomputable def PI (X : Cx) (tg iter : Expr) (wi : TI) : Prop :=
 ∀ (pins : List (Addr × Obj)) (s : Shared) (σ : St) (H : Hp) (R : It → Hp → Prop), Inv X pins σ H s → wi σ H R →
  wpAny (model X.prog X.w) X.A (eval iter X.env) (fun v s1 => wpAny (model X.prog X.w) X.A (pyIter v) (PIE X pins σ tg R) X.xe s1) X.xe s
theorem ztH {M : Model} {A : Around} {E : Value → Shared → Prop} {s : Shared} {tg : Expr} {it : Addr} {u : Value} {o : Obj} {n : String} {vs : Array Value} {Q : Unit → Shared → Prop} (ho : s.heap.get? it = some o) (hc : o.cls = .type n) (hd : o.data = .fields vs)
  (hn : ["enumerate", "zip", "dict_itemiterator", "dict_reverseitemiterator", "odict_iterator", "itertools.zip_longest", "itertools.pairwise"].contains n = false) (hQ : Q () s) : wpAny M A (letOwnedTupleGo tg (.ref it) u) Q E s := by
 unfold letOwnedTupleGo
 cases tg <;> first
  | exact wpAny_pure hQ
  | (cases u <;> first
    | exact wpAny_pure hQ
    | (refine wpAny_bind (wpAny_load ho ?_)
       rw [hc, hd]
       show wpAny M A (if (["enumerate", "zip", "dict_itemiterator", "dict_reverseitemiterator", "odict_iterator", "itertools.zip_longest", "itertools.pairwise"].contains n && vs[0]? == some (rawInt _)) = true then _ else _) Q E s
       rw [if_neg (by intro h; rw [hn, Bool.false_and] at h; cases h)]
       exact wpAny_pure hQ))
noncomputable def Itl (K : PySem.W.Frag) (a : Addr) : It :=
 ⟨fun i H => ∃ xs x, SqL K H a xs ∧ xs[i]? = some x, fun i H x H' => H' = H ∧ ∀ xs, SqL K H a xs → xs[i]? = some x, fun i H => ∃ xs, SqL K H a xs ∧ xs.length ≤ i⟩
noncomputable def Itt (K : PySem.W.Frag) (a : Addr) : It :=
 ⟨fun i H => ∃ xs x, SqT K H a xs ∧ xs[i]? = some x, fun i H x H' => H' = H ∧ ∀ xs, SqT K H a xs → xs[i]? = some x, fun i H => ∃ xs, SqT K H a xs ∧ xs.length ≤ i⟩
noncomputable def Itr (lo : Int) (n : Nat) : It := ⟨fun i _ => i < n, fun i H x H' => H' = H ∧ x = .int (lo + i), fun i _ => n ≤ i⟩
theorem zov {P : Program} {w : World} {K : PySem.W.Frag} {tg : Expr} (a it : Addr) : zu5 P w K tg (Itl K a) [it] it (fun i h => h.IsListIter it a i) where
 mem := by simp
 obj := fun i h st b hb => by
  have e : b = it := by simpa using hb
  subst e
  obtain ⟨o, e, c, d⟩ := st
  exact ⟨o, e, fun v z => by rw [d] at z; cases z⟩
 keep := fun i h h' st k => st.at fun o e => k it (by simp) o e
 item := by
  intro X hP hw hK hc i pins s σ H E I hf st hg
  subst hP hw hK
  obtain ⟨xs, x, hq, hx⟩ := hg
  obtain ⟨its, rv, p, hz⟩ := I.list hq
  obtain ⟨u, hu, ru⟩ := rv.get hx
  obtain ⟨f0, f1, f2, f3, f4, f5⟩ := hf it (by simp)
  refine wpAny_pyNext_list_item st p.isList (x := u) (by simpa using hu) fun h' st' sb => ?_
  have I1 : Inv X pins σ H { s with heap := h' } := I.turned (t' := s.toks) (fun b o hb e => (sb.2 b hb).trans e) f0 f1 f3 f4 f5
  obtain ⟨o, e, c, d⟩ := id st'
  exact ⟨u, rfl, ztH (s := { s with heap := h' }) e c d (by decide) ⟨x, H, I1, ru, ⟨rfl, fun ys hy => by rw [I.list_inj hy hq]; exact hx⟩, st', fun b hb => (hf b hb).1⟩⟩
 done := by
  intro X hP hw hK hc i pins s σ H E I hf st hg
  subst hP hw hK
  obtain ⟨xs, hq, hx⟩ := hg
  obtain ⟨its, rv, p, hz⟩ := I.list hq
  obtain ⟨f0, f1, f2, f3, f4, f5⟩ := hf it (by simp)
  have hl := rv.length
  exact wpAny_pyNext_list_end (I.ok.hd hc) st p.isList (by simp; omega) fun h' eb => ⟨rfl, I.turned (t' := s.toks) (fun b o hb e => eb b o hb e) f0 f1 f3 f4 f5⟩
 self := fun _ _ _ _ _ st h => wpAny_pyIter_listiter st h
theorem znF {P : Program} {w : World} {K : PySem.W.Frag} {tg : Expr} (a it : Addr) : zu5 P w K tg (Itt K a) [it] it (fun i h => h.IsTupleIter it a i) where
 mem := by simp
 obj := fun i h st b hb => by
  have e : b = it := by simpa using hb
  subst e
  obtain ⟨o, e, c, d⟩ := st
  exact ⟨o, e, fun v z => by rw [d] at z; cases z⟩
 keep := fun i h h' st k => st.at fun o e => k it (by simp) o e
 item := by
  intro X hP hw hK hc i pins s σ H E I hf st hg
  subst hP hw hK
  obtain ⟨xs, x, hq, hx⟩ := hg
  obtain ⟨its, rv, p, hz⟩ := I.tuple hq
  obtain ⟨u, hu, ru⟩ := rv.get hx
  obtain ⟨f0, f1, f2, f3, f4, f5⟩ := hf it (by simp)
  refine wpAny_pyNext_tuple_item st (show s.heap.IsTuple a its.toArray from p) (x := u) (by simpa using hu) fun h' st' sb => ?_
  have I1 : Inv X pins σ H { s with heap := h' } := I.turned (t' := s.toks) (fun b o hb e => (sb.2 b hb).trans e) f0 f1 f3 f4 f5
  obtain ⟨o, e, c, d⟩ := id st'
  exact ⟨u, rfl, ztH (s := { s with heap := h' }) e c d (by decide) ⟨x, H, I1, ru, ⟨rfl, fun ys hy => by rw [I.tuple_inj hy hq]; exact hx⟩, st', fun b hb => (hf b hb).1⟩⟩
 done := by
  intro X hP hw hK hc i pins s σ H E I hf st hg
  subst hP hw hK
  obtain ⟨xs, hq, hx⟩ := hg
  obtain ⟨its, rv, p, hz⟩ := I.tuple hq
  obtain ⟨f0, f1, f2, f3, f4, f5⟩ := hf it (by simp)
  have hl := rv.length
  exact wpAny_pyNext_tuple_end (I.ok.hd hc) st (show s.heap.IsTuple a its.toArray from p) (by simp; omega) fun h' eb => ⟨rfl, I.turned (t' := s.toks) (fun b o hb e => eb b o hb e) f0 f1 f3 f4 f5⟩
 self := fun _ _ _ _ _ st h => wpAny_pyIter_tupleiter st h
theorem znG {P : Program} {w : World} {K : PySem.W.Frag} {tg : Expr} (it : Addr) (lo : Int) (n : Nat) : zu5 P w K tg (Itr lo n) [it] it (fun i h => IsRangeIter h it (lo + (i : Nat) * 1) ((n : Int) - (i : Nat)) 1) where
 mem := by simp
 obj := fun i h st b hb => by
  have e : b = it := by simpa using hb
  subst e
  exact ⟨_, st, fun v z => by
   have z' : Data.fields _ = Data.cell v := z
   cases z'⟩
 keep := fun i h h' st k => k it (by simp) _ st
 item := by
  intro X hP hw hK hc i pins s σ H E I hf st hg
  subst hP hw hK
  obtain ⟨f0, f1, f2, f3, f4, f5⟩ := hf it (by simp)
  have W := Walks.range (prog := X.prog) (w := X.w) (I.ok.hd hc) it lo 1 n
  refine W.item i s _ _ hg st fun v h' tk hv st' kk => ?_
  obtain ⟨t, rfl⟩ := hv
  have I1 : Inv X pins σ H { s with heap := h', toks := tk } := I.turned (fun b o hb e => kk b o (by simpa using hb) e) f0 f1 f3 f4 f5
  refine ⟨_, rfl, ztH (s := { s with heap := h', toks := tk }) (n := "range_iterator") st' rfl rfl (by decide) ⟨.int (lo + i), H, I1, ⟨t, ?_⟩, ⟨rfl, rfl⟩, st', fun b hb => (hf b hb).1⟩⟩
  rw [Int.mul_one]
 done := by
  intro X hP hw hK hc i pins s σ H E I hf st hg
  subst hP hw hK
  obtain ⟨f0, f1, f2, f3, f4, f5⟩ := hf it (by simp)
  exact wpAny_pyNext_range_end (I.ok.hd hc) st (by have : n ≤ i := hg; omega) fun h' eb => ⟨rfl, I.turned (t' := s.toks) (fun b o hb e => eb b o hb e) f0 f1 f3 f4 f5⟩
 self := fun _ _ _ _ _ st h => wpAny_pyIter_rangeiter st h
end L2
namespace L2
open PySem PySem.Spec PyProof.Rows
section
variable {X : Cx} {tg : Expr}
noncomputable def zvz (K : PySem.W.Frag) (tl : TE) : TI := fun σ H R => tl σ H fun x H1 => ∃ a, x = .ref a ∧ (∃ xs, SqL K H1 a xs) ∧ R (Itl K a) H1
noncomputable def iTup (K : PySem.W.Frag) (tl : TE) : TI := fun σ H R => tl σ H fun x H1 => ∃ a, x = .ref a ∧ (∃ xs, SqT K H1 a xs) ∧ R (Itt K a) H1
theorem ztI {l : Expr} {tl : TE} (hl : PE X l tl) : PI X tg l (zvz X.K tl) := by
 intro pins s σ H R I h
 refine thn (hl pins s σ H _ I h) fun v s1 ⟨x, H1, I1, r1, q1⟩ => ?_
 obtain ⟨a, e, ⟨xs, hq⟩, q⟩ := q1
 subst e
 cases r1
 obtain ⟨its, rv, p, hz⟩ := I1.list hq
 refine wpAny_pyIter_list p.isList ?_
 refine ⟨s1.heap.objs.size, [s1.heap.objs.size], _, _, H1, rfl, I1.kept (t' := s1.toks) fun b o e => Heap.get?_push_of_some _ e, zov a _, ⟨_, Heap.get?_push_size _ rfl, rfl, rfl⟩, fun b hb => ?_, q⟩
 have e : b = s1.heap.objs.size := by simpa using hb
 subst e
 exact I1.fpOk (Nat.le_refl _) (I1.hok.fresh (Nat.le_refl _))
theorem zvA {l : Expr} {tl : TE} (hl : PE X l tl) : PI X tg l (iTup X.K tl) := by
 intro pins s σ H R I h
 refine thn (hl pins s σ H _ I h) fun v s1 ⟨x, H1, I1, r1, q1⟩ => ?_
 obtain ⟨a, e, ⟨xs, hq⟩, q⟩ := q1
 subst e
 cases r1
 obtain ⟨its, rv, p, hz⟩ := I1.tuple hq
 refine wpAny_pyIter_tuple (show s1.heap.IsTuple a its.toArray from p) ?_
 refine ⟨s1.heap.objs.size, [s1.heap.objs.size], _, _, H1, rfl, I1.kept (t' := s1.toks) fun b o e => Heap.get?_push_of_some _ e, znF a _, ⟨_, Heap.get?_push_size _ rfl, rfl, rfl⟩, fun b hb => ?_, q⟩
 have e : b = s1.heap.objs.size := by simpa using hb
 subst e
 exact I1.fpOk (Nat.le_refl _) (I1.hok.fresh (Nat.le_refl _))
theorem zmb {pins : List (Addr × Obj)} {σ : St} {H : Hp} {s : Shared} {R : It → Hp → Prop} {E : Value → Shared → Prop} {lo hi : Int} {t u v : Tok} {tk : Nat} (I : Inv X pins σ H s) (h1 : -(2 ^ 62) ≤ lo) (h2 : lo < 2 ^ 62) (h3 : -(2 ^ 62) ≤ hi) (h4 : hi < 2 ^ 62)
  (q : R (Itr lo (hi - lo).toNat) H) : wpAny (model X.prog X.w) X.A (pyIter (.ref s.heap.objs.size)) (PIE X pins σ tg R) E { s with heap := s.heap.push { cls := .type "range", data := .fields #[.int lo t, .int hi u, .int 1 v] }, toks := tk } := by
 refine wpAny_pyIter_range (IsRange.new ..) (small_one h1 h2 h3 h4) ?_
 have I1 : Inv X pins σ H { s with heap := s.heap.push { cls := .type "range", data := .fields #[.int lo t, .int hi u, .int 1 v] }, toks := tk } := I.kept fun b o e => Heap.get?_push_of_some _ e
 refine ⟨(s.heap.push { cls := .type "range", data := .fields #[.int lo t, .int hi u, .int 1 v] }).objs.size, [(s.heap.push { cls := .type "range", data := .fields #[.int lo t, .int hi u, .int 1 v] }).objs.size], _, _, H, rfl,
  I1.kept (t' := tk) fun b o e => Heap.get?_push_of_some _ e, znG _ lo (hi - lo).toNat, ?_, fun b hb => ?_, q⟩
 ·have e1 : lo + ((0 : Nat) : Int) * 1 = lo := by simp
  have e2 : (((hi - lo).toNat : Nat) : Int) - ((0 : Nat) : Int) = Builtin.Range.rangeSize lo hi 1 := by rw [rangeSize_one]; split <;> omega
  show IsRangeIter _ _ (lo + ((0 : Nat) : Int) * 1) ((((hi - lo).toNat : Nat) : Int) - ((0 : Nat) : Int)) 1
  rw [e1, e2]
  exact Heap.get?_push_size _ rfl
 ·have e : b = (s.heap.push { cls := .type "range", data := .fields #[.int lo t, .int hi u, .int 1 v] }).objs.size := by simpa using hb
  subst e
  exact I1.fpOk (Nat.le_refl _) (I1.hok.fresh (Nat.le_refl _))
noncomputable def zxF (ta : TA) : TI := fun σ H R => ta σ H fun vs H1 => ∃ j : Int, vs = [.int j] ∧ -(2 ^ 62) ≤ j ∧ j < 2 ^ 62 ∧ R (Itr 0 j.toNat) H1
noncomputable def zxG (ta : TA) : TI := fun σ H R => ta σ H fun vs H1 => ∃ i j : Int, vs = [.int i, .int j] ∧ (-(2 ^ 62) ≤ i ∧ i < 2 ^ 62 ∧ -(2 ^ 62) ≤ j ∧ j < 2 ^ 62) ∧ R (Itr i (j - i).toNat) H1
theorem zow {a : Expr} {ta : TA} {p pos : Pos} (hg : Gl X "range") (hm : X.mg "range" = none) (ha : PA X [a] ta) (hs : starEach [a] X.env = [(false, eval a X.env)] := by rfl) : PI X tg (.Call (.Name "range" p) [a] [] pos) (zxF ta) := by
 intro pins s σ H R I h
 refine Call_ (ziD I hg hm boot_range (PyProof.Rows.callWith_type1 (thn (ha pos pins s σ H _ I h) fun us s1 ⟨vs, H1, I1, r1, q1⟩ => ?_) hs rfl))
 obtain ⟨j, e, q1, q2, q⟩ := q1
 subst e
 cases r1 with
 | cons r rr =>
  cases rr
  obtain ⟨t, rfl⟩ := r
  exact call_range_1 (zmb I1 (by omega) (by omega) q1 q2 (by simpa using q))
theorem zox {a b : Expr} {ta : TA} {p pos : Pos} (hg : Gl X "range") (hm : X.mg "range" = none) (ha : PA X [a, b] ta) (hs : starEach [a, b] X.env = [(false, eval a X.env), (false, eval b X.env)] := by rfl) (hs2 : starEach [b] X.env = [(false, eval b X.env)] := by rfl) :
  PI X tg (.Call (.Name "range" p) [a, b] [] pos) (zxG ta) := by
 intro pins s σ H R I h
 refine Call_ (ziD I hg hm boot_range (PyProof.Rows.callWith_type1 (thn (ha pos pins s σ H _ I h) fun us s1 ⟨vs, H1, I1, r1, q1⟩ => ?_) (by rw [hs, hs2]) (by rw [hs2]; rfl)))
 obtain ⟨i, j, e, ⟨q1, q2, q3, q4⟩, q⟩ := q1
 subst e
 cases r1 with
 | cons r rr =>
  cases rr with
  | cons r' rr =>
   cases rr
   obtain ⟨t, rfl⟩ := r
   obtain ⟨t', rfl⟩ := r'
   exact call_range_2 (zmb I1 q1 q2 q3 q4 q)
noncomputable def tFor (wi : TI) (g : TG) (tb : TS) : TS := fun D σ H => wi σ H fun J H1 => ∃ W : Nat → Nat → St → Hp → Prop, (∃ m, W 0 m σ H1) ∧ ∀ i m σ H, W i m σ H →
 (J.stop i H ∧ D.nx σ H) ∨ (J.go i H ∧ ∃ N : St → Hp → Prop, (∀ σ' H', N σ' H' → ∃ m', m' < m ∧ W (i + 1) m' σ' H') ∧ ∀ x H', J.yld i H x H' → g x σ H' fun σ2 H2 => tb { D with nx := N, ct := N, bk := D.nx } σ2 H2)
noncomputable def zj1 (fp : List Addr) (h : Heap) : List (Addr × Obj) := fp.filterMap fun b => (h.get? b).map fun o => (b, o)
theorem zeI {fp : List Addr} {h : Heap} {b : Addr} {o : Obj} (hb : b ∈ fp) (e : h.get? b = some o) : (b, o) ∈ zj1 fp h := List.mem_filterMap.mpr ⟨b, hb, by rw [e]; rfl⟩
theorem zoy {fp : List Addr} {h : Heap} {p : Addr × Obj} (hp : p ∈ zj1 fp h) : p.1 ∈ fp ∧ h.get? p.1 = some p.2 := by
 obtain ⟨b, hb, e⟩ := List.mem_filterMap.mp hp
 cases q : h.get? b with
 | none => rw [q] at e; cases e
 | some o =>
  rw [q] at e
  have e' : (b, o) = p := Option.some.inj e
  subst e'
  exact ⟨hb, q⟩
theorem Inv.pinned {pins : List (Addr × Obj)} {σ : St} {H : Hp} {s : Shared} {fp : List Addr} (I : Inv X pins σ H s) (hf : ∀ b ∈ fp, zom X pins H b) (ho : ∀ b ∈ fp, ∃ o, s.heap.get? b = some o ∧ ∀ v, o.data ≠ .cell v) : Inv X (pins ++ zj1 fp s.heap) σ H s :=
 I.pins_of fun p hp => (List.mem_append.mp hp).elim (fun z => I.pin p (List.mem_append_right _ z)) fun z => by
  obtain ⟨hb, e⟩ := zoy z
  obtain ⟨f0, f1, f2, _⟩ := hf p.1 hb
  obtain ⟨o, e', d⟩ := ho p.1 hb
  rw [e] at e'; cases e'
  exact ⟨e, f0, f1, f2, d⟩
theorem Inv.unpinned {pins pl : List (Addr × Obj)} {σ : St} {H : Hp} {s : Shared} (I : Inv X (pins ++ pl) σ H s) : Inv X pins σ H s := I.pins_of fun p hp => I.pin p (List.mem_append_right _ (List.mem_append_left _ hp))
theorem zvB {iter : Expr} {body : List Stmt} {wi : TI} {g : TG} {tb : TS} {pos : Pos} (hp : PassesOwn (model X.prog X.w) X.A X.env X.xe) (hc : X.calm = true) (hi : PI X tg iter wi) (hg : PG X tg g) (hb : PSs X body tb)
  (hs : ∀ x, foldedSetIterable iter X.env x = pure x := by intro _; rfl) : PS X (.For tg iter body [] pos) (tFor wi g tb) := by
 intro pins s σ H D I h
 refine wpAny_For (thn (hi pins s σ H _ I h) fun v s1 h1 => thn h1 fun itv s2 h2 => ?_) hs
 obtain ⟨it, fp, tn, J, H2, e, I2, T, st2, f2, W, ⟨m0, w0⟩, turn⟩ := h2
 subst e
 have stat : ∀ {H' : Hp}, (∀ b ∈ fp, H' b = none) → ∀ b ∈ fp, zom X pins H' b := fun hn b hb => ⟨hn b hb, (f2 b hb).2⟩
 refine codeAny_forLoop_any (fun n s' => ∃ i σ' H', Inv X pins σ' H' s' ∧ tn i s'.heap ∧ (∀ b ∈ fp, H' b = none) ∧ W i n σ' H') ?_ m0 ⟨0, σ, H2, I2, st2, fun b hb => (f2 b hb).1, w0⟩
 rintro n s3 ⟨i, σ3, H3, I3, st3, fr3, w3⟩
 rcases turn i n σ3 H3 w3 with ⟨stop, qn⟩ | ⟨go, N, hN, step⟩
 ·refine wpAny_passesOwn hp (thn (T.done X rfl rfl rfl hc i pins s3 σ3 H3 X.xe I3 (stat fr3) st3 stop) fun r s4 ⟨hr, I4⟩ => ?_)
  subst hr
  exact wpAny_execs_nil ⟨σ3, H3, I4, qn⟩
 ·refine wpAny_passesOwn hp (thn (T.item X rfl rfl rfl hc i pins s3 σ3 H3 X.xe I3 (stat fr3) st3 go) fun r s4 ⟨u, hr, h4⟩ => ?_)
  subst hr
  refine wpAny_passesOwn hp (thn h4 fun _ s5 ⟨x, H5, I5, r5, y5, st5, fr5⟩ => ?_)
  have I5' := I5.pinned (stat fr5) (T.obj _ _ st5)
  refine wpAny_passesOwn hp (thn (hg _ s5 σ3 H5 x u _ I5' r5 (step x H5 y5)) fun _ s6 ⟨σ6, H6, I6, q6⟩ => ?_)
  refine wpAny_passesOwn hp (thn (hb _ s6 σ6 H6 _ I6 q6) fun f s7 q7 => ?_)
  have again : ∀ {σ7 : St} {H7 : Hp}, Inv X (pins ++ zj1 fp s5.heap) σ7 H7 s7 → N σ7 H7 → ∃ m, m < n ∧ ∃ i σ' H', Inv X pins σ' H' s7 ∧ tn i s7.heap ∧ (∀ b ∈ fp, H' b = none) ∧ W i m σ' H' := fun {σ7 H7} I7 n7 => by
   obtain ⟨m', hm, w7⟩ := hN σ7 H7 n7
   refine ⟨m', hm, i + 1, σ7, H7, I7.unpinned, T.keep _ _ _ st5 fun b hb o e => (I7.pin (b, o) (List.mem_append_right _ (List.mem_append_right _ (zeI hb e)))).1, fun b hb => ?_, w7⟩
   obtain ⟨o, e, d⟩ := T.obj _ _ st5 b hb
   exact (I7.pin (b, o) (List.mem_append_right _ (List.mem_append_right _ (zeI hb e)))).2.1
  cases f with
  | next => obtain ⟨σ7, H7, I7, n7⟩ := q7; exact again I7 n7
  | cont => obtain ⟨σ7, H7, I7, n7⟩ := q7; exact again I7 n7
  | brk => obtain ⟨σ7, H7, I7, q7⟩ := q7; exact ⟨σ7, H7, I7.unpinned, q7⟩
  | ret v => obtain ⟨x7, σ7, H7, I7, r7, q7⟩ := q7; exact ⟨x7, σ7, H7, I7.unpinned, r7, q7⟩
end
end L2
namespace L2
open PySem PySem.Spec PyProof.Rows
noncomputable abbrev R2 := V → V → Hp → VK → Prop
noncomputable def OpR (X : Cx) (f : Value → Value → Sem Value) (r : R2) : Prop :=
 ∀ (pins : List (Addr × Obj)) (s : Shared) (σ : St) (H : Hp) (x y : V) (v u : Value) (Q : VK), Inv X pins σ H s → zbC x v → zbC y u → r x y H Q →
  wpAny (model X.prog X.w) X.A (f v u) (EP X pins σ Q) X.xe s
noncomputable def UnR (X : Cx) (f : Value → Sem Value) (r : V → Hp → VK → Prop) : Prop :=
 ∀ (pins : List (Addr × Obj)) (s : Shared) (σ : St) (H : Hp) (x : V) (v : Value) (Q : VK), Inv X pins σ H s → zbC x v → r x H Q →
  wpAny (model X.prog X.w) X.A (f v) (EP X pins σ Q) X.xe s
noncomputable def zcF (X : Cx) (f : Value) (r : List V → Hp → VK → Prop) : Prop :=
 ∀ (pins : List (Addr × Obj)) (s : Shared) (σ : St) (H : Hp) (xs : List V) (us : List Value) (Q : VK), Inv X pins σ H s → zbA xs us → r xs H Q →
  wpAny (model X.prog X.w) X.A (call f us) (EP X pins σ Q) X.xe s
noncomputable def tOp (r : R2) (ta tb : TE) : TE := fun σ H Q => ta σ H fun x H1 => tb σ H1 fun y H2 => r x y H2 Q
noncomputable def tUn (r : V → Hp → VK → Prop) (ta : TE) : TE := fun σ H Q => ta σ H fun x H1 => r x H1 Q
noncomputable def rI (C : Int → Int → Prop) (g : Int → Int → V) : R2 := fun x y H Q => ∃ i j, x = .int i ∧ y = .int j ∧ C i j ∧ Q (g i j) H
noncomputable def rI0 (g : Int → Int → V) : R2 := fun x y H Q => ∃ i j, x = .int i ∧ y = .int j ∧ Q (g i j) H
noncomputable def rU (g : Int → V) : V → Hp → VK → Prop := fun x H Q => ∃ i, x = .int i ∧ Q (g i) H
section
variable {X : Cx} {a b c : Expr} {ta tb tc : TE} {pos : Pos}
theorem zxH (ha : PE X a ta) (hb : PE X b tb) {pins : List (Addr × Obj)} {s : Shared} {σ : St} {H : Hp} {R : V → V → Hp → Prop} (I : Inv X pins σ H s)
  (h : ta σ H fun x H1 => tb σ H1 fun y H2 => R x y H2) {Q : Value → Shared → Prop} {f : Value → Value → Sem Value}
  (hf : ∀ v u s2 x y H2, Inv X pins σ H2 s2 → zbC x v → zbC y u → R x y H2 → wpAny (model X.prog X.w) X.A (f v u) Q X.xe s2) :
  wpAny (model X.prog X.w) X.A (eval a X.env) (fun v s₁ => wpAny (model X.prog X.w) X.A (eval b X.env) (fun u s₂ => wpAny (model X.prog X.w) X.A (f v u) Q X.xe s₂) X.xe s₁) X.xe s := by
 refine thn (ha pins s σ H _ I h) fun v s1 ⟨x, H1, I1, r1, q1⟩ => ?_
 refine thn (hb pins s1 σ H1 _ I1 q1) fun u s2 ⟨y, H2, I2, r2, q2⟩ => ?_
 exact hf v u s2 x y H2 I2 r1 r2 q2
theorem zxI {op : Operator} {r : R2} (ho : OpR X (binaryOp op) r) (ha : PE X a ta) (hb : PE X b tb) : PE X (.BinOp a op b pos) (tOp r ta tb) := by
 intro pins s σ H Q I h
 exact wpAny_BinOp (zxH ha hb I h fun v u s2 x y H2 I2 rx ry q => ho pins s2 σ H2 x y v u Q I2 rx ry q)
theorem zxJ {op : UnaryOp} {r : V → Hp → VK → Prop} (ho : UnR X (unaryOp op) r) (ha : PE X a ta) : PE X (.UnaryOp op a pos) (tUn r ta) := by
 intro pins s σ H Q I h
 exact UnaryOp_ (thn (ha pins s σ H _ I h) fun v s1 ⟨x, H1, I1, r1, q1⟩ => ho pins s1 σ H1 x v Q I1 r1 q1)
theorem opI {f : Value → Value → Sem Value} {C : Int → Int → Prop} {g : Int → Int → Int}
  (rule : ∀ (i j : Int) (t u : Tok) (s : Shared) (Q : Value → Shared → Prop) (E : Value → Shared → Prop), C i j → Q (.int (g i j) s.toks) { s with toks := s.toks + 1 } → wpAny (model X.prog X.w) X.A (f (.int i t) (.int j u)) Q E s) :
  OpR X f (rI C fun i j => .int (g i j)) := by
 intro pins s σ H x y v u Q I rx ry h
 obtain ⟨i, j, rfl, rfl, hc, q⟩ := h
 obtain ⟨t, rfl⟩ := rx
 obtain ⟨t', rfl⟩ := ry
 exact rule i j t t' s _ _ hc ⟨.int (g i j), H, I.tok _, ⟨_, rfl⟩, q⟩
theorem opI0 {f : Value → Value → Sem Value} {g : Int → Int → Int}
  (rule : ∀ (i j : Int) (t u : Tok) (s : Shared) (Q : Value → Shared → Prop) (E : Value → Shared → Prop), Q (.int (g i j) s.toks) { s with toks := s.toks + 1 } → wpAny (model X.prog X.w) X.A (f (.int i t) (.int j u)) Q E s) :
  OpR X f (rI0 fun i j => .int (g i j)) := by
 intro pins s σ H x y v u Q I rx ry h
 obtain ⟨i, j, rfl, rfl, q⟩ := h
 obtain ⟨t, rfl⟩ := rx
 obtain ⟨t', rfl⟩ := ry
 exact rule i j t t' s _ _ ⟨.int (g i j), H, I.tok _, ⟨_, rfl⟩, q⟩
theorem zxk {f : Value → Value → Sem Value} {g : Int → Int → Bool}
  (rule : ∀ (i j : Int) (t u : Tok) (s : Shared) (Q : Value → Shared → Prop) (E : Value → Shared → Prop), Q (.bool (g i j)) s → wpAny (model X.prog X.w) X.A (f (.int i t) (.int j u)) Q E s) :
  OpR X f (rI0 fun i j => .bl (g i j)) := by
 intro pins s σ H x y v u Q I rx ry h
 obtain ⟨i, j, rfl, rfl, q⟩ := h
 obtain ⟨t, rfl⟩ := rx
 obtain ⟨t', rfl⟩ := ry
 exact rule i j t t' s _ _ ⟨.bl (g i j), H, I, rfl, q⟩
noncomputable def CPow (i j : Int) : Prop := 0 ≤ j ∧ j ≤ 1000000 ∧ i.natAbs < 2 ^ 64
theorem znH (k : Nat) : (0 : Int) ≤ 2 ^ k := by
 rw [two_pow_cast]
 exact Int.natCast_nonneg _
theorem zvC : OpR X (binaryOp .Add) (rI0 fun i j => .int (i + j)) := opI0 fun _ _ _ _ _ _ _ q => add_int q
theorem ztJ : OpR X (binaryOp .Mod) (rI (fun _ j => j ≠ 0) fun i j => .int (i.fmod j)) := opI fun _ _ _ _ _ _ _ hc q => mod_int' hc q
theorem zvD : OpR X (binaryOp .Pow) (rI CPow fun i j => .int (i ^ j.toNat)) := opI fun _ _ _ _ _ _ _ hc q => pow_int_small hc.1 hc.2.1 hc.2.2 q
theorem zvE : OpR X (binaryOp .RShift) (rI (fun _ j => 0 ≤ j) fun i j => .int (i / 2 ^ j.toNat)) := opI fun i j _ _ _ _ _ hc q =>
 rshift_int hc (by rw [Int.fdiv_eq_ediv_of_nonneg i (znH _)]; exact q)
theorem unI {f : Value → Sem Value} {g : Int → Int}
  (rule : ∀ (i : Int) (t : Tok) (s : Shared) (Q : Value → Shared → Prop) (E : Value → Shared → Prop), Q (.int (g i) s.toks) { s with toks := s.toks + 1 } → wpAny (model X.prog X.w) X.A (f (.int i t)) Q E s) :
  UnR X f (rU fun i => .int (g i)) := by
 intro pins s σ H x v Q I rx h
 obtain ⟨i, rfl, q⟩ := h
 obtain ⟨t, rfl⟩ := rx
 exact rule i t s _ _ ⟨.int (g i), H, I.tok _, ⟨_, rfl⟩, q⟩
theorem zvF : UnR X (unaryOp .USub) (rU fun i => .int (-i)) := unI fun _ _ _ _ _ q => neg_int q
end
section
variable {X : Cx} {a b c : Expr} {ta tb tc : TE} {pos : Pos}
theorem zj2 {pins : List (Addr × Obj)} {σ : St} {H : Hp} {s : Shared} {Q : VK} {k k' : Bool} (I : Inv X pins σ H s) (q : Q (.bl k) H) (e : k = k') : EP X pins σ Q (.bool k') s := by
 subst e
 exact ⟨.bl k, H, I, rfl, q⟩
theorem zxK : OpR X (compareOp .Lt) (rI0 fun i j => .bl (decide (i < j))) := zxk fun _ _ _ _ _ _ _ q => lt_int q
theorem zxL : OpR X (compareOp .LtE) (rI0 fun i j => .bl (decide (i ≤ j))) := zxk fun _ _ _ _ _ _ _ q => le_int q
theorem zxM : OpR X (compareOp .Gt) (rI0 fun i j => .bl (decide (j < i))) := zxk fun _ _ _ _ _ _ _ q => gt_int q
theorem zxN : OpR X (compareOp .GtE) (rI0 fun i j => .bl (decide (j ≤ i))) := zxk fun _ _ _ _ _ _ _ q => ge_int q
theorem zoz : OpR X (compareOp .In) (fun x y H Q => ∃ i j, x = .str i ∧ y = .str j ∧ Q (.bl (!(Builtin.Str.occurrences j i 0 j.length 1).isEmpty)) H) := by
 intro pins s σ H x y v u Q I rx ry h
 obtain ⟨i, j, rfl, rfl, q⟩ := h
 obtain ⟨t, rfl⟩ := rx
 obtain ⟨t', rfl⟩ := ry
 exact in_str (zj2 I q rfl)
theorem zvG : OpR X (compareOp .Is) (fun x y H Q => y = .non ∧ Q (.bl (decide (x = .non))) H) := by
 intro pins s σ H x y v u Q I rx ry h
 obtain ⟨rfl, q⟩ := h
 cases ry
 refine is_none_gen (zj2 I q ?_)
 cases x <;> first
  | (cases rx; rfl)
  | (obtain ⟨t, rfl⟩ := rx; rfl)
theorem ztK : OpR X (compareOp .IsNot) (fun x y H Q => y = .non ∧ Q (.bl (!decide (x = .non))) H) := by
 intro pins s σ H x y v u Q I rx ry h
 obtain ⟨rfl, q⟩ := h
 cases ry
 refine isnot_none_gen (zj2 I q ?_)
 cases x <;> first
  | (cases rx; rfl)
  | (obtain ⟨t, rfl⟩ := rx; rfl)
theorem OpR.or {f : Value → Value → Sem Value} {r r' : R2} (h : OpR X f r) (h' : OpR X f r') : OpR X f (fun x y H Q => r x y H Q ∨ r' x y H Q) := by
 intro pins s σ H x y v u Q I rx ry q
 rcases q with q | q
 ·exact h pins s σ H x y v u Q I rx ry q
 ·exact h' pins s σ H x y v u Q I rx ry q
theorem ztL {op : CmpOp} {r : R2} (ho : OpR X (compareOp op) r) (ha : PE X a ta) (hb : PE X b tb) (hm : behindInMarks op b = false) : PE X (.Compare a [op] [b] pos) (tOp r ta tb) := by
 intro pins s σ H Q I h
 exact wpAny_Compare1 (zxH ha hb I h fun v u s2 x y H2 I2 rx ry q => ho pins s2 σ H2 x y v u Q I2 rx ry q) hm
noncomputable def ztM (t : TE) : TT := fun σ H Q => t σ H fun x H' => ∃ k, x = .bl k ∧ Q k H'
theorem ztN {op : CmpOp} {r : R2} (ho : OpR X (compareOp op) r) (ha : PE X a ta) (hb : PE X b tb) (hm : behindInMarks op b = false) : PT X (.Compare a [op] [b] pos) (ztM (tOp r ta tb)) := by
 intro pins s σ H Q I h
 refine wpAny_isTrue_Compare1 (thn (ha pins s σ H _ I h) fun v s1 ⟨x, H1, I1, r1, q1⟩ => thn (hb pins s1 σ H1 _ I1 q1) fun u s2 ⟨y, H2, I2, r2, q2⟩ =>
  thn (ho pins s2 σ H2 x y v u _ I2 r1 r2 q2) fun c s3 ⟨z, H3, I3, r3, k, e, q3⟩ => ?_) hm
 subst e
 cases r3
 exact wpAny_truthy_bool ⟨H3, I3, q3⟩
noncomputable def zsp (r r' : R2) (ta tb tc : TE) : TE := fun σ H Q => ta σ H fun x H1 => tb σ H1 fun y H2 => r x y H2 fun z H3 => ∃ k, z = .bl k ∧
 (if k = true then tc σ H3 fun w' H4 => r' y w' H4 Q else Q (.bl false) H3)
theorem zrf {op op' : CmpOp} {r r' : R2} (ho : OpR X (compareOp op) r) (ho' : OpR X (compareOp op') r') (ha : PE X a ta) (hb : PE X b tb) (hc : PE X c tc)
  (hm : lastMarks [op, op'] [b, c] = false := by with_unfolding_all rfl) : PT X (.Compare a [op, op'] [b, c] pos) (ztM (zsp r r' ta tb tc)) := by
 intro pins s σ H Q I h
 refine isTrue_chain (thn (ha pins s σ H _ I h) fun v s1 ⟨x, H1, I1, r1, q1⟩ => test_link (thn (hb pins s1 σ H1 _ I1 q1) fun u s2 ⟨y, H2, I2, r2, q2⟩ =>
  thn (ho pins s2 σ H2 x y v u _ I2 r1 r2 q2) fun d s3 ⟨z, H3, I3, r3, k, e, q3⟩ => ?_)) hm
 subst e
 cases r3
 refine wpAny_truthy_bool ?_
 cases k with
 | false =>
  obtain ⟨k', e', q'⟩ := q3
  cases e'
  exact ite_ff ⟨H3, I3, q'⟩
 | true =>
  refine ite_tt (test_last (thn (hc pins s3 σ H3 _ I3 q3) fun w' s4 ⟨z', H4, I4, r4, q4⟩ => thn (ho' pins s4 σ H4 y z' u w' _ I4 r2 r4 q4) fun d' s5 ⟨z2, H5, I5, r5, k2, e2, q5⟩ => ?_))
  subst e2
  cases r5
  exact wpAny_truthy_bool ⟨H5, I5, q5⟩
theorem zj3 : (sizeLine : Nat) < 2 ^ 63 := by rw [sizeLine_eq]; decide
theorem znI : OpR X (binaryOp .Add) (fun x y H Q => ∃ i j, x = .str i ∧ y = .str j ∧ i.length + j.length ≤ sizeLine ∧ Q (.str (i ++ j)) H) := by
 intro pins s σ H x y v u Q I rx ry h
 obtain ⟨i, j, rfl, rfl, hz, q⟩ := h
 obtain ⟨t, rfl⟩ := rx
 obtain ⟨t', rfl⟩ := ry
 exact add_str (fun t' tk => ⟨.str (i ++ j), H, I.tok _, ⟨_, rfl⟩, q⟩) hz
theorem zgS {x : V} {us : List Value} (r : zbA [x] us) : ∃ u, us = [u] ∧ zbC x u := by
 cases r with
 | cons r1 r2 => cases r2; exact ⟨_, rfl, r1⟩
theorem zrg {x y : V} {us : List Value} (r : zbA [x, y] us) : ∃ u w', us = [u, w'] ∧ zbC x u ∧ zbC y w' := by
 cases r with
 | cons r1 r2 =>
  cases r2 with
  | cons r3 r4 => cases r4; exact ⟨_, _, rfl, r1, r3⟩
theorem zrh : zcF X (.builtin "abs") (fun xs H Q => ∃ i, xs = [.int i] ∧ Q (.int (if i < 0 then -i else i)) H) := by
 intro pins s σ H xs us Q I r h
 obtain ⟨i, rfl, q⟩ := h
 obtain ⟨u, rfl, t, rfl⟩ := zgS r
 exact call_abs_int fun u tk => ⟨.int (if i < 0 then -i else i), H, I.tok _, ⟨_, rfl⟩, q⟩
theorem zoA (hc : X.calm = true) : zcF X (.builtin "max") (fun xs H Q => ∃ i j, xs = [.int i, .int j] ∧ Q (.int (if j > i then j else i)) H) := by
 intro pins s σ H xs us Q I r h
 obtain ⟨i, j, rfl, q⟩ := h
 obtain ⟨u, w', rfl, ⟨t, rfl⟩, ⟨t', rfl⟩⟩ := zrg r
 refine max_two_ints (I.ok.hd hc) fun h' tk k => ⟨_, H, I.kept k, ?_, q⟩
 by_cases hj : j > i
 ·rw [if_pos hj, if_pos hj]; exact ⟨_, rfl⟩
 ·rw [if_neg hj, if_neg hj]; exact ⟨_, rfl⟩
theorem zoB (hc : X.calm = true) : zcF X (.builtin "min") (fun xs H Q => ∃ i j, xs = [.int i, .int j] ∧ Q (.int (if j < i then j else i)) H) := by
 intro pins s σ H xs us Q I r h
 obtain ⟨i, j, rfl, q⟩ := h
 obtain ⟨u, w', rfl, ⟨t, rfl⟩, ⟨t', rfl⟩⟩ := zrg r
 refine min_two_ints (I.ok.hd hc) fun h' tk k => ⟨_, H, I.kept k, ?_, q⟩
 by_cases hj : j < i
 ·rw [if_pos hj, if_pos hj]; exact ⟨_, rfl⟩
 ·rw [if_neg hj, if_neg hj]; exact ⟨_, rfl⟩
theorem zoC : zcF X (.type "int") (fun xs H Q => (∃ i, xs = [.int i] ∧ Q (.int i) H) ∨ ∃ k, xs = [.bl k] ∧ Q (.int (if k then 1 else 0)) H) := by
 intro pins s σ H xs us Q I r h
 rcases h with ⟨i, rfl, q⟩ | ⟨k, rfl, q⟩
 ·obtain ⟨u, rfl, t, rfl⟩ := zgS r
  exact call_int_int ⟨.int i, H, I, ⟨_, rfl⟩, q⟩
 ·obtain ⟨u, rfl, r1⟩ := zgS r
  cases r1
  exact call_int_bool ⟨.int (if k then 1 else 0), H, I.tok _, ⟨_, rfl⟩, q⟩
end
end L2
namespace L2
open PySem PySem.Spec PyProof.Rows
section
variable {prog : Program} {w : World} {A : Around} {E : Value → Shared → Prop} {s : Shared} {K : PySem.W.Frag} {x dx C f : Addr} {mA : Str → Option Value} {name : Str} {v : Value}
end
section
variable {P : Program} {w : World} {H H' : Hp} {h h' : Heap} {a C dx : Addr} {fs fs' : List (Str × V)}
end
section
variable {X : Cx} {pins : List (Addr × Obj)} {σ : St} {H : Hp} {s : Shared} {a C dx : Addr} {fs : List (Str × V)} {f : Str} {v : V} {A : Around} {E : Value → Shared → Prop}
end
section
variable {X : Cx} {o e value : Expr} {f : Str} {pos pos' tpos : Pos} {ta tv : TE}
end
section
variable {X : Cx} {pins : List (Addr × Obj)} {σ : St} {H : Hp} {s : Shared} {A : Around} {E : Value → Shared → Prop} {Q : Value → Shared → Prop} {c : Value} {b : Bool}
end
end L2
namespace L2
open PySem PySem.Spec PyProof.Rows
structure zhc (k : Nat) (A : Around) : Prop where
 hd : A.handled = none
 dp : A.depth + 3 * k + 5 < recursionLimit
 un : A.units + 16 * k + 200 < cLine
theorem zhc.mono {j k : Nat} {A : Around} (r : zhc k A) (h : j ≤ k) : zhc j A := ⟨r.hd, by have := r.dp; omega, by have := r.un; omega⟩
theorem zhc.deeper {k : Nat} {A : Around} (r : zhc (k + 1) A) (env : Env) : zhc k (A.deeper env) :=
 ⟨r.hd, by have := r.dp; show A.depth + 1 + 3 * k + 5 < _; omega, by have := r.un; show A.units + 3 + 16 * k + 200 < _; omega⟩
theorem zhc.depth {k : Nat} {A : Around} (r : zhc k A) : A.depth < recursionLimit := by have := r.dp; omega
noncomputable def tNil : TA := fun _ H Q => Q [] H
noncomputable def zxO (ta : TE) (tr : TA) : TA := fun σ H Q => ta σ H fun x H1 => tr σ H1 fun xs H2 => Q (x :: xs) H2
section
variable {X : Cx} {e : Expr} {es : List Expr} {te : TE} {t : TA} {pos : Pos}
theorem zsq : PA X [] tNil := fun _ _ _ _ H Q I h => Calls.spliced_nil ⟨[], H, I, .nil, h⟩
theorem zoD (ha : PE X e te) (hr : PA X es t) (hs : starEach (e :: es) X.env = (false, eval e X.env) :: starEach es X.env := by rfl) : PA X (e :: es) (zxO te t) := by
 intro pos pins s σ H Q I h
 rw [hs]
 show wpAny _ _ (spliced ((false, eval e X.env) :: backTo pos (starEach es X.env))) _ _ s
 refine Calls.spliced_cons (thn (ha pins s σ H _ I h) fun u s1 ⟨x, H1, I1, r1, q1⟩ => ?_)
 exact thn (hr pos pins s1 σ H1 _ I1 q1) fun us s2 ⟨xs, H2, I2, r2, q2⟩ => ⟨x :: xs, H2, I2, .cons r1 r2, q2⟩
noncomputable def tTup (t : TA) : TE := fun σ H Q => t σ H fun xs H1 => xs.length ≤ sizeLine ∧ ∀ p, H1 p = none → Q (.ref p) (upd H1 p (.tup xs))
noncomputable def tLst (t : TA) : TE := fun σ H Q => t σ H fun xs H1 => xs.length ≤ sizeLine ∧ ∀ p, H1 p = none → Q (.ref p) (upd H1 p (.lst xs))
theorem zvH {x1} (h : PA X es t) : PE X (.Tuple es x1 pos) (tTup t) := by
 intro pins s σ H Q I hq
 refine wpAny_Tuple_spliced (thn (h pos pins s σ H _ I hq) fun us s1 ⟨xs, H1, I1, r, z, q⟩ => ⟨by rw [← r.length]; exact z, ?_⟩)
 have hf : H1 s1.heap.objs.size = none := I1.hok.fresh (Nat.le_refl _)
 refine ⟨.ref s1.heap.objs.size, upd H1 s1.heap.objs.size (.tup xs), I1.laid (t' := s1.toks) (fun b u e => Heap.get?_push_of_some _ e) (Nat.le_refl _) ?_, rfl, q _ hf⟩
 exact ⟨z, us, r, ⟨_, Heap.get?_push_size _ rfl, rfl, _, rfl⟩⟩
theorem zvI (h : PA X es t) : PE X (.List es pos) (tLst t) := by
 intro pins s σ H Q I hq
 refine wpAny_List_spliced (thn (h pos pins s σ H _ I hq) fun us s1 ⟨xs, H1, I1, r, z, q⟩ => ⟨by rw [← r.length]; exact z, ?_⟩)
 have hf : H1 s1.heap.objs.size = none := I1.hok.fresh (Nat.le_refl _)
 refine ⟨.ref s1.heap.objs.size, upd H1 s1.heap.objs.size (.lst xs), I1.laid (t' := s1.toks) (fun b u e => Heap.get?_push_of_some _ e) (Nat.le_refl _) ?_, rfl, q _ hf⟩
 exact ⟨z, us, 0, r, Heap.get?_push_size _ rfl⟩
end
noncomputable abbrev Sp := List V → Hp → VK → XK → Prop
noncomputable abbrev CXT := List Env → Hp → Shared → XK → Value → Shared → Prop
structure zxl (P : Program) (w : World) (K : PySem.W.Frag) (mg : Str → Option Value) (base : Heap) (A : Around) (outer : List Env) (s : Shared) (H : Hp) : Prop where
 frames : A.frames = some outer
 mod : Mod K mg base
 bs : ∀ b o, base.get? b = some o → s.heap.get? b = some o ∧ H b = none
 bsz : base.objs.size ≤ s.heap.objs.size
 funs : s.heap.FunFrames base outer
 frf : ∀ b ∈ frs outer, H b = none
 hok : HOk P w H s.heap
 bare : AllBare s.gens
noncomputable def CE (outer : List Env) (P : Program) (w : World) (H : Hp) (s : Shared) (Q : VK) (u : Value) (s' : Shared) : Prop :=
 ∃ v H', s'.os = s.os ∧ AllBare s'.gens ∧ Un (frs outer) [] H H' s.heap s'.heap ∧ HOk P w H' s'.heap ∧ zbC v u ∧ Q v H'
noncomputable def CR (CX : CXT) (outer : List Env) (P : Program) (w : World) (H : Hp) (s : Shared) (Q : VK) (E : XK) (r : Result) (s' : Shared) : Prop :=
 match r with
 | .ok (.ret u) => CE outer P w H s Q u s'
 | .ok _ => False
 | .error e => CX outer H s E e s'
structure ziE (P : Program) (w : World) (K : PySem.W.Frag) (mg : Str → Option Value) (base : Heap) (CX : CXT) (k : Nat) (f : Addr) (fd : FuncData) (ps : List Str) (sp : Sp) : Prop where
 len : ∀ vs H Q E, sp vs H Q E → vs.length = ps.length
 run : ∀ (A : Around) (outer : List Env) (s : Shared) (H : Hp) (args : Args) (us : List Value) (vs : List V) (Q : VK) (E : XK), zhc k A → zxl P w K mg base A outer s H → BindsTo s fd args (ps.zip us) → zbA vs us → sp vs H Q E →
  codeAny (model P w) A (.call (.ref f) args) (CR CX outer P w H s Q E) s
theorem ziE.mono {P : Program} {w : World} {K : PySem.W.Frag} {mg : Str → Option Value} {base : Heap} {CX : CXT} {j k : Nat} {f : Addr} {fd : FuncData} {ps : List Str} {sp : Sp} (F : ziE P w K mg base CX j f fd ps sp) (h : j ≤ k) :
  ziE P w K mg base CX k f fd ps sp := ⟨F.len, fun A outer s H args us vs Q E hr => F.run A outer s H args us vs Q E (hr.mono h)⟩
theorem ziE.imp {P : Program} {w : World} {K : PySem.W.Frag} {mg : Str → Option Value} {base : Heap} {CX : CXT} {k : Nat} {f : Addr} {fd : FuncData} {ps : List Str} {sp sp' : Sp} (F : ziE P w K mg base CX k f fd ps sp)
  (h : ∀ vs H Q E, sp' vs H Q E → sp vs H Q E) : ziE P w K mg base CX k f fd ps sp' :=
 ⟨fun vs H Q E q => F.len vs H Q E (h _ _ _ _ q), fun A outer s H args us vs Q E hr he hb hv hs => F.run A outer s H args us vs Q E hr he hb hv (h _ _ _ _ hs)⟩
section
variable {X : Cx} {pins : List (Addr × Obj)} {σ : St} {H : Hp} {s s' : Shared}
theorem Inv.env0 (I : Inv X pins σ H s) : zxl X.prog X.w X.K X.mg X.base X.A X.stack s H :=
 ⟨I.ok.frames, I.ok.mod, I.bs, Nat.le_trans I.ok.bsz I.sz, I.stack, I.stkFree, I.hok, I.bare⟩
theorem Inv.after {Q : VK} {u : Value} (I : Inv X pins σ H s) (h : CE X.stack X.prog X.w H s Q u s') : EP X pins σ Q u s' := by
 obtain ⟨v, H', os, bare, un, hok, r, q⟩ := h
 obtain ⟨hh, g, d, t, os'⟩ := s'
 obtain rfl : os' = s.os := os
 exact ⟨v, H', I.call (h' := hh) (g' := g) (d' := d) (t' := t) (ch := []) un hok bare (fun b z => absurd z (by simp)), r, q⟩
end
noncomputable def zxP (sp : Sp) (dvs : List V) (E : XK) (t : TA) : TE := fun σ H Q => t σ H fun vs H1 => sp (vs ++ dvs) H1 Q E
noncomputable def zaG (K : PySem.W.Frag) (fd : FuncData) (ps : List Str) (ds : List Value) : Prop :=
 ∀ (s : Shared) (us : List Value), K.In s.heap → (us ++ ds).length = ps.length → BindsTo s fd ⟨us, []⟩ (ps.zip (us ++ ds))
theorem zaG.all {K : PySem.W.Frag} {fd : FuncData} {ps : List Str} (h : ∀ us : List Value, us.length = ps.length → bindArgs fd ⟨us, []⟩ = pure (ps.zip us)) : zaG K fd ps [] := fun s us _ hl => by
 rw [List.append_nil] at hl ⊢
 exact .of_eq (h us hl)
noncomputable def zj4 (CX : CXT) (X : Cx) (E : XK) : Prop := ∀ (pins : List (Addr × Obj)) (σ : St) (H : Hp) (s : Shared) (e : Value) (s' : Shared), Inv X pins σ H s → CX X.stack H s E e s' → X.xe e s'
section
variable {X : Cx} {CX : CXT} {k : Nat} {f C : Addr} {fd : FuncData} {ps : List Str} {sp : Sp} {dvs : List V} {ds : List Value} {E : XK} {x m : Str} {p pos apos : Pos} {e o : Expr} {es : List Expr} {ta : TE} {t : TA}
theorem zvJ {pins : List (Addr × Obj)} {σ : St} {H : Hp} {s : Shared} {Q : VK} {us : List Value} {vs : List V} (F : ziE X.prog X.w X.K X.mg X.base CX k f fd ps sp) (hr : zhc k X.A) (hb : zaG X.K fd ps ds) (hd : zbA dvs ds) (hx : zj4 CX X E)
  (I : Inv X pins σ H s) (r : zbA vs us) (h : sp (vs ++ dvs) H Q E) : wpAny (model X.prog X.w) X.A (call (.ref f) us) (EP X pins σ Q) X.xe s := by
 have r2 : zbA (vs ++ dvs) (us ++ ds) := r.append hd
 have hl : (us ++ ds).length = ps.length := by rw [← r2.length]; exact F.len _ _ _ _ h
 refine wpAny_call (codeAny_mono (F.run X.A X.stack s H ⟨us, []⟩ (us ++ ds) (vs ++ dvs) Q E hr I.env0 (hb s us I.kIn hl) r2 h) fun r s' hq => ?_)
 cases r with
 | error e => exact hx pins σ H s e s' I hq
 | ok fl =>
  cases fl with
  | ret u => exact I.after hq
  | next => exact False.elim hq
  | brk => exact False.elim hq
  | cont => exact False.elim hq
theorem zoE (F : ziE X.prog X.w X.K X.mg X.base CX k f fd ps sp) (hr : zhc k X.A) (hg : Gl X x) (hm : X.mg x = some (.ref f)) (hk : PySem.W.keepIn X.K (.ref f) = true) (hb : zaG X.K fd ps ds) (hd : zbA dvs ds) (hx : zj4 CX X E)
  (ha : PA X (e :: es) t) (hdb : (x == ("__debug__" : Str)) = false := by decide) (he : starEach (e :: es) X.env = (false, eval e X.env) :: starEach es X.env := by rfl) (hpl : (backTo pos (starEach es X.env)).any (·.1) = false := by rfl) :
  PE X (.Call (.Name x p) (e :: es) [] pos) (zxP sp dvs E t) := by
 intro pins s σ H Q I h
 refine wpAny_Call_Name_kw (zlq I hg hm ?_ hdb)
 refine PySem.W.callWith_K (h₀ := X.base) I.ok.mod.kin hk (thn (ha pos pins s σ H _ I h) fun us s1 ⟨vs, H1, I1, r, q⟩ => ⟨I1.kIn, ?_⟩) he hpl
 exact zvJ F hr hb hd hx I1 r q
end
section
variable {X : Cx} {CX : CXT} {k : Nat} {f C : Addr} {fd : FuncData} {ps ks : List Str} {sp : Sp} {E : XK} {x m : Str} {p pos apos kpos : Pos} {e o : Expr} {es : List Expr} {kws : List Keyword} {te ta : TE} {t tk : TA} {nm : Option Str}
variable {g : List Value → List Value → List Value} {gV : List V → List V → List V}
end
structure zak (N P : List Str) (sc : Scope) : Prop where
 kind : sc.kind = .function
 co : sc.isCoroutine = false
 gen : sc.isGenerator = false
 nd : N.Nodup
 pre : N.take P.length = P
 par : ∀ x ∈ P, sc.names.lookup x = some .local ∨ sc.names.lookup x = some .cell
 nofree : ∀ y ∈ sc.names, y.2 ≠ .free
theorem zj5 {kindOf : Str → Option NameKind} {x : Str} : ∀ {binds : List (Str × Value)} {m : Str → Option Value}, (∀ v, (x, v) ∉ binds) → bindL kindOf binds m x = m x
 | [], _, _ => rfl
 | (n, v) :: r, m, h => by
  unfold bindL
  rw [zj5 fun w hw => h w (List.mem_cons_of_mem _ hw)]
  split
  ·have : x ≠ n := by rintro rfl; exact h v List.mem_cons_self
   simp [this]
  ·rfl
theorem zj6 {kindOf : Str → Option NameKind} {x : Str} : ∀ {binds : List (Str × Value)} {m : Str → Option Value}, (∀ v, (x, v) ∉ binds) → bindC kindOf binds m x = m x
 | [], _, _ => rfl
 | (n, v) :: r, m, h => by
  unfold bindC
  rw [zj6 fun w hw => h w (List.mem_cons_of_mem _ hw)]
  split
  ·rfl
  ·have : x ≠ n := by rintro rfl; exact h v List.mem_cons_self
   simp [this]
theorem zj7 {kindOf : Str → Option NameKind} {x : Str} {v : Value} : ∀ {P : List Str} {vs : List Value} {i : Nat} {m : Str → Option Value}, P.Nodup → P[i]? = some x → vs[i]? = some v → kindOf x = some .local →
  bindL kindOf (P.zip vs) m x = some v
 | [], _, _, _, _, h, _, _ => by simp at h
 | _ :: _, [], _, _, _, _, h, _ => by simp at h
 | p :: P, w :: vs, 0, m, nd, h1, h2, hk => by
  simp at h1 h2; subst h1; subst h2
  show bindL kindOf ((p, w) :: P.zip vs) m p = _
  unfold bindL
  rw [zj5 fun v hv => (List.nodup_cons.mp nd).1 (List.of_mem_zip hv).1, if_pos hk]
  simp
 | p :: P, w :: vs, i + 1, m, nd, h1, h2, hk => by
  show bindL kindOf ((p, w) :: P.zip vs) m x = _
  unfold bindL
  exact zj7 (i := i) (List.nodup_cons.mp nd).2 (by simpa using h1) (by simpa using h2) hk
theorem zj8 {kindOf : Str → Option NameKind} {x : Str} {v : Value} : ∀ {P : List Str} {vs : List Value} {i : Nat} {m : Str → Option Value}, P.Nodup → P[i]? = some x → vs[i]? = some v → kindOf x ≠ some .local →
  bindC kindOf (P.zip vs) m x = some v
 | [], _, _, _, _, h, _, _ => by simp at h
 | _ :: _, [], _, _, _, _, h, _ => by simp at h
 | p :: P, w :: vs, 0, m, nd, h1, h2, hk => by
  simp at h1 h2; subst h1; subst h2
  show bindC kindOf ((p, w) :: P.zip vs) m p = _
  unfold bindC
  rw [zj6 fun v hv => (List.nodup_cons.mp nd).1 (List.of_mem_zip hv).1, if_neg hk]
  simp
 | p :: P, w :: vs, i + 1, m, nd, h1, h2, hk => by
  show bindC kindOf ((p, w) :: P.zip vs) m x = _
  unfold bindC
  exact zj8 (i := i) (List.nodup_cons.mp nd).2 (by simpa using h1) (by simpa using h2) hk
noncomputable def start (N : List Str) (vs : List V) : St := vs.map some ++ List.replicate (N.length - vs.length) none
noncomputable def zjh (CX : CXT) (P : Program) (w : World) (K : PySem.W.Frag) (mg : Str → Option Value) (base : Heap) (N : List Str) (qual : Str) (scope : Scope) (f : Addr) (cd : Value) (A : Around) (outer : List Env) (s : Shared) (H : Hp) (E : XK) : Cx where
 prog := P
 w := w
 K := K
 mg := mg
 base := base
 A := A.deeper (envOfC qual scope s.heap.objs.size f cd)
 N := N
 s₀ := s
 H₀ := H
 env := envOfC qual scope s.heap.objs.size f cd
 outer := outer
 stack := envOfC qual scope s.heap.objs.size f cd :: outer
 ex := []
 calm := true
 fn := fun _ => true
 pn := []
 xe := fun e s' => wpAny (model P w) (A.deeper (envOfC qual scope s.heap.objs.size f cd)) (leaving (envOfC qual scope s.heap.objs.size f cd) e) (fun _ s'' => CX outer H s E e s'') (fun e' s'' => CX outer H s E e' s'') s'
theorem zmc {sc : Scope} {n : Nat} {x : Str} (h : sc.names.lookup x = some .cell) : ∃ c, (cellsFrom n sc.names []).lookup x = some c := by
 have q := PySem.W.cellsFrom_some sc.names n [] (.inl h)
 exact Option.isSome_iff_exists.mp q
theorem zoF {CX : CXT} {P : Program} {w : World} {K : PySem.W.Frag} {mg : Str → Option Value} {base : Heap} {N ps : List Str} {qual : Str} {scope : Scope} {f : Addr} {cd : Value} {A : Around} {outer : List Env} {s s1 : Shared} {H : Hp} {E : XK} {us : List Value} {vs : List V}
  (S : zak N ps scope) (hd : A.handled = none) (e0 : zxl P w K mg base A outer s H) (hl : vs.length = ps.length) (r : zbA vs us)
  (x : InCallC s s.heap.objs.size (bindL (envOfC qual scope s.heap.objs.size f cd).kindOf (ps.zip us) fun _ => none) (cellsFrom (s.heap.objs.size + 1) scope.names []) (bindC (envOfC qual scope s.heap.objs.size f cd).kindOf (ps.zip us) fun _ => none) s1) :
  Inv (zjh CX P w K mg base N qual scope f cd A outer s H E) [] (start N vs) H s1 := by
 have hpl : ps.length ≤ N.length := by have := congrArg List.length S.pre; rw [List.length_take] at this; omega
 obtain ⟨h1, tk, rfl, hk⟩ := x.done
 have noA : ∀ b : Addr, b ∉ (zjh CX P w K mg base N qual scope f cd A outer s H E).ex := fun b z => absurd (show b ∈ ([] : List Addr) from z) (by simp)
 refine ⟨⟨e0.mod, S.kind, rfl, rfl, Nat.le_refl _, fun y z c h1 h2 => ?_, fun y hy => ?_, fun y c _ h => ?_, fun _ => hd, Around.frames_deeper e0.frames, .inr ⟨rfl, rfl⟩, fun b z => absurd z (noA b), e0.bs, e0.bsz, fun b _ _ => noA b, fun b z => absurd z (noA b), e0.funs, e0.frf⟩,
  rfl, e0.bare, Un.kept hk, ⟨_, x.toInCall.ns, fun i y v h1 h2 h3 => ?_⟩, fun y c h => ⟨_, x.cell y c h⟩, e0.hok.fresh (Nat.le_refl _), fun y c h => ?_, fun p hp => absurd (show p ∈ ([] : List (Addr × Obj)) from hp) (by simp), e0.hok.kept hk, ?_⟩
 ·exact name_of_addr x.apart (PySem.mem_of_lookup h1) (PySem.mem_of_lookup h2)
 ·have hy : scope.names.lookup y = some .cell ∨ scope.names.lookup y = some .free := hy
  rcases hy with hy | hy
  ·exact zmc hy
  ·exact absurd rfl (S.nofree _ (PySem.mem_of_lookup hy))
 ·exact Nat.le_of_lt (x.above y c (PySem.mem_of_lookup h))
 ·have hi : i < vs.length := by
   unfold start at h2
   by_cases hi : i < vs.length
   ·exact hi
   ·rw [List.getElem?_append_right (by simpa using hi)] at h2
    rw [List.getElem?_replicate] at h2
    split at h2 <;> cases h2
  have ha : vs[i]? = some v := by
   unfold start at h2
   rw [List.getElem?_append_left (by simpa using hi), List.getElem?_map] at h2
   cases e : vs[i]? with
   | none => rw [e] at h2; cases h2
   | some a => rw [e] at h2; cases h2; rfl
  obtain ⟨u, hu, rv⟩ := r.get ha
  have hp : ps[i]? = some y := by
   rw [← S.pre, List.getElem?_take_of_lt (by omega)]; exact h1
  have ndP : ps.Nodup := by rw [← S.pre]; exact S.nd.sublist (List.take_sublist _ _)
  refine ⟨u, rv, ?_⟩
  rcases S.par y (List.mem_of_getElem? hp) with k | k
  ·exact .inl ⟨k, zj7 ndP hp hu k⟩
  ·obtain ⟨c, e⟩ := zmc (n := s.heap.objs.size + 1) k
   refine .inr ⟨.inl k, c, e, ?_⟩
   have q := x.cell y c e
   rw [zj8 ndP hp hu (by show scope.names.lookup y ≠ _; rw [k]; decide)] at q
   exact q
 ·exact e0.hok.fresh (Nat.le_of_lt (x.above y c (PySem.mem_of_lookup h)))
 ·unfold start
  show _ = N.length
  rw [List.length_append, List.length_map, List.length_replicate]
  omega
theorem zxQ {CX : CXT} {P : Program} {w : World} {K : PySem.W.Frag} {mg : Str → Option Value} {base : Heap} {k : Nat} {f : Addr} {name qual : Str} {params : Arguments} {body : List Stmt} {scope : Scope} {dV kV doc pm cdv ct oc : Value} {an od : Option Addr}
  {osl : Array (Option Value)} {N ps : List Str} {sp : Sp} (lk : K.lookup f = some ⟨oc, od, .func (PySem.W.fnOf name qual params body scope dV kV doc pm an cdv ct), osl⟩) (hcd : PySem.W.codeIn K cdv qual = true) (S : zak N ps scope)
  (len : ∀ vs H Q E, sp vs H Q E → vs.length = ps.length)
  (hbody : ∀ (A : Around) (outer : List Env) (s : Shared) (H : Hp) (vs : List V) (Q : VK) (E : XK), zhc k (A.deeper (envOfC qual scope s.heap.objs.size f cdv)) → sp vs H Q E →
   ∃ t, PSs (zjh CX P w K mg base N qual scope f cdv A outer s H E) body t ∧ t { nx := fun _ H' => Q .non H', rt := Q } (start N vs) H) :
  ziE P w K mg base CX (k + 1) f (PySem.W.fnOf name qual params body scope dV kV doc pm an cdv ct) ps sp := by
 refine ⟨len, fun A outer s H args us vs Q E hr e0 hb r hsp => ?_⟩
 have hl := len _ _ _ _ hsp
 have KX : K.In s.heap := e0.mod.kin.keeps fun b o e => (e0.bs b o e).1
 have lim : s.heap.NoLimit := e0.mod.nolimit.keeps fun b o e => (e0.bs b o e).1
 have hkind : ∀ y ∈ ps.zip us, scope.names.lookup y.1 = some .local ∨ (scope.names.lookup y.1 = some .cell ∧ ((cellsFrom (s.heap.objs.size + 1) scope.names []).lookup y.1).isSome = true) := fun ⟨n, v⟩ hy => by
  rcases S.par n (List.of_mem_zip hy).1 with q | q
  ·exact .inl q
  ·exact .inr ⟨q, PySem.W.cellsFrom_some _ _ _ (.inl q)⟩
 refine codeAny_call_function hr.depth (KX _ _ lk) rfl S.co S.gen rfl (PySem.W.codeRec_of KX hcd) (hb _ _ _ _ ?_)
 refine wpAny_newFunctionEnv_cells S.kind hkind fun env he s1 x => ?_
 subst he
 refine ⟨lim.keeps x.toInCall.keep, codeAny_func ?_⟩
 obtain ⟨t, ht, hq⟩ := hbody A outer s H vs Q E (hr.deeper _) hsp
 have I : Inv (zjh CX P w K mg base N qual scope f cdv A outer s H E) [] (start N vs) H s1 := zoF S hr.hd e0 hl r x
 refine wpAny_mono (ht [] s1 (start N vs) H _ I hq) (fun fl s' hs => ?_) fun e s' hs => hs
 have fin : ∀ {σ' : St} {H' : Hp} {v : V} {u : Value}, Inv (zjh CX P w K mg base N qual scope f cdv A outer s H E) [] σ' H' s' → zbC v u → Q v H' → CE outer P w H s Q u s' :=
  fun {σ' H' v u} J rv q => ⟨v, H', J.os, J.bare, J.base, J.hok, rv, q⟩
 cases fl with
 | ret u =>
  obtain ⟨v, σ', H', J, rv, q⟩ := hs
  exact fin J rv q
 | next =>
  obtain ⟨σ', H', J, q⟩ := hs
  exact fin (v := V.non) (u := Value.none) J rfl q
 | brk =>
  obtain ⟨_, _, _, q⟩ := hs
  exact False.elim q
 | cont =>
  obtain ⟨_, _, _, q⟩ := hs
  exact False.elim q
end L2
namespace L2
open PySem PySem.Spec PyProof.Rows
section
variable {X : Cx} {x : Str} {p pos : Pos} {e : Expr} {es : List Expr} {t : TA} {id T : String} {r : List V → Hp → VK → Prop}
noncomputable def tCB (r : List V → Hp → VK → Prop) (t : TA) : TE := fun σ H Q => t σ H fun vs H1 => r vs H1 Q
theorem zmd (hc : zcF X (.builtin id) r) (hg : Gl X x) (hm : X.mg x = none) (hv : bootBuiltins x = some (.builtin id)) (ha : PA X (e :: es) t) (hn : x ≠ "__name__" := by decide) (hdb : (x == ("__debug__" : Str)) = false := by decide)
  (he : starEach (e :: es) X.env = (false, eval e X.env) :: starEach es X.env := by rfl) (hpl : (backTo pos (starEach es X.env)).any (·.1) = false := by rfl) : PE X (.Call (.Name x p) (e :: es) [] pos) (tCB r t) := by
 intro pins s σ H Q I h
 refine wpAny_Call_Name_kw (ziD I hg hm hv ?_ hn hdb)
 exact PyProof.Rows.callWith_builtin1 (thn (ha pos pins s σ H _ I h) fun us s1 ⟨vs, H1, I1, r1, q1⟩ => hc pins s1 σ H1 vs us Q I1 r1 q1) he hpl
theorem zhd (hc : zcF X (.type T) r) (hg : Gl X x) (hm : X.mg x = none) (hv : bootBuiltins x = some (.type T)) (ha : PA X (e :: es) t) (hn : x ≠ "__name__" := by decide) (hdb : (x == ("__debug__" : Str)) = false := by decide)
  (he : starEach (e :: es) X.env = (false, eval e X.env) :: starEach es X.env := by rfl) (hpl : (backTo pos (starEach es X.env)).any (·.1) = false := by rfl) : PE X (.Call (.Name x p) (e :: es) [] pos) (tCB r t) := by
 intro pins s σ H Q I h
 refine wpAny_Call_Name_kw (ziD I hg hm hv ?_ hn hdb)
 exact PyProof.Rows.callWith_type1 (thn (ha pos pins s σ H _ I h) fun us s1 ⟨vs, H1, I1, r1, q1⟩ => hc pins s1 σ H1 vs us Q I1 r1 q1) he hpl
end
end L2
namespace HT
open PySem PyProof.Rows
section
open PySem.SeqAt
open PySem.AutoSeq1 (wpAny_loadPart')
open PySem.MeetsSeq PySem.MeetsSeq2 PySem.MeetsSeq3
end
section
variable {prog : Program} {w : World} {A : Around} {E : Value → Shared → Prop} {s : Shared}
theorem cat_tup {t b : Addr} {vs ws : List Value} {Q : Value → Shared → Prop} (ht : IsTup s.heap t vs.toArray) (hb : IsTup s.heap b ws.toArray) (hv : vs ≠ [])
  (h1 : ws = [] → Q (.ref t) s) (h2 : ws ≠ [] → Q (.ref s.heap.objs.size) { s with heap := s.heap.push { cls := .type "tuple", data := .seq (vs ++ ws).toArray } })
  (hsz : vs.length + ws.length ≤ sizeLine) : wpAny (model prog w) A (binaryOp .Add (.ref t) (.ref b)) Q E s := by
 obtain ⟨⟨cls, dd, data, sl⟩, ho, hc, n, hd⟩ := id ht
 obtain ⟨⟨cls2, dd2, data2, sl2⟩, ho2, hc2, n2, hd2⟩ := id hb
 simp only at hc hd hc2 hd2
 subst hc hd hc2 hd2
 have e : vs.toArray ++ ws.toArray = (vs ++ ws).toArray := by simp
 by_cases hw : ws = []
 ·exact concat_meets ⟨_, ho, rfl⟩ ⟨_, ho2, rfl⟩ noFill_tuple_add seq_tuple_add PySem.F.slot_tuple_add PySem.F.entry_tuple_add (PySem.F.args_tuple_add_2 _ _)
   (tuple_addW1 t b vs.toArray ws.toArray n n2 dd dd2 sl sl2 (by simpa using hv) (by simp [hw])) ⟨ho, ho2, h1 hw⟩
 ·refine concat_meets ⟨_, ho, rfl⟩ ⟨_, ho2, rfl⟩ noFill_tuple_add seq_tuple_add PySem.F.slot_tuple_add PySem.F.entry_tuple_add (PySem.F.args_tuple_add_2 _ _)
   (tuple_addW2 t b vs.toArray ws.toArray n n2 dd dd2 sl sl2 (by simpa using hv) (by simpa using hw) (by rw [List.size_toArray, List.size_toArray]; exact hsz)) ⟨ho, ho2, ?_⟩
  rw [e]
  exact h2 hw
noncomputable def sIx (n d : Nat) : Option Int → Nat
 | none => d
 | some v => if v < 0 then (v + (n : Int)).toNat else min v.toNat n
theorem sIx_none (n d : Nat) : sIx n d none = d := rfl
theorem sIx_nat (n d k : Nat) : sIx n d (some (k : Int)) = min k n := by
 show (if (k : Int) < 0 then ((k : Int) + (n : Int)).toNat else min (k : Int).toNat n) = min k n
 rw [if_neg (by omega), Int.toNat_natCast]
theorem zvK (n d : Nat) (hd : d ≤ n) (o : Option Int) : sIx n d o ≤ n := by
 cases o with
 | none => exact hd
 | some v =>
  show (if v < 0 then (v + (n : Int)).toNat else min v.toNat n) ≤ n
  by_cases hv : v < 0
  ·rw [if_pos hv]; omega
  ·rw [if_neg hv]; exact Nat.min_le_right _ _
theorem zoG (v : Int) (n d : Nat) : (if v < 0 then max (v + (n : Int)) 0 else min v (n : Int)) = ((sIx n d (some v) : Nat) : Int) := by
 show (if v < 0 then max (v + (n : Int)) 0 else min v (n : Int)) = (((if v < 0 then (v + (n : Int)).toNat else min v.toNat n) : Nat) : Int)
 by_cases hv : v < 0
 ·simp only [if_pos hv]; omega
 ·simp only [if_neg hv]; omega
theorem znJ (lo hi : Option Int) (n : Nat) : Builtin.Slice.sliceAdjust lo hi 1 (n : Int) = (((sIx n 0 lo : Nat) : Int), ((sIx n n hi : Nat) : Int)) := by
 have h1 : ¬ ((1 : Int) < 0) := by omega
 unfold Builtin.Slice.sliceAdjust
 simp only [h1, if_false]
 refine Prod.ext ?_ ?_
 ·cases lo with
  | none => rfl
  | some v => exact zoG v n 0
 ·cases hi with
  | none => rfl
  | some v => exact zoG v n n
theorem znK (i j : Nat) : Builtin.Slice.slicePlaces (i : Int) (j : Int) 1 = j - i := by
 unfold Builtin.Slice.slicePlaces
 have h1 : (1 : Int) > 0 := by omega
 simp only [h1, if_true, Int.ediv_one]
 split <;> omega
theorem ziF {v : Value} {o : Option Int} {Q : Option Int → Shared → Prop} (p : IsPart v o) (h : Q o s) : wpAny (model prog w) A (Builtin.Slice.slicePartIndex v) Q E s := by
 cases p with
 | none => exact slicePart_none h
 | int i t => exact slicePart_int h
theorem zgT {sl : Addr} {vl vu : Value} {lo hi : Option Int} {n : Nat} {Q : Int × Int × Nat → Shared → Prop} (hs : s.heap.IsSliceOf sl vl vu .none) (pl : IsPart vl lo) (pu : IsPart vu hi)
  (h : Q (((sIx n 0 lo : Nat) : Int), 1, sIx n n hi - sIx n 0 lo) s) : wpAny (model prog w) A (Builtin.Slice.sliceApplied (.ref sl) (pure (n : Int))) Q E s := by
 obtain ⟨os, hos, hcs, hds⟩ := id hs
 unfold Builtin.Slice.sliceApplied Builtin.Slice.sliceFields
 refine wpAny_bind (wpAny_bind (wpAny_field hos hds (x := vl) rfl (wpAny_bind (wpAny_field hos hds (x := vu) rfl (wpAny_bind (wpAny_field hos hds (x := .none) rfl (wpAny_pure ?_)))))))
 refine wpAny_bind (slicePart_none ?_)
 show wpAny _ _ (if ((1 : Int) == 0) = true then _ else _) _ _ s
 rw [if_neg (by decide)]
 refine wpAny_bind (ziF pl (wpAny_bind (ziF pu (wpAny_bind (wpAny_pure ?_)))))
 show wpAny _ _ (match Builtin.Slice.sliceAdjust lo hi 1 (n : Int) with | (lo, hi) => pure (lo, (1 : Int), Builtin.Slice.slicePlaces lo hi 1)) _ _ s
 rw [znJ lo hi n]
 show wpAny _ _ (pure (((sIx n 0 lo : Nat) : Int), (1 : Int), Builtin.Slice.slicePlaces ((sIx n 0 lo : Nat) : Int) ((sIx n n hi : Nat) : Int) 1)) _ _ s
 rw [znK]
 exact wpAny_pure h
theorem zri (xs : Array Value) (i k : Nat) : ((List.range k).filterMap fun (m : Nat) => xs[((i : Int) + (m : Int) * 1).toNat]?).toArray = ((xs.toList.drop i).take k).toArray := by
 have e : (fun (m : Nat) => xs[((i : Int) + (m : Int) * 1).toNat]?) = fun m => xs[i + m]? := by
  funext m
  have : ((i : Int) + (m : Int) * 1).toNat = i + m := by omega
  rw [this]
 rw [e]
 have := pick_run xs i k
 rw [List.filterMap_map] at this
 have e2 : ((fun x => xs[x]?) ∘ fun x => i + x) = fun m => xs[i + m]? := rfl
 rw [e2] at this
 rw [this]
theorem getItem_tuple_cut {t sl : Addr} {items : Array Value} {vl vu : Value} {lo hi : Option Int} {Q : Value → Shared → Prop} (ht : IsTup s.heap t items) (hs : s.heap.IsSliceOf sl vl vu .none) (pl : IsPart vl lo) (pu : IsPart vu hi)
  (hw : ¬ (sIx items.size 0 lo = 0 ∧ sIx items.size items.size hi = items.size))
  (h : Q (.ref s.heap.objs.size) { s with heap := s.heap.push { cls := .type "tuple", data := .seq ((items.toList.drop (sIx items.size 0 lo)).take (sIx items.size items.size hi - sIx items.size 0 lo)).toArray } })
  (hsz : items.size ≤ sizeLine) : wpAny (model prog w) A (getItem (.ref t) (.ref sl)) Q E s := by
 have htake : sizeOk (.seq ((items.toList.drop (sIx items.size 0 lo)).take (sIx items.size items.size hi - sIx items.size 0 lo)).toArray) := by
  show ((items.toList.drop (sIx items.size 0 lo)).take (sIx items.size items.size hi - sIx items.size 0 lo)).toArray.size ≤ sizeLine
  rw [List.size_toArray, List.length_take, List.length_drop, Array.length_toList]
  omega
 have hj : sIx items.size items.size hi ≤ items.size := zvK _ _ (Nat.le_refl _) hi
 obtain ⟨os, hos, hcs, hds⟩ := id hs
 have hTs : s.TypeIs (.ref sl) "slice" := ⟨os, hos, hcs⟩
 unfold getItem
 try with_reducible refine wpAny_holding ?_
 first | refine wpAny_bind (wpAny_pure ?_) | skip
 refine wpAny_bind (wpAny_sequenceKey ht.typeIs (by decide) ?_)
 refine wpAny_bind (wpAny_callSpecial?_slot (name := Str.ofString "__getitem__") ht.typeIs PyProof.Rows.slot_tuple_getitem
  (wpAny_call_entry PyProof.Rows.slot_tuple_getitem ht.typeIs entry_tuple_getitem ?_ (args_tuple_getitem _ _)))
 show wpAny _ _ (Builtin.Tuple.tupleItemsOf (.ref t) >>= _) _ _ s
 refine wpAny_bind (tupleItemsOf_ ht ?_)
 refine wpAny_bind (wpAny_typeOf hTs ?_)
 rw [if_pos (by decide)]
 refine wpAny_bind (zgT hs pl pu ?_)
 have hno : ¬ ((((sIx items.size 0 lo : Nat) : Int) == 0 && (1 : Int) == 1 && (sIx items.size items.size hi - sIx items.size 0 lo) == items.size) = true) := by
  intro q
  rw [Bool.and_eq_true, Bool.and_eq_true] at q
  have q1 : ((sIx items.size 0 lo : Nat) : Int) = 0 := eq_of_beq q.1.1
  have q2 : sIx items.size items.size hi - sIx items.size 0 lo = items.size := eq_of_beq q.2
  exact hw ⟨by omega, by omega⟩
 show wpAny _ _ (if (((sIx items.size 0 lo : Nat) : Int) == 0 && (1 : Int) == 1 && (sIx items.size items.size hi - sIx items.size 0 lo) == items.size) = true then _ else _) _ _ s
 rw [if_neg hno, zri]
 first
  | exact wpAny_bind (m := Builtin.Tuple.tupleExact _) (wpAny_newObj_type (wpAny_pure ⟨_, rfl, wpAny_pure h⟩) htake)
  | exact wpAny_bind (m := Builtin.Tuple.tupleExact _) (wpAny_newObj_type (wpAny_bind (wpAny_pure (wpAny_pure ⟨_, rfl, wpAny_pure h⟩))) htake)
  | exact wpAny_bind (wpAny_bind (m := Builtin.Tuple.tupleExact _) (wpAny_newObj_type (wpAny_pure (wpAny_pure ⟨_, rfl, wpAny_pure h⟩)) htake))
  | exact wpAny_bind (wpAny_bind (m := Builtin.Tuple.tupleExact _) (wpAny_newObj_type (wpAny_pure ⟨_, rfl, wpAny_pure h⟩) htake))
end
end HT
namespace L2
open PySem PySem.Spec PyProof.Rows
noncomputable abbrev TO := St → Hp → (Option Int → Hp → Prop) → Prop
noncomputable def PO (X : Cx) (e : Option Expr) (t : TO) : Prop :=
 ∀ (pins : List (Addr × Obj)) (s : Shared) (σ : St) (H : Hp) (Q : Option Int → Hp → Prop), Inv X pins σ H s → t σ H Q →
  wpAny (model X.prog X.w) X.A (evalPart e X.env) (fun u s' => ∃ o H', Inv X pins σ H' s' ∧ IsPart u o ∧ Q o H') X.xe s
noncomputable def ztO : TO := fun _ H Q => Q none H
noncomputable def zxR (t : TE) : TO := fun σ H Q => t σ H fun x H1 => ∃ i, x = .int i ∧ Q (some i) H1
theorem znL {ns : List Int} : ∀ {us : List Value}, zbA (ns.map V.int) us → IntsAre us ns := by
 induction ns with
 | nil => intro us r; rw [List.map_nil] at r; cases r; exact .nil
 | cons n ns ih =>
  intro us r
  rw [List.map_cons] at r
  cases r with
  | cons r1 r2 =>
   obtain ⟨t, e⟩ := r1
   subst e
   exact .cons n t (ih r2)
section
variable {X : Cx} {e : Expr} {te : TE} {lo hi : Option Expr} {tl th : TO} {pos p2 : Pos}
theorem ztP : PO X none ztO := by
 intro pins s σ H Q I h
 rw [evalPart_none]
 exact wpAny_pure ⟨none, H, I, .none, h⟩
theorem ztQ (h : PE X e te) : PO X (some e) (zxR te) := by
 intro pins s σ H Q I hw
 rw [evalPart_some]
 refine thn (h pins s σ H _ I hw) fun u s1 ⟨x, H1, I1, r1, q1⟩ => ?_
 obtain ⟨i, rfl, q⟩ := q1
 obtain ⟨t, rfl⟩ := r1
 exact ⟨some i, H1, I1, .int i t, q⟩
noncomputable def SlR (X : Cx) (r : V → Option Int → Option Int → Hp → VK → Prop) : Prop :=
 ∀ (pins : List (Addr × Obj)) (s : Shared) (σ : St) (H : Hp) (x : V) (v vl vu : Value) (lo hi : Option Int) (sl : Addr) (Q : VK), Inv X pins σ H s → zbC x v → s.heap.IsSliceOf sl vl vu .none → IsPart vl lo → IsPart vu hi → r x lo hi H Q →
  ∃ T id, typeLookup (.type T) "__getitem__" = pure (some (.builtin id)) ∧ s.TypeIs v T ∧ wpAny (model X.prog X.w) X.A (getItem v (.ref sl)) (EP X pins σ Q) X.xe s
theorem SlR.or {r r' : V → Option Int → Option Int → Hp → VK → Prop} (h : SlR X r) (h' : SlR X r') : SlR X (fun x lo hi H Q => r x lo hi H Q ∨ r' x lo hi H Q) := by
 intro pins s σ H x v vl vu lo hi sl Q I rx hs pl pu q
 rcases q with q | q
 ·exact h pins s σ H x v vl vu lo hi sl Q I rx hs pl pu q
 ·exact h' pins s σ H x v vl vu lo hi sl Q I rx hs pl pu q
noncomputable def tSl (r : V → Option Int → Option Int → Hp → VK → Prop) (te : TE) (tl th : TO) : TE := fun σ H Q => te σ H fun x H1 => tl σ H1 fun l H2 => th σ H2 fun u H3 => r x l u H3 Q
theorem zrj {r : V → Option Int → Option Int → Hp → VK → Prop} (hr : SlR X r) (he : PE X e te) (hl : PO X lo tl) (hu : PO X hi th) : PE X (.Subscript e (.Slice lo hi none p2) pos) (tSl r te tl th) := by
 intro pins s σ H Q I h
 refine Subscript_ (thn (he pins s σ H _ I h) fun v s1 ⟨x, H1, I1, r1, q1⟩ => ?_)
 refine wpAny_Slice (thn (hl pins s1 σ H1 _ I1 q1) fun vl s2 ⟨l, H2, I2, pl, q2⟩ => thn (hu pins s2 σ H2 _ I2 q2) fun vu s3 ⟨u, H3, I3, pu, q3⟩ => ?_)
 rw [evalPart_none]
 refine wpAny_pure ?_
 have I4 : Inv X pins σ H3 { s3 with heap := s3.heap.push { cls := .type "slice", data := .fields #[vl, vu, .none] } } := I3.kept (t' := s3.toks) fun b ob q => Heap.get?_push_of_some _ q
 obtain ⟨T, id, hT, ht, hg⟩ := hr pins { s3 with heap := s3.heap.push { cls := .type "slice", data := .fields #[vl, vu, .none] } } σ H3 x v vl vu l u s3.heap.objs.size Q I4 r1 (Heap.IsSliceOf.new ..) pl pu q3
 show wpAny (model X.prog X.w) X.A (subscriptTail e (.Slice lo hi none p2) v (.ref s3.heap.objs.size)) (EP X pins σ Q) X.xe { s3 with heap := s3.heap.push { cls := .type "slice", data := .fields #[vl, vu, .none] } }
 exact tail_any (ops := [.ref s3.heap.objs.size, v]) ht hT hg (by with_unfolding_all rfl)
noncomputable def zq6 (xs : List V) (lo hi : Option Int) : List V := (xs.drop (HT.sIx xs.length 0 lo)).take (HT.sIx xs.length xs.length hi - HT.sIx xs.length 0 lo)
theorem zhe (xs : List V) (lo hi : Option Int) : (zq6 xs lo hi).length ≤ xs.length := by
 unfold zq6
 rw [List.length_take, List.length_drop]
 omega
noncomputable def rSlT (K : PySem.W.Frag) : V → Option Int → Option Int → Hp → VK → Prop := fun x lo hi H Q => ∃ a xs, x = .ref a ∧ SqT K H a xs ∧
 ¬ (HT.sIx xs.length 0 lo = 0 ∧ HT.sIx xs.length xs.length hi = xs.length) ∧ ∀ p, H p = none → Q (.ref p) (upd H p (.tup (zq6 xs lo hi)))
theorem zvL : SlR X (rSlT X.K) := by
 intro pins s σ H x v vl vu lo hi sl Q I rx hs pl pu h
 obtain ⟨a, xs, rfl, hx, hw, q⟩ := h
 cases rx
 obtain ⟨its, r, ht, hz⟩ := I.tuple hx
 have hlen : its.toArray.size = xs.length := by rw [List.size_toArray]; exact r.length.symm
 refine ⟨"tuple", _, PyProof.Rows.slot_tuple_getitem.lookup, ht.typeIs, ?_⟩
 refine HT.getItem_tuple_cut ht hs pl pu (by rw [hlen]; exact hw) ?_ (by rw [hlen]; exact hz)
 rw [hlen]
 refine ⟨.ref s.heap.objs.size, _, I.laid (t' := s.toks) (o := .tup (zq6 xs lo hi)) (fun b ob q => Heap.get?_push_of_some _ q) (Nat.le_refl _) ?_, rfl, q _ (I.hok.fresh (Nat.le_refl _))⟩
 exact ⟨Nat.le_trans (zhe xs lo hi) hz, _, (r.drop (HT.sIx xs.length 0 lo)).take (HT.sIx xs.length xs.length hi - HT.sIx xs.length 0 lo), IsTup.new _ _⟩
noncomputable def zvM (K : PySem.W.Frag) : R2 := fun x y H Q => ∃ a b xs ys, x = .ref a ∧ y = .ref b ∧ SqT K H a xs ∧ SqT K H b ys ∧ xs ≠ [] ∧ xs.length + ys.length ≤ sizeLine ∧
 (ys = [] → Q (.ref a) H) ∧ (ys ≠ [] → ∀ p, H p = none → Q (.ref p) (upd H p (.tup (xs ++ ys))))
theorem zbA.nil_iff {xs : List V} {us : List Value} (r : zbA xs us) : us = [] ↔ xs = [] := by
 cases r with
 | nil => simp
 | cons _ _ => simp
theorem ztR : OpR X (binaryOp .Add) (zvM X.K) := by
 intro pins s σ H x y v u Q I rx ry h
 obtain ⟨a, b, xs, ys, rfl, rfl, ha, hb, hx, hz, q1, q2⟩ := h
 cases rx
 cases ry
 obtain ⟨its, r1, p1, _⟩ := I.tuple ha
 obtain ⟨its2, r2, p2, _⟩ := I.tuple hb
 refine HT.cat_tup p1 p2 (fun z => hx (r1.nil_iff.mp z)) (fun z => ⟨.ref a, H, I, rfl, q1 (r2.nil_iff.mp z)⟩) (fun z => ?_) (by rw [← r1.length, ← r2.length]; exact hz)
 refine ⟨.ref s.heap.objs.size, _, I.laid (t' := s.toks) (o := .tup (xs ++ ys)) (fun b ob q => Heap.get?_push_of_some _ q) (Nat.le_refl _) ?_, rfl, q2 (fun w => z (r2.nil_iff.mpr w)) _ (I.hok.fresh (Nat.le_refl _))⟩
 exact ⟨by rw [List.length_append]; exact hz, _, r1.append r2, IsTup.new _ _⟩
end
end L2
namespace L2
open PySem PySem.Spec PyProof.Rows
noncomputable def ixN (n : Nat) (i : Int) : Option Nat := if 0 ≤ i then (if i < n then some i.toNat else none) else if -(n : Int) ≤ i then some (i + n).toNat else none
noncomputable def atI {α : Type} (xs : List α) (i : Int) : Option α := (ixN xs.length i).bind fun j => xs[j]?
theorem zoH {n : Nat} {i : Int} {j : Nat} (h : ixN n i = some j) : seqIndex? i n = some j ∧ j < n ∧ -(n : Int) ≤ i ∧ i < n := by
 unfold ixN at h
 by_cases h0 : 0 ≤ i
 ·rw [if_pos h0] at h
  by_cases h1 : i < n
  ·rw [if_pos h1] at h
   have e : i.toNat = j := Option.some.inj h
   exact ⟨by rw [seqIndex_of h0 h1, e], by omega, by omega, h1⟩
  ·rw [if_neg h1] at h; cases h
 ·rw [if_neg h0] at h
  by_cases h1 : -(n : Int) ≤ i
  ·rw [if_pos h1] at h
   have e : (i + n).toNat = j := Option.some.inj h
   exact ⟨by rw [seqIndex_neg (by omega) h1, e], by omega, h1, by omega⟩
  ·rw [if_neg h1] at h; cases h
theorem zoI {α : Type} {xs : List α} {i : Int} {v : α} (h : atI xs i = some v) : ∃ j, seqIndex? i xs.length = some j ∧ xs[j]? = some v ∧ j < xs.length ∧ -(xs.length : Int) ≤ i ∧ i < xs.length := by
 unfold atI at h
 cases e : ixN xs.length i with
 | none => rw [e] at h; cases h
 | some j =>
  rw [e] at h
  obtain ⟨h1, h2, h3, h4⟩ := zoH e
  exact ⟨j, h1, h, h2, h3, h4⟩
theorem ztS {α : Type} {xs : List α} {j : Nat} {v : α} (h : xs[j]? = some v) : atI xs (j : Int) = some v := by
 have hj : j < xs.length := (List.getElem?_eq_some_iff.mp h).1
 have e : ixN xs.length (j : Int) = some j := by
  unfold ixN
  rw [if_pos (by omega), if_pos (by omega)]; simp
 unfold atI; rw [e]; exact h
theorem zrk {α : Type} (xs : List α) (v : α) : atI (xs ++ [v]) (-1) = some v := by
 have hl : (xs ++ [v]).length = xs.length + 1 := by simp
 have e : ixN (xs ++ [v]).length (-1) = some xs.length := by
  unfold ixN
  rw [hl, if_neg (by decide), if_pos (by omega)]
  congr 1
  omega
 unfold atI
 rw [e]
 show (xs ++ [v])[xs.length]? = some v
 simp
noncomputable def zoJ (b : Expr) : Prop := ∀ o i, subscripted b false o i = operate [o, i] (getItem o i)
noncomputable def IxR (X : Cx) (r : R2) : Prop :=
 ∀ (value slice : Expr) (pins : List (Addr × Obj)) (s : Shared) (σ : St) (H : Hp) (x y : V) (v u : Value) (Q : VK), Inv X pins σ H s → zbC x v → zbC y u → r x y H Q →
  subscripted slice false v u = operate [v, u] (getItem v u) → wpAny (model X.prog X.w) X.A (subscriptTail value slice v u) (EP X pins σ Q) X.xe s
noncomputable def MtR (X : Cx) (id : String) (r : V → List V → Hp → VK → Prop) : Prop :=
 ∀ (pins : List (Addr × Obj)) (s : Shared) (σ : St) (H : Hp) (x : V) (xs : List V) (v : Value) (us : List Value) (Q : VK), Inv X pins σ H s → zbC x v → zbA xs us → r x xs H Q →
  wpAny (model X.prog X.w) X.A (call (.builtin id) (v :: us)) (EP X pins σ Q) X.xe s
section
variable {X : Cx} {a b : Expr} {ta tb : TE} {pos : Pos}
theorem IxR.or {r r' : R2} (h : IxR X r) (h' : IxR X r') : IxR X (fun x y H Q => r x y H Q ∨ r' x y H Q) := by
 intro value slice pins s σ H x y v u Q I rx ry q hs
 rcases q with q | q
 ·exact h value slice pins s σ H x y v u Q I rx ry q hs
 ·exact h' value slice pins s σ H x y v u Q I rx ry q hs
theorem zxS {r : R2} (hr : IxR X r) (ha : PE X a ta) (hb : PE X b tb) (hs : zoJ b) : PE X (.Subscript a b pos) (tOp r ta tb) := by
 intro pins s σ H Q I h
 exact Subscript_ (zxH ha hb I h fun v u s2 x y H2 I2 rx ry q => hr a b pins s2 σ H2 x y v u Q I2 rx ry q (hs _ _))
noncomputable def rIxL (K : PySem.W.Frag) : R2 := fun x y H Q => ∃ p xs i v, x = .ref p ∧ y = .int i ∧ SqL K H p xs ∧ atI xs i = some v ∧ Q v H
noncomputable def rIxT (K : PySem.W.Frag) : R2 := fun x y H Q => ∃ p xs i v, x = .ref p ∧ y = .int i ∧ SqT K H p xs ∧ atI xs i = some v ∧ Q v H
theorem ztT : IxR X (rIxL X.K) := by
 intro value slice pins s σ H x y v u Q I rx ry h hs
 obtain ⟨p, xs, i, z, rfl, rfl, hq, he, q⟩ := h
 cases rx
 obtain ⟨t, rfl⟩ := ry
 obtain ⟨its, r, pl, hz⟩ := I.list hq
 obtain ⟨j, h1, h2, h3, h4, h5⟩ := zoI he
 obtain ⟨w, ew, rw'⟩ := r.get h2
 have hl := r.length
 have hn := zj3
 have fin : EP X pins σ Q w s := ⟨z, H, I, rw', q⟩
 by_cases h0 : 0 ≤ i
 ·have hj : i.toNat = j := by
   rw [seqIndex_of h0 h5] at h1
   exact Option.some.inj h1
  exact item_listR pl.isList h0 (by omega) (by rw [hj]; simpa using ew) fin hs
 ·have hj : (i + (its.toArray.size : Int)).toNat = j := by
   rw [seqIndex_neg (by omega) h4] at h1
   rw [List.size_toArray, ← hl]
   exact Option.some.inj h1
  exact subscriptTail_builtinR (x := w) pl.isList.typeIs slot_list_getitem.lookup
   (wpAny_getItem_list_neg (Q := fun r s' => r = w ∧ EP X pins σ Q r s') pl.isList (by omega) (by rw [List.size_toArray] <;> omega) (by omega) (by rw [hj]; simpa using ew) ⟨rfl, fin⟩) hs
theorem zvN : IxR X (rIxT X.K) := by
 intro value slice pins s σ H x y v u Q I rx ry h hs
 obtain ⟨p, xs, i, z, rfl, rfl, hq, he, q⟩ := h
 cases rx
 obtain ⟨t, rfl⟩ := ry
 obtain ⟨its, r, pl, hz⟩ := I.tuple hq
 obtain ⟨j, h1, h2, h3, h4, h5⟩ := zoI he
 obtain ⟨w, ew, rw'⟩ := r.get h2
 have hl := r.length
 have hn := zj3
 have fin : EP X pins σ Q w s := ⟨z, H, I, rw', q⟩
 exact subscriptTail_builtinR (x := w) pl.typeIs slot_tuple_getitem.lookup
  (getItem_tuple (j := j) (Q := fun r s' => r = w ∧ EP X pins σ Q r s') pl (by omega) (by omega) (by rw [List.size_toArray, ← hl]; exact h1) (by simpa using ew) ⟨rfl, fin⟩) hs
theorem znM (its : List Value) (n j : Nat) (u : Value) : Obj.mapSeq (·.setIfInBounds j u) { cls := .type "list", data := .seq its.toArray n } = { cls := .type "list", data := .seq (its.set j u).toArray n } := by
 simp [Obj.mapSeq]
theorem Inv.lst {pins : List (Addr × Obj)} {σ : St} {H : Hp} {s : Shared} {p : Addr} {xs : List V} (I : Inv X pins σ H s) (h : H p = some (.lst xs)) :
  ∃ (its : List Value) (n : Nat), zbA xs its ∧ s.heap.get? p = some { cls := .type "list", data := .seq its.toArray n } ∧ xs.length ≤ sizeLine := by
 obtain ⟨z, its, n, r, e⟩ := I.hok p _ h
 exact ⟨its, n, r, e, z⟩
theorem Inv.lstUpd {pins : List (Addr × Obj)} {σ : St} {H : Hp} {s : Shared} {p : Addr} {xs ys : List V} {its its' : List Value} {n n' : Nat} {f : Obj → Obj} (I : Inv X pins σ H s) (h : H p = some (.lst xs))
  (ho : s.heap.get? p = some { cls := .type "list", data := .seq its.toArray n }) (hf : f { cls := .type "list", data := .seq its.toArray n } = { cls := .type "list", data := .seq its'.toArray n' }) (r : zbA ys its') (hz : ys.length ≤ sizeLine) (t : Nat) :
  Inv X pins σ (upd H p (.lst ys)) { s with heap := s.heap.update p f, toks := t } := by
 have e : (s.heap.update p f).get? p = some { cls := .type "list", data := .seq its'.toArray n' } := by
  rw [Heap.get?_update_self f ho (by rw [hf] <;> rfl), hf]
 refine I.write (x := p) (e := p) (by rw [h]; trivial) (.inl rfl) (fun b u hb q => (Heap.get?_update_other _ _ (Ne.symm hb)).trans q) ⟨_, e⟩ ?_
 exact ⟨hz, its', n', r, e⟩
noncomputable def zxT : V → V → V → Hp → (Hp → Prop) → Prop := fun o i v H Q => ∃ p xs k j, o = .ref p ∧ i = .int k ∧ H p = some (.lst xs) ∧ ixN xs.length k = some j ∧ Q (upd H p (.lst (xs.set j v)))
theorem zrl : PSet X zxT := by
 intro pins s σ H o i v ov iv u Q I ro ri rv h
 obtain ⟨p, xs, k, j, rfl, rfl, hp, hj, q⟩ := h
 cases ro
 obtain ⟨t, rfl⟩ := ri
 obtain ⟨its, n, r, ho, hz⟩ := I.lst hp
 obtain ⟨h1, h2, h3, h4⟩ := zoH hj
 have hl := r.length
 have hn := zj3
 have I' : Inv X pins σ (upd H p (.lst (xs.set j v))) { s with heap := s.heap.update p (Obj.mapSeq (·.setIfInBounds j u)) } :=
  I.lstUpd hp ho (znM its n j u) (r.set rv j) (by rw [List.length_set]; exact hz) s.toks
 by_cases h0 : 0 ≤ k
 ·have hk : k.toNat = j := by
   rw [seqIndex_of h0 h4] at h1
   exact Option.some.inj h1
  exact PySem.W.ki_setAt ho h0 (by omega) (by rw [List.size_toArray, ← hl]; exact h4) (by rw [hk]; exact ⟨_, I', q⟩)
 ·have hk : (k + (its.toArray.size : Int)).toNat = j := by
   rw [seqIndex_neg (by omega) h3] at h1
   rw [List.size_toArray, ← hl]
   exact Option.some.inj h1
  exact PySem.W.ki_setBack ho (by omega) (by rw [List.size_toArray, ← hl]; exact h3) (by omega) (by rw [hk]; exact ⟨_, I', q⟩)
theorem zj9 (lo hi : Option Int) (n : Nat) : (sliceBounds lo hi none n).1 = ((HT.sIx n 0 lo : Nat) : Int) ∧ (sliceBounds lo hi none n).2.1 = ((HT.sIx n n hi : Nat) : Int) ∧ (sliceBounds lo hi none n).2.2 = 1 := by
 refine ⟨?_, ?_, rfl⟩
 ·cases lo with
  | none => simp [sliceBounds, HT.sIx]
  | some i =>
   simp only [sliceBounds, HT.sIx, Option.getD_none, show (1 : Int) > 0 by decide, if_true]
   by_cases h : i < 0
   ·simp only [h, if_true] <;> omega
   ·simp only [h, if_false] <;> omega
 ·cases hi with
  | none => simp [sliceBounds, HT.sIx]
  | some i =>
   simp only [sliceBounds, HT.sIx, Option.getD_none, show (1 : Int) > 0 by decide, if_true]
   by_cases h : i < 0
   ·simp only [h, if_true] <;> omega
   ·simp only [h, if_false] <;> omega
theorem zji (its : List Value) (lo hi : Option Int) : slicePick its.toArray lo hi none = ((its.drop (HT.sIx its.length 0 lo)).take (HT.sIx its.length its.length hi - HT.sIx its.length 0 lo)).toArray := by
 obtain ⟨h1, h2, h3⟩ := zj9 lo hi its.toArray.size
 unfold slicePick
 rw [h1, h2, h3]
 simp only [sliceRange_one, pick_run, List.size_toArray] <;> rfl
noncomputable def rSlL (K : PySem.W.Frag) : V → Option Int → Option Int → Hp → VK → Prop := fun x lo hi H Q => ∃ a xs, x = .ref a ∧ SqL K H a xs ∧ ∀ p, H p = none → Q (.ref p) (upd H p (.lst (zq6 xs lo hi)))
theorem ztU : SlR X (rSlL X.K) := by
 intro pins s σ H x v vl vu lo hi sl Q I rx hs pl pu h
 obtain ⟨a, xs, rfl, hx, q⟩ := h
 cases rx
 obtain ⟨its, r, ht, hz⟩ := I.list hx
 have hlen := r.length
 refine ⟨"list", _, slot_list_getitem.lookup, ht.isList.typeIs, ?_⟩
 refine wpAny_getItem_list_slice ht.isList hs pl pu .none (by simp) ?_ (by rw [List.size_toArray] <;> omega)
 rw [zji, ← hlen]
 refine ⟨.ref s.heap.objs.size, _, I.laid (t' := s.toks) (o := .lst (zq6 xs lo hi)) (fun b ob q => Heap.get?_push_of_some _ q) (Nat.le_refl _) ?_, rfl, q _ (I.hok.fresh (Nat.le_refl _))⟩
 exact ⟨Nat.le_trans (zhe xs lo hi) hz, _, 0, (r.drop (HT.sIx xs.length 0 lo)).take (HT.sIx xs.length xs.length hi - HT.sIx xs.length 0 lo), Heap.get?_push_size _ rfl⟩
noncomputable def zlt : V → Bool
 | .non => true
 | .bl _ => true
 | .int _ => true
 | .str _ => true
 | _ => false
noncomputable def eqV : V → V → Bool
 | .non, .non => true
 | .bl a, .bl b => a == b
 | .bl a, .int b => (if a then 1 else 0) == b
 | .int a, .bl b => a == (if b then 1 else 0)
 | .int a, .int b => a == b
 | .str a, .str b => a == b
 | _, _ => false
theorem zvO {A : Around} {s : Shared} {y x : V} {u v : Value} (ry : zbC y u) (rx : zbC x v) (fy : zlt y = true) (fx : zlt x = true) : SeqAt.EqAt A s u v (eqV y x) := by
 cases y with
 | non =>
  cases ry
  cases x with
  | non => cases rx; exact SeqAt.EqAt.same _
  | bl b => cases rx; exact SeqAt.EqAt.none_bool b
  | int b => obtain ⟨t, rfl⟩ := rx; exact SeqAt.EqAt.none_int b t
  | str b => obtain ⟨t, rfl⟩ := rx; exact SeqAt.EqAt.none_str b t
  | _ => exact absurd (show false = true from fx) Bool.false_ne_true
 | bl a =>
  cases ry
  cases x with
  | non => cases rx; exact SeqAt.EqAt.bool_none a
  | bl b => cases rx; exact SeqAt.EqAt.bool_bool a b
  | int b => obtain ⟨t, rfl⟩ := rx; exact SeqAt.EqAt.bool_int a b t
  | str b => obtain ⟨t, rfl⟩ := rx; exact SeqAt.EqAt.bool_str a b t
  | _ => exact absurd (show false = true from fx) Bool.false_ne_true
 | int a =>
  obtain ⟨t', rfl⟩ := ry
  cases x with
  | non => cases rx; exact SeqAt.EqAt.int_none a t'
  | bl b => cases rx; exact SeqAt.EqAt.int_bool a t' b
  | int b => obtain ⟨t, rfl⟩ := rx; exact SeqAt.EqAt.int_int a t' b t
  | str b => obtain ⟨t, rfl⟩ := rx; exact SeqAt.EqAt.int_str a t' b t
  | _ => exact absurd (show false = true from fx) Bool.false_ne_true
 | str a =>
  obtain ⟨t', rfl⟩ := ry
  cases x with
  | non => cases rx; exact SeqAt.EqAt.str_none a t'
  | bl b => cases rx; exact SeqAt.EqAt.str_bool a t' b
  | int b => obtain ⟨t, rfl⟩ := rx; exact SeqAt.EqAt.str_int a t' b t
  | str b => obtain ⟨t, rfl⟩ := rx; exact SeqAt.EqAt.str_str a t' b t
  | _ => exact absurd (show false = true from fx) Bool.false_ne_true
 | _ => exact absurd (show false = true from fy) Bool.false_ne_true
theorem zka : OpR X (compareOp .NotIn) (fun x y H Q => ∃ i j, x = .str i ∧ y = .str j ∧ Q (.bl (!(!(Builtin.Str.occurrences j i 0 j.length 1).isEmpty))) H) := by
 intro pins s σ H x y v u Q I rx ry h
 obtain ⟨i, j, rfl, rfl, q⟩ := h
 obtain ⟨t, rfl⟩ := rx
 obtain ⟨t', rfl⟩ := ry
 exact notIn_str ⟨.bl _, H, I, rfl, q⟩
theorem zkb : zcF X (.builtin "len") (fun xs H Q => ∃ p ys, xs = [.ref p] ∧ (SqL X.K H p ys ∨ SqT X.K H p ys) ∧ Q (.int ys.length) H) := by
 intro pins s σ H xs us Q I r h
 obtain ⟨p, ys, rfl, hq, q⟩ := h
 obtain ⟨u, rfl, rx⟩ := zgS r
 cases rx
 have hn := zj3
 rcases hq with hq | hq
 ·obtain ⟨its, r', pl, hz⟩ := I.list hq
  have hlen := r'.length
  exact Calls.call_len_list pl.isList (by simp only [List.size_toArray] <;> omega) ⟨.int ys.length, H, I.tok _, ⟨s.toks + 1, by rw [List.size_toArray, hlen]⟩, q⟩
 ·obtain ⟨its, r', pl, hz⟩ := I.tuple hq
  have hlen := r'.length
  exact len_tuple pl (by simp only [List.size_toArray] <;> omega) ⟨.int ys.length, H, I.tok _, ⟨s.toks + 1, by rw [List.size_toArray, hlen]⟩, q⟩
theorem zkc : zcF X (.builtin "len") (fun xs H Q => ∃ z, xs = [.str z] ∧ z.length ≤ sizeLine ∧ Q (.int z.length) H) := by
 intro pins s σ H xs us Q I r h
 obtain ⟨z, rfl, hz, q⟩ := h
 obtain ⟨u, rfl, t, rfl⟩ := zgS r
 have hn := zj3
 exact len_str (by omega) ⟨.int z.length, H, I.tok _, ⟨_, rfl⟩, q⟩
theorem zcF.or {f : Value} {r r' : List V → Hp → VK → Prop} (h : zcF X f r) (h' : zcF X f r') : zcF X f (fun xs H Q => r xs H Q ∨ r' xs H Q) := by
 intro pins s σ H xs us Q I rs q
 rcases q with q | q
 ·exact h pins s σ H xs us Q I rs q
 ·exact h' pins s σ H xs us Q I rs q
theorem zkd : zcF X (.type "list") (fun xs H Q => ∃ p ys, xs = [.ref p] ∧ (SqL X.K H p ys ∨ SqT X.K H p ys) ∧ ∀ l, H l = none → Q (.ref l) (upd H l (.lst ys))) := by
 intro pins s σ H xs us Q I r h
 obtain ⟨p, ys, rfl, hq, q⟩ := h
 obtain ⟨u, rfl, rx⟩ := zgS r
 cases rx
 have fin : ∀ (its : List Value), zbA ys its → ys.length ≤ sizeLine → ∀ (h' : Heap) (c' : Nat), (∀ b o', s.heap.get? b = some o' → h'.get? b = some o') →
   h'.get? s.heap.objs.size = some { cls := .type "list", dict := none, data := .seq its.toArray c', slots := #[] } → EP X pins σ Q (.ref s.heap.objs.size) { s with heap := h' } := fun its r' hz h' c' kp e =>
  ⟨.ref s.heap.objs.size, _, I.laid (t' := s.toks) kp (Nat.le_refl _) (show zdI X.prog X.w _ h' _ (.lst ys) from ⟨hz, its, c', r', e⟩), rfl, q _ (I.hok.fresh (Nat.le_refl _))⟩
 rcases hq with hq | hq
 ·obtain ⟨its, r', pl, hz⟩ := I.list hq
  have hlen := r'.length
  obtain ⟨o, ho, hc, n, hd⟩ := pl.isList
  exact call_list_seq p (.inl rfl) ho hc hd (fun h' c' kp e => fin its r' hz h' c' kp e) (by simp only [List.size_toArray] <;> omega)
 ·obtain ⟨its, r', pl, hz⟩ := I.tuple hq
  have hlen := r'.length
  obtain ⟨o, ho, hc, n, hd⟩ := pl
  exact call_list_seq p (.inr rfl) ho hc hd (fun h' c' kp e => fin its r' hz h' c' kp e) (by simp only [List.size_toArray] <;> omega)
theorem zjj : zcF X (.type "tuple") (fun xs H Q => ∃ p ys, xs = [.ref p] ∧ ((SqL X.K H p ys ∧ ∀ l, H l = none → Q (.ref l) (upd H l (.tup ys))) ∨ (SqT X.K H p ys ∧ Q (.ref p) H))) := by
 intro pins s σ H xs us Q I r h
 obtain ⟨p, ys, rfl, h⟩ := h
 obtain ⟨u, rfl, rx⟩ := zgS r
 cases rx
 rcases h with ⟨hq, q⟩ | ⟨hq, q⟩
 ·obtain ⟨its, r', pl, hz⟩ := I.list hq
  have hlen := r'.length
  refine call_tuple_list pl.isList (fun h' kp => ?_) (by simp only [List.size_toArray] <;> omega)
  have I1 : Inv X pins σ H { s with heap := h' } := I.kept (t' := s.toks) kp
  have I2 : Inv X pins σ (upd H h'.objs.size (.tup ys)) { s with heap := h'.push { cls := .type "tuple", data := .seq its.toArray } } :=
   I1.laid (t' := s.toks) (fun b o e => Heap.get?_push_of_some _ e) (Nat.le_refl _) (show zdI X.prog X.w _ _ _ (.tup ys) from ⟨hz, its, r', IsTup.new _ _⟩)
  exact ⟨.ref h'.objs.size, _, I2, rfl, q _ (I1.hok.fresh (Nat.le_refl _))⟩
 ·obtain ⟨its, r', pl, hz⟩ := I.tuple hq
  exact call_tuple_same pl ⟨.ref p, H, I, rfl, q⟩
noncomputable def tyV (K : PySem.W.Frag) (T : String) (x : V) (H : Hp) : Prop := match x with
 | .str _ => T = "str"
 | .int _ => T = "int"
 | .ref p => (T = "list" ∧ ∃ xs, SqL K H p xs) ∨ (T = "tuple" ∧ ∃ o, K.lookup p = some o ∧ o.cls = .type "tuple" ∧ o.dict = none) ∨
   (T = "dict" ∧ ((∃ kvs, H p = some (.dK kvs)) ∨ ∃ kvs, H p = some (.dT kvs))) ∨ (T = "set" ∧ ∃ S n, H p = some (.set S n))
 | _ => False
theorem zvP {pins : List (Addr × Obj)} {σ : St} {H : Hp} {s : Shared} {T : String} {x : V} {v : Value} (I : Inv X pins σ H s) (r : zbC x v) (ty : tyV X.K T x H) :
  s.TypeIs v T ∧ ∀ a, v = .ref a → ∃ ob, s.heap.get? a = some ob ∧ ob.dict = none := by
 cases x with
 | str z =>
  obtain ⟨t, rfl⟩ := r
  cases (show T = "str" from ty)
  exact ⟨typeIs_str s z t, fun _ e => nomatch e⟩
 | int i =>
  obtain ⟨t, rfl⟩ := r
  cases (show T = "int" from ty)
  exact ⟨typeIs_int s i t, fun _ e => nomatch e⟩
 | ref p =>
  cases r
  rcases ty with ⟨rfl, xs, hq⟩ | ⟨rfl, o, hk, hc, hd⟩ | ⟨rfl, hk⟩ | ⟨rfl, S, n, hk⟩
  ·obtain ⟨its, _, pl, _⟩ := I.list hq
   refine ⟨pl.isList.typeIs, fun a e => ?_⟩
   cases e
   obtain ⟨o, n, e, c, hd, _⟩ := pl
   exact ⟨o, e, hd⟩
  ·refine ⟨⟨o, I.kIn p o hk, hc⟩, fun a e => ?_⟩
   cases e
   exact ⟨o, I.kIn _ o hk, hd⟩
  ·have z : ∃ o, s.heap.get? p = some o ∧ o.ExactDict := by
    rcases hk with ⟨kvs, hk⟩ | ⟨kvs, hk⟩
    ·obtain ⟨_, _, _, _, o, _, _, e, ex, _⟩ := I.hok p _ hk
     exact ⟨o, e, ex⟩
    ·obtain ⟨_, _, _, _, o, _, _, e, ex, _⟩ := I.hok p _ hk
     exact ⟨o, e, ex⟩
   obtain ⟨o, e, ex⟩ := z
   refine ⟨⟨o, e, ex.1⟩, fun a e2 => ?_⟩
   cases e2
   exact ⟨o, e, ex.2.1⟩
  ·obtain ⟨o, _, _, _, e, ex, _⟩ := I.hok p _ hk
   refine ⟨⟨o, e, ex.1⟩, fun a e2 => ?_⟩
   cases e2
   exact ⟨o, e, ex.2.1⟩
 | _ => exact False.elim ty
noncomputable def tBM (K : PySem.W.Frag) (T : String) (r : V → List V → Hp → VK → Prop) (to : TE) (t : TA) : TE := fun σ H Q => to σ H fun x H1 => tyV K T x H1 ∧ t σ H1 fun xs H2 => r x xs H2 Q
variable {o e : Expr} {es : List Expr} {to : TE} {t : TA} {name : Str} {apos cpos : Pos} {T id : String} {r : V → List V → Hp → VK → Prop}
theorem zvQ (pa : PlainAttrs T) (slot : Slot T name id) (hty : typeOf (.builtin id) = pure (.type "method_descriptor")) (hm : MtR X id r) (ho : PE X o to) (ha : PA X (e :: es) t)
  (hbase : attributeBase o name X.env (eval o X.env) = eval o X.env := by rfl)
  (hfew : ((backTo cpos (starEach (e :: es) X.env)).all (fun x => !x.1) && (backToKw cpos (keywordEach [] X.env)).all (fun x => x.1.isSome)
   && decide ((e :: es).length + ([] : List Keyword).length + (if ([] : List Keyword).isEmpty then 0 else 1) < 30)) = true := by rfl)
  (hline : (apos.endLine == cpos.line) = true := by rfl) (hs : starEach (e :: es) X.env = (false, eval e X.env) :: starEach es X.env := by rfl) (hplain : (backTo cpos (starEach es X.env)).any (·.1) = false := by rfl) :
  PE X (.Call (.Attribute o name apos) (e :: es) [] cpos) (tBM X.K T r to t) := by
 intro pins s σ H Q I h
 refine wpAny_Call_method_late hbase hfew hline rfl (thn (ho pins s σ H _ I h) fun v s1 ⟨x, H1, I1, r1, ty, q1⟩ => ?_)
 obtain ⟨h1, h2⟩ := zvP I1 r1 ty
 refine ⟨T, id, pa, slot, hty, h1, h2, ?_⟩
 have hA := ha cpos pins s1 σ H1 _ I1 q1
 rw [hs] at hA ⊢
 refine Calls.callWith_builtin (by show (false || (backTo cpos (starEach es X.env)).any (·.1)) = false; rw [hplain] <;> rfl) (Calls.evalArgs_plain ?_)
 exact thn hA fun us s2 ⟨vs, H2, I2, r2, q2⟩ => hm pins s2 σ H2 x vs v us Q I2 r1 r2 q2
end
end L2
namespace L2
open PySem PySem.Spec PyProof.Rows
noncomputable def MtM (X : Cx) (id : String) (r : V → List V → Hp → VK → Prop) : Prop :=
 ∀ (pins : List (Addr × Obj)) (s : Shared) (σ : St) (H : Hp) (x : V) (xs : List V) (v : Value) (us : List Value) (Q : VK), Inv X pins σ H s → zbC x v → zbA xs us → r x xs H Q →
  wpAny (model X.prog X.w) X.A (call (.builtin id) (v :: us)) (EP X pins σ Q) X.xe s
theorem zbA.one : ∀ {x : V} {us : List Value}, zbA [x] us → ∃ u, us = [u] ∧ zbC x u
 | _, _, .cons r .nil => ⟨_, rfl, r⟩
section
variable {X : Cx} {pins : List (Addr × Obj)} {σ : St} {H : Hp} {s : Shared} {l b : Addr} {xs ys zs : List V}
theorem Inv.lset {its its' : List Value} {n : Nat} {f : Array Value → Array Value} {t' : Nat} (I : Inv X pins σ H s) (hH : H l = some (.lst xs))
  (e : s.heap.get? l = some { cls := .type "list", data := .seq its.toArray n }) (hf : f its.toArray = its'.toArray) (hv : zbA ys its') (hz : ys.length ≤ sizeLine) :
  Inv X pins σ (upd H l (.lst ys)) { s with heap := s.heap.update l (Obj.mapSeq f), toks := t' } := by
 have q := PySem.IsL.update e f
 rw [hf] at q
 refine I.write (x := l) (e := l) (by rw [hH]; exact trivial) (.inl rfl) (fun b' u hb hu => (Heap.get?_update_other s.heap (Obj.mapSeq f) (Ne.symm hb)).trans hu) ⟨_, q⟩ ?_
 exact ⟨hz, its', _, hv, q⟩
theorem Inv.lnew {its : List Value} {t' : Nat} (I : Inv X pins σ H s) (hv : zbA ys its) (hz : ys.length ≤ sizeLine) :
  Inv X pins σ (upd H s.heap.objs.size (.lst ys)) { s with heap := s.heap.push { cls := .type "list", data := .seq its.toArray }, toks := t' } :=
 I.laid (fun _ _ q => Heap.get?_push_of_some _ q) (Nat.le_refl _) ⟨hz, its, 0, hv, Heap.get?_push_size _ rfl⟩
theorem Inv.fresh (I : Inv X pins σ H s) : H s.heap.objs.size = none := I.hok.fresh (Nat.le_refl _)
theorem Inv.lstM (I : Inv X pins σ H s) (hH : H l = some (.lst xs)) : xs.length ≤ sizeLine ∧ ∃ (its : List Value) (n : Nat), zbA xs its ∧ xs.length = its.length ∧ s.heap.get? l = some { cls := .type "list", data := .seq its.toArray n } := by
 obtain ⟨z, its, n, r, e⟩ := I.hok l _ hH
 exact ⟨z, its, n, r, r.length, e⟩
theorem zrm {n : Nat} (h : n ≤ sizeLine) : Builtin.List.listTooLong n = false := by
 unfold Builtin.List.listTooLong
 exact decide_eq_false (by omega)
end
section
variable {X : Cx}
noncomputable def ztV : V → List V → Hp → VK → Prop := fun x vs H Q => ∃ l xs y, x = .ref l ∧ vs = [y] ∧ H l = some (.lst xs) ∧ xs.length < sizeLine ∧ Q .non (upd H l (.lst (xs ++ [y])))
theorem zoK : MtM X "list.append" ztV := by
 intro pins s σ H x vs v us Q I rx rv h
 obtain ⟨l, xs, y, rfl, rfl, hH, hz, q⟩ := h
 cases rx
 obtain ⟨u, rfl, ru⟩ := rv.one
 obtain ⟨z, its, n, r, hl, e⟩ := I.lstM hH
 refine call_meets F.slot_list_append ⟨_, e, rfl⟩ F.entry_list_append (F.args_list_append_2 _ _) (PySem.list_append l its.toArray n u (by rw [List.size_toArray]; omega)) ⟨e, ?_⟩
 refine ⟨.non, _, I.lset (its' := its ++ [u]) hH e (by simp) (r.append (.cons ru .nil)) ?_, rfl, q⟩
 rw [List.length_append, List.length_singleton]
 omega
end
section
variable {prog : Program} {w : World} {A : Around} {E : Value → Shared → Prop} {s : Shared}
end
section
variable {X : Cx}
end
end L2
namespace Att
open PySem PySem.W PySem.Calls PyProof.Rows
theorem zhf {P : Params} {h : Heap} : ∀ (ns : List Int) (vs : List Value), WellAll P h vs (ns.map WData.int) → IntsAre vs ns := by
 intro ns
 induction ns with
 | nil =>
  intro vs w
  rw [List.map_nil] at w
  cases w
  exact .nil
 | cons n ns ih =>
  intro vs w
  rw [List.map_cons] at w
  cases w with
  | cons a b =>
   cases a
   exact .cons _ _ (ih _ b)
theorem zoL {l : OpenLaw} {n : Nat} (hn : l.most = some n) {P : Params} {h : Heap} {args : List WData} {vals : List Value}
  (hpre : l.row.toRowW.claim.pre args = true) (hwl : WellAll P h vals args) :
  ∃ a vs ns, vals = [Value.ref a] ∧ args = [WData.list (ns.map WData.int)] ∧ h.get? a = some { cls := .type "list", data := .seq vs.toArray } ∧ IntsAre vs ns ∧ ns.length ≤ n := by
 have hsh : WShape.hasAll [] args [.list .int] = true := (pre_splitW hpre).1
 have hc : l.pre.holds [] { args := args } = true := (pre_splitW hpre).2
 obtain ⟨d, r, rfl, h1, h2⟩ := hasAllW_cons hsh
 obtain rfl := hasAllW_nil h2
 obtain ⟨xs, rfl, h3⟩ := hasW_list h1
 obtain ⟨ns, rfl⟩ := items_int h3
 have hlen : ns.length ≤ n := by
  unfold OpenLaw.pre at hc
  have h4 : (WTm.not (.lt (.lit (.int (n : Int))) (.len (.arg 0)))).holds [] { args := [.list (ns.map .int)] } = true := by
   have h4 := (holds_andW hc).1
   rw [hn] at h4
   exact h4
  have h5 := condW_of h4 (w_not (w_lt w_lit (w_len_list (w_arg rfl))))
  rw [List.length_map] at h5
  refine Nat.le_of_not_lt fun q => ?_
  have q' : (n : Int) < ((ns.length : Nat) : Int) := by omega
  first
   | (rw [decide_eq_true q'] at h5; exact absurd h5 (by decide))
   | (simp at h5; omega)
 cases hwl with
 | cons w1 w2 =>
  cases w2
  cases w1 with
  | list ho hall => exact ⟨_, _, ns, rfl, rfl, ho, zhf ns _ hall, hlen⟩
theorem zoM (l : OpenLaw) (args : List WData) : l.row.toRowW.claim.post args (.bool true) args = true :=
 postW_of (r := l.row.toRowW) (X := (true == true))
  (show WShape.has [] (.bool true) .bool = true by first | rfl | decide | simp [WShape.has, WShape.arms, WShape.armsAll])
  (show (WTm.eq .res (.lit (.bool true))).value [] { args := args, res := some (.bool true), after := args } = some (.bool (true == true)) from w_eq_bool (w_res rfl) w_lit) rfl
theorem attach_call {l : OpenLaw} {n : Nat} {q : Program} {loose : List Str} {XP : (Str → Option Value) → Heap → Prop} {YP : World → Heap → Prop} {d : DefRec}
  (hn : l.most = some n) (hdf : d.params.defaults = [])
  (call : ∀ (w : World) (s₀ s₁ : Shared) (mg mb : Str → Option Value) (fa : Addr) (o : Obj) (pm cd doc : Value) (a : Addr) (vs : List Value) (ns : List Int),
   Ground q loose [] XP w s₀ mg mb s₁.heap → YP w s₁.heap →
   s₁.heap.get? fa = some o → o.data = .func (docDef d.name d.params d.body d.scope pm cd doc) → s₁.heap.CodeRec cd d.name → mg d.name = some (.ref fa) →
   s₁.heap.get? a = some { cls := .type "list", data := .seq vs.toArray } → IntsAre vs ns → ns.length ≤ n → s₁.gens = #[] →
   codeAny (model l.prog w) callerA (.call (.ref fa) ⟨[.ref a], []⟩) (fun r s' => r = .ok (.ret (.bool true)) ∧ OldK s₁.heap s'.heap ∧ s'.os = s₁.os ∧ AllBare s'.gens) s₁) :
  WalkO q loose XP YP l.row.toRowW d [] (fun f vs => PySem.call f vs) := by
 intro w s₀ s₁ mg mb G Y fa o pm cd doc dV kV ho hd hcd hD hmg hg args vals as hpre hlay hrd hwl hlo
 obtain rfl : dV = .none := Dflts.none hD hdf
 obtain rfl : kV = .none := Dflts.noKw hD
 obtain ⟨a, vs, ns, rfl, rfl, hobj, hints, hlen⟩ := zoL hn hpre hwl
 refine enter_call (codeAny_mono (call w s₀ s₁ mg mb fa o pm cd doc a vs ns G Y ho (fd_plain hd) hcd hmg hobj hints hlen hg) fun r s' hq => ?_)
 obtain ⟨rfl, h2, h3, h4⟩ := hq
 exact ⟨.inl ⟨.bool true, .bool true, [], rfl, fun _ => rfl, .bool true, zoM l _, fun _ => ⟨List.Pairwise.nil, fun _ hm => (nomatch hm)⟩⟩, h2, h3, h4⟩
section
variable {prog : Program} {w : World} {A : Around} {E : Value → Shared → Prop} {s : Shared} {K : Frag}
end
end Att
namespace L2
open PySem PySem.Spec PyProof.Rows
theorem zke : ∀ {vs : List Value} {ns : List Int}, IntsAre vs ns → zbA (ns.map V.int) vs
 | _, _, .nil => .nil
 | _, _, .cons n t h => .cons ⟨t, rfl⟩ (zke h)
noncomputable def zxU (H : Hp) : Prop := ∀ b, H b = none ∨ ∃ o xs, H b = some (.frz o (.lst xs))
theorem zrn {P : Program} {w : World} {K : PySem.W.Frag} {mg mb : Str → Option Value} {CX : CXT} {k : Nat} {fa a : Addr} {fd : FuncData} {x : Str} {sp : Sp} {s₁ : Shared} {vs : List Value} {ns : List Int}
  (KX : K.In s₁.heap) (hns : s₁.heap.Ns mainGlobals mg) (hb : s₁.heap.Ns builtinsNs mb) (hbb : ∀ x : Str, x ≠ "__name__" → mb x = bootBuiltins x) (hlim : s₁.heap.NoLimit) (hg : s₁.gens = #[])
  (ha : s₁.heap.get? a = some { cls := .type "list", data := .seq vs.toArray }) (hi : IntsAre vs ns) (hl : ns.length ≤ sizeLine) (hr : zhc k callerA)
  (F : ∀ base : Heap, K.In base → base.Ns mainGlobals mg → ziE P w K mg base CX k fa fd [x] sp) (hbind : ∀ (s : Shared) (u : Value), BindsTo s fd ⟨[u], []⟩ [(x, u)])
  (hsp : ∀ H : Hp, zxU H → SqL K H a (ns.map V.int) → sp [.ref a] H (fun v _ => v = .bl true) fun _ _ _ => False)
  (hCX : ∀ H e s', CX [] H s₁ (fun _ _ _ => False) e s' → False) :
  codeAny (model P w) callerA (.call (.ref fa) ⟨[.ref a], []⟩) (fun r s' => r = .ok (.ret (.bool true)) ∧ OldK s₁.heap s'.heap ∧ s'.os = s₁.os ∧ AllBare s'.gens) s₁ := by
 have rv := zke hi
 have lenV := hi.length
 have core : ∀ H : Hp, zxU H → SqL K H a (ns.map V.int) → HOk P w H s₁.heap → (∀ b, H b ≠ none → b = a) → (H a ≠ none → K.lookup a = none) →
   codeAny (model P w) callerA (.call (.ref fa) ⟨[.ref a], []⟩) (fun r s' => r = .ok (.ret (.bool true)) ∧ OldK s₁.heap s'.heap ∧ s'.os = s₁.os ∧ AllBare s'.gens) s₁ := by
  intro H hO hS hok hA hK
  have base_of : ∀ {b : Addr} {o : Obj}, s₁.heap.get? b = some o → H b = none → (zq9 s₁.heap H).get? b = some o := fun e n => zra e n
  have noA : ∀ {b : Addr} {o : Obj} {es : Array DictEntry} {ep : Nat}, s₁.heap.get? b = some o → o.data = .dict es ep → H b = none := fun {b o es ep} e d => by
   cases q : H b with
   | none => rfl
   | some u =>
    have e' : b = a := hA b (by rw [q]; simp)
    subst e'
    rw [ha] at e; cases e
    have d' : Data.seq vs.toArray _ = Data.dict es ep := d
    cases d'
  have nsK : ∀ {b : Addr} {m : Str → Option Value}, s₁.heap.Ns b m → (zq9 s₁.heap H).Ns b m := fun {b m} ⟨o, es, ep, e, d, r⟩ => ⟨o, es, ep, base_of e (noA e d), d, r⟩
  have hKb : K.In (zq9 s₁.heap H) := fun b o e => base_of (KX b o e) (by
   cases q : H b with
   | none => rfl
   | some u =>
    have e' : b = a := hA b (by rw [q]; simp)
    subst e'
    rw [hK (by rw [q]; simp)] at e; cases e)
  have hM : Mod K mg (zq9 s₁.heap H) := ⟨hKb, nsK hns, ⟨mb, nsK hb, hbb⟩, let ⟨mc, h1, h2⟩ := hlim; ⟨mc, nsK h1, h2⟩⟩
  have e0 : zxl P w K mg (zq9 s₁.heap H) callerA [] s₁ H := ⟨rfl, hM, fun b o e => ztz e, Nat.le_of_eq (zos _ _), trivial, fun b hb => absurd (show b ∈ ([] : List Addr) from hb) (by simp), hok, .of_eq hg⟩
  refine codeAny_mono ((F _ hKb (nsK hns)).run callerA [] s₁ H ⟨[.ref a], []⟩ [.ref a] [.ref a] _ _ hr e0 (hbind s₁ (.ref a)) (.cons rfl .nil) (hsp H hO hS)) fun r s' h => ?_
  cases r with
  | error e => exact (hCX H e s' h).elim
  | ok fl =>
   cases fl with
   | next => exact False.elim h
   | brk => exact False.elim h
   | cont => exact False.elim h
   | ret u =>
    obtain ⟨v, H', os, bare, un, hok', r', q⟩ := h
    have q' : v = .bl true := q
    subst q'
    obtain rfl : u = Value.bool true := r'
    refine ⟨rfl, OldK.of_keep fun b o e => ?_, os, bare⟩
    cases q : H b with
    | none => exact un.keep b o e q (by intro z; exact absurd (show b ∈ ([] : List Addr) from z) (by simp)) (by simp)
    | some u =>
     rcases hO b with z | ⟨ob, xs, z⟩
     ·rw [q] at z; cases z
     ·have z2 := un.frzs b ob _ z
      obtain ⟨e1, _⟩ := hok b _ z
      obtain ⟨e2, _⟩ := hok' b _ z2
      rw [e] at e1; cases e1
      exact e2
 cases hk : K.lookup a with
 | some o =>
  have e := KX a o hk
  rw [ha] at e
  cases e
  refine core (fun _ => none) (fun _ => .inl rfl) (.inr ⟨_, vs.toArray, _, hk, rfl, rfl, rfl, by rw [List.size_toArray, lenV]; exact hl, by simpa using rv⟩) (fun b u z => by have z' : (none : Option HO) = some u := z; cases z') (fun b z => absurd rfl z) fun z => absurd rfl z
 | none =>
  refine core (fun b => if b = a then some (.frz { cls := .type "list", data := .seq vs.toArray } (.lst (ns.map V.int))) else none) (fun b => ?_) (.inl (.inr ⟨{ cls := .type "list", data := .seq vs.toArray }, if_pos rfl⟩)) (fun b u z => ?_) (fun b z => ?_) fun _ => hk
  ·by_cases hb : b = a
   ·exact .inr ⟨_, _, if_pos hb⟩
   ·exact .inl (if_neg hb)
  ·by_cases hb : b = a
   ·have z' := (if_pos hb).symm.trans z
    cases z'
    subst hb
    exact ⟨ha, by rw [List.length_map]; exact hl, vs, _, rv, ha⟩
   ·have z' := (if_neg hb).symm.trans z
    cases z'
  ·by_cases hb : b = a
   ·exact hb
   ·exact absurd (if_neg hb) z
end L2
namespace L2
open PySem PySem.Spec PyProof.Rows
theorem walk_of {l : PySem.W.OpenLaw} {n k : Nat} {q : Program} {loose : List Str} {XP : (Str → Option Value) → Heap → Prop} {YP : World → Heap → Prop} {d : DefRec} {K : Params → PySem.W.Frag} {CX : World → CXT} {sp : World → Sp} {x : Str}
  (hn : l.most = some n) (hn2 : n ≤ sizeLine) (hdf : d.params.defaults = []) (hr : zhc k callerA)
  (hY : ∀ (w : World) (h : Heap), YP w h → (K w.params).In h)
  (F : ∀ (w : World) (mg : Str → Option Value) (fa : Addr) (h : Heap), (K w.params).In h → h.Ns mainGlobals mg → mg d.name = some (.ref fa) →
   ∃ fd : FuncData, (∀ (s : Shared) (u : Value), BindsTo s fd ⟨[u], []⟩ [(x, u)]) ∧
    ∀ base : Heap, (K w.params).In base → base.Ns mainGlobals mg → ziE l.prog w (K w.params) mg base (CX w) k fa fd [x] (sp w))
  (hsp : ∀ (w : World) (H : Hp) (a : Addr) (ns : List Int), ns.length ≤ n → zxU H → SqL (K w.params) H a (ns.map V.int) → sp w [.ref a] H (fun v _ => v = .bl true) fun _ _ _ => False)
  (hCX : ∀ (w : World) (H : Hp) (s : Shared) (e : Value) (s' : Shared), CX w [] H s (fun _ _ _ => False) e s' → False) :
  PySem.W.WalkO q loose XP YP l.row.toRowW d [] (fun f vs => PySem.call f vs) := by
 refine Att.attach_call hn hdf fun w s₀ s₁ mg mb fa o pm cd doc a vs ns G Y ho hd hcd hmg hobj hints hlen hg => ?_
 have KX := hY w _ Y
 obtain ⟨fd, hb, hF⟩ := F w mg fa _ KX G.T.g hmg
 exact zrn KX G.T.g G.T.b G.T.builtins G.T.nolimit hg hobj hints (Nat.le_trans hlen hn2) hr hF hb (fun H hO hS => hsp w H a ns hlen hO hS) fun H e s' => hCX w H s₁ e s'
end L2
namespace L2
open PySem PySem.Spec PyProof.Rows
noncomputable def zam (s : Stmt) : Arguments := match s with
 | .FunctionDef _ a _ _ _ _ _ _ _ _ => a
 | _ => { posonlyargs := [], args := [], vararg := none, kwonlyargs := [], kw_defaults := [], kwarg := none, defaults := [] }
noncomputable def zag (s : Stmt) : List Stmt := match s with
 | .FunctionDef _ _ b _ _ _ _ _ _ _ => b
 | _ => []
noncomputable def zab (s : Stmt) : Scope := match s with
 | .FunctionDef _ _ _ _ _ _ sc _ _ _ => sc
 | _ => { kind := .function, names := [], isGenerator := false, isCoroutine := false }
noncomputable abbrev E0 : XK := fun _ _ _ => False
structure Fun (K : PySem.W.Frag) (x qual : Str) (st : Stmt) (f : Addr) (fd : FuncData) : Prop where
 ex : ∃ (oc : Value) (od : Option Addr) (kV doc pm : Value) (an : Option Addr) (cdv ct : Value) (osl : Array (Option Value)),
  fd = PySem.W.fnOf x qual (zam st) (zag st) (zab st) .none kV doc pm an cdv ct ∧ K.lookup f = some ⟨oc, od, .func fd, osl⟩ ∧ PySem.W.codeIn K cdv qual = true
 kp : PySem.W.keepIn K (.ref f) = true
section
variable {P : Program} {w : World} {K : PySem.W.Frag} {mg : Str → Option Value} {base : Heap}
theorem Fun.binds {x qual : Str} {st : Stmt} {f : Addr} {fd : FuncData} {ps : List Str} (F : Fun K x qual st f fd)
  (h : ∀ (kV doc pm : Value) (an : Option Addr) (cdv ct : Value) (us : List Value), us.length = ps.length → bindArgs (PySem.W.fnOf x qual (zam st) (zag st) (zab st) .none kV doc pm an cdv ct) ⟨us, []⟩ = pure (ps.zip us)) : zaG K fd ps [] := by
 obtain ⟨oc, od, kV, doc, pm, an, cdv, ct, osl, rfl, lk, hcd⟩ := F.ex
 exact .all (h kV doc pm an cdv ct)
theorem zau {x qual : Str} {st : Stmt} {f : Addr} {oc : Value} {od an : Option Addr} {osl : Array (Option Value)} {kV doc pm cdv ct : Value} (l : K.lookup f = some ⟨oc, od, .func (PySem.W.fnOf x qual (zam st) (zag st) (zab st) .none kV doc pm an cdv ct), osl⟩)
  (c : PySem.W.codeIn K cdv qual = true) (k : PySem.W.keepIn K (.ref f) = true) : Fun K x qual st f (PySem.W.fnOf x qual (zam st) (zag st) (zab st) .none kV doc pm an cdv ct) := ⟨⟨oc, od, kV, doc, pm, an, cdv, ct, osl, rfl, l, c⟩, k⟩
end
theorem zoN {n : Nat} (h : n ≤ 1000) : n < sizeLine := Nat.lt_of_le_of_lt h (by decide)
section
variable {X : Cx}
theorem pv (i : Nat) {x : Str} {pos : Pos} (hN : X.N[i]? = some x := by rfl) (hv : Vis X.env.scope x := by first | exact Or.inl rfl | exact Or.inr (Or.inl rfl) | exact Or.inr (Or.inr rfl)) (hd : (x == ("__debug__" : Str)) = false := by decide)
  (hcd : (x == ("__classdict__" : Str)) = false := by decide) : PE X (.Name x pos) (tVar i) := zvj hN hv hd hcd
end
theorem iteF {A B : Prop} (h : B) : if false = true then A else B := by
 rw [if_neg Bool.false_ne_true]
 exact h
theorem iteT {A B : Prop} (h : A) : if true = true then A else B := by
 rw [if_pos rfl]
 exact h
noncomputable def zaD (H H' : Hp) : Prop := ∀ b o, H b = some o → H' b = some o
theorem zaD.refl (H : Hp) : zaD H H := fun _ _ h => h
theorem zaD.trans {H H1 H2 : Hp} (a : zaD H H1) (b : zaD H1 H2) : zaD H H2 := fun c o h => b c o (a c o h)
theorem zaD.free {H H' : Hp} (e : zaD H H') {l : Addr} (h : H' l = Option.none) : H l = Option.none := by
 cases q : H l with
 | none => rfl
 | some o =>
  rw [e l o q] at h
  cases h
theorem zaD.seq {K : PySem.W.Frag} {H H' : Hp} {a : Addr} {xs : List V} (e : zaD H H') (h : SqL K H a xs) : SqL K H' a xs := by
 rcases h with (h | ⟨o, h⟩) | h
 ·exact .inl (.inl (e _ _ h))
 ·exact .inl (.inr ⟨o, e _ _ h⟩)
 ·exact .inr h
end L2
end
section
set_option Elab.async false
set_option linter.all false
set_option maxRecDepth 100000
namespace L2
open PySem PySem.Spec PyProof.Rows
theorem ziG {α β : Type} (g : β → α → β) : ∀ {l : List α} {f : α → β → Sem (ForInStep β)} (c : β), (∀ x ∈ l, ∀ c, f x c = pure (.yield (g c x))) → forIn l c f = pure (l.foldl g c)
 | [], _, _, _ => rfl
 | x :: l, f, c, h => by
  rw [List.forIn_cons, h x List.mem_cons_self c, pure_bind]
  exact ziG g (g c x) fun y hy => h y (List.mem_cons_of_mem _ hy)
noncomputable def zbZ (env : Env) (cs : List (Str × Addr)) (x : Str × NameKind) : List (Str × Addr) :=
 if (x.2 == NameKind.free) = true then (x.1, (env.cells.lookup x.1).getD 0) :: cs else cs
noncomputable def zu6 (env : Env) (names : List (Str × NameKind)) : List (Str × Addr) := names.foldl (zbZ env) []
theorem zoO {env : Env} {scope : Scope} (h : ∀ x ∈ scope.names, x.2 = .free → ∃ c, env.cells.lookup x.1 = some c) : closureFor scope env = pure (zu6 env scope.names) := by
 simp only [closureFor]
 rw [ziG (zbZ env) [] (fun x hx c => by
  obtain ⟨n, k⟩ := x
  by_cases hk : k = .free
  ·obtain ⟨a, e⟩ := h (n, k) hx hk
   have e' : env.cells.lookup n = some a := e
   subst hk
   simp [zbZ, cellOf, e']
  ·have hb : (k == NameKind.free) = false := by simpa using hk
   simp [zbZ, hb])]
 rfl
theorem zjk {env : Env} : ∀ (l : List (Str × NameKind)) (acc : List (Str × Addr)), (∀ x ∈ l, x.2 = .free → ∃ c, env.cells.lookup x.1 = some c) → (∀ y c, acc.lookup y = some c → env.cells.lookup y = some c) →
  ∀ y c, (l.foldl (zbZ env) acc).lookup y = some c → env.cells.lookup y = some c
 | [], acc, _, ha, y, c, e => ha y c e
 | x :: l, acc, h, ha, y, c, e => by
  refine zjk l (zbZ env acc x) (fun z hz => h z (List.mem_cons_of_mem _ hz)) (fun z d q => ?_) y c e
  unfold zbZ at q
  split at q
  ·rename_i hk
   obtain ⟨a, ea⟩ := h x List.mem_cons_self (by simpa using hk)
   rw [List.lookup_cons] at q
   cases hz : z == x.1 with
   | true =>
    rw [hz] at q
    rw [ea] at q
    have : z = x.1 := by simpa using hz
    rw [this, ea]; simpa using q
   | false => rw [hz] at q; exact ha z d q
  ·exact ha z d q
theorem zhg {env : Env} : ∀ (l : List (Str × NameKind)) (acc : List (Str × Addr)) (y : Str), ((∃ c, acc.lookup y = some c) ∨ (y, NameKind.free) ∈ l) → ∃ c, (l.foldl (zbZ env) acc).lookup y = some c
 | [], acc, y, h => by
  rcases h with h | h
  ·exact h
  ·exact absurd h (by simp)
 | x :: l, acc, y, h => by
  refine zhg l (zbZ env acc x) y ?_
  rcases h with ⟨c, h⟩ | h
  ·left
   unfold zbZ
   split
   ·rw [List.lookup_cons]
    cases hz : y == x.1 with
    | true => exact ⟨_, rfl⟩
    | false => exact ⟨c, h⟩
   ·exact ⟨c, h⟩
  ·rcases List.mem_cons.mp h with e | h
   ·left
    subst e
    unfold zbZ
    rw [if_pos (by rfl), List.lookup_cons]
    simp
   ·exact .inr h
theorem zbj {scope : Scope} {env : Env} : ∀ {names : List (Str × NameKind)} {x : Str} {k : NameKind},
  (names.map fun (n, k) => if (k == NameKind.free && env.scope.kind == .function && env.kindOf n == some .cell) then (n, NameKind.cell) else (n, k)).lookup x = some k →
  names.lookup x = some k ∨ (k = .cell ∧ names.lookup x = some .free)
 | [], _, _, h => by simp at h
 | (n, k') :: r, x, k, h => by
  change List.lookup x ((if (k' == NameKind.free && env.scope.kind == .function && env.kindOf n == some .cell) = true then (n, NameKind.cell) else (n, k')) :: _) = some k at h
  by_cases hc : (k' == NameKind.free && env.scope.kind == .function && env.kindOf n == some .cell) = true
  ·rw [if_pos hc, List.lookup_cons] at h
   rw [List.lookup_cons]
   cases hx : x == n with
   | true =>
    rw [hx] at h
    have hk : k' = .free := by
     simp only [Bool.and_eq_true, beq_iff_eq] at hc
     exact hc.1.1
    subst hk
    have h' : NameKind.cell = k := by simpa using h
    exact .inr ⟨h'.symm, rfl⟩
   | false => rw [hx] at h; exact zbj (scope := scope) h
  ·rw [if_neg hc, List.lookup_cons] at h
   rw [List.lookup_cons]
   cases hx : x == n with
   | true => rw [hx] at h; exact .inl h
   | false => rw [hx] at h; exact zbj (scope := scope) h
noncomputable def zxV (k : Nat) (NY N : List Str) (sc : Scope) : Bool :=
 NY.length == k + N.length && ((NY.drop k).zip N).all fun p => (sc.names.lookup p.1).isNone || (p.1 == p.2 && sc.names.lookup p.1 != some .local)
structure LC (X : Cx) (k : Nat) (scope : Scope) (NY : List Str) : Prop where
 cells : ∀ y ∈ scope.names, y.2 ≠ .cell
 kind : scope.kind = .function
 names : ∀ y ∈ scope.names, y.2 = .local → scope.names.lookup y.1 = some .local
 free : ∀ y ∈ scope.names, y.2 = .free → X.env.kindOf y.1 = some .cell ∨ X.env.kindOf y.1 = some .free
 ny : zxV k NY X.N scope = true
 nd : NY.Nodup
noncomputable def lcOk (k : Nat) (N : List Str) (sc0 scope : Scope) (NY : List Str) : Bool :=
 (scope.names.all fun y => y.2 != .cell) && (scope.kind == .function) && (scope.names.all fun y => y.2 != .local || scope.names.lookup y.1 == some .local) &&
 (scope.names.all fun y => y.2 != .free || sc0.names.lookup y.1 == some .cell || sc0.names.lookup y.1 == some .free) && zxV k NY N scope && decide NY.Nodup
theorem LC.of {X : Cx} {k : Nat} {N NY : List Str} {sc0 scope : Scope} (hN : X.N = N) (hs : X.env.scope = sc0) (h : lcOk k N sc0 scope NY = true) : LC X k scope NY := by
 unfold lcOk at h
 simp only [Bool.and_eq_true, List.all_eq_true, Bool.or_eq_true, bne_iff_ne, beq_iff_eq, ne_eq] at h
 obtain ⟨⟨⟨⟨⟨h1, h2⟩, h3⟩, h4⟩, h5⟩, h6⟩ := h
 refine ⟨h1, h2, fun y hy e => ?_, fun y hy e => ?_, by rw [hN]; exact h5, of_decide_eq_true h6⟩
 ·rcases h3 y hy with z | z
  ·exact absurd e z
  ·exact z
 ·show X.env.scope.names.lookup y.1 = _ ∨ X.env.scope.names.lookup y.1 = _
  rw [hs]
  rcases h4 y hy with (z | z) | z
  ·exact absurd e z
  ·exact .inl z
  ·exact .inr z
noncomputable def zec (X : Cx) (scope : Scope) (NY : List Str) (s₀ : Shared) (H₀ : Hp) (C : Addr) (ex : List Addr) : Cx :=
 { X with N := NY, s₀ := s₀, H₀ := H₀, env := compEnvC scope (zu6 X.env scope.names) C X.env, outer := X.stack, ex := ex, fn := fun _ => false, pn := [], xe := fun _ _ => False }
noncomputable def PTs (X : Cx) (cs : List Expr) (t : TT) : Prop :=
 ∀ (pins : List (Addr × Obj)) (s : Shared) (σ : St) (H : Hp) (Q : Bool → Hp → Prop), Inv X pins σ H s → t σ H Q →
  wpAny (model X.prog X.w) X.A (forIn cs true fun c r => if r = true then do let ok ← isTrue c X.env (eval c X.env); pure (ForInStep.yield ok) else pure (ForInStep.yield r)) (TP X pins σ Q) X.xe s
noncomputable def zxW : TT := fun _ H Q => Q true H
theorem ztW {X : Cx} : PTs X [] zxW := fun _ _ _ H _ I h => wpAny_tests_nil ⟨H, I, h⟩
theorem ztX {X : Cx} {c : Expr} {t : TT} (hc : PT X c t) : PTs X [c] t := fun pins s σ H Q I h => wpAny_tests_one (hc pins s σ H Q I h)
noncomputable def ztY (σ σ2 : St) : Prop := σ2.length = σ.length ∧ ∀ (j : Nat) (v : V), σ[j]? = some (some v) → σ2[j]? = some (some v)
noncomputable def tLC (k : Nat) (wi : TI) (g : TG) (tc : TT) (te : TE) : TE := fun σ H Q => wi σ H fun J H1 => ∃ W : Nat → Nat → List V → Hp → Prop, (∃ m, W 0 m [] H1) ∧ ∀ i m ys H, W i m ys H → ys.length < sizeLine ∧
 ((J.stop i H ∧ ∀ D, H D = none → Q (.ref D) (upd H D (.lst ys))) ∨
  (J.go i H ∧ ∃ N : List V → Hp → Prop, (∀ ys' H', N ys' H' → ∃ m', m' < m ∧ W (i + 1) m' ys' H') ∧
    ∀ v H', J.yld i H v H' → g v (List.replicate k none ++ σ) H' fun σ2 H2 => ztY (List.replicate k none ++ σ) σ2 ∧
      tc σ2 H2 fun b H3 => if b = true then te σ2 H3 fun y H4 => N (ys ++ [y]) H4 else N ys H3))
theorem zxX {α : Type} {t : Sem α} {Q Q' : α → Shared → Prop} {M : Model} {A : Around} {E : Value → Shared → Prop} {s : Shared} (h : wpAny M A t Q (fun _ _ => False) s) (hQ : ∀ a s, Q a s → Q' a s) : wpAny M A t Q' E s :=
 wpAny_mono h hQ fun _ _ z => False.elim z
section
variable {prog : Program} {w : World} {A : Around} {R : Result → Shared → Prop} {s : Shared}
theorem zkf {elt tg iter : Expr} {ifs : List Expr} {scope : Scope} {pos : Pos} {it acc : Value} {env : Env} (W : Nat → Shared → Prop)
  (turn : ∀ n s, W n s → ∀ E', wpAny (model prog w) A (pyNext it) (fun r s1 => match r with
   | none => R (.ok .next) s1
   | some v => wpAny (model prog w) A (letOwnedTupleGo tg it v) (fun _ s2 => wpAny (model prog w) A (assign tg env v) (fun _ s3 =>
     wpAny (model prog w) A (forIn ifs true fun c r => if r = true then do let ok ← isTrue c env (eval c env); pure (ForInStep.yield ok) else pure (ForInStep.yield r)) (fun ok s4 =>
      if ok = true then wpAny (model prog w) A (eval elt env) (fun x s5 => wpAny (model prog w) A (call (.builtin "list.append") [acc, x]) (fun _ s6 => ∃ m, m < n ∧ W m s6) E' s5) E' s4
      else ∃ m, m < n ∧ W m s4) E' s3) E' s2) E' s1) E' s)
  (n : Nat) (h : W n s) : codeAny (model prog w) A (.compLoop (.ListComp elt [⟨tg, iter, ifs, 0⟩] scope pos) 0 it acc env) R s := by
 refine codeAny_loop rfl W (fun n s hW => ?_) n h
 show wpAny _ A ((compTurn (.ListComp elt [⟨tg, iter, ifs, 0⟩] scope pos) 0 it acc env).onRaise (fun x => do noteFrame x env; theTreesLotGoes x)) _ _ s
 refine wpAny_noted ?_
 rw [compTurn_list]
 refine wpAny_bind (wpAny_standAt (wpAny_bind (thn (turn n s hW _) fun r s1 h1 => ?_)))
 cases r with
 | none => exact wpAny_pure h1
 | some v =>
  refine wpAny_bind (thn h1 fun _ s2 h2 => wpAny_bind (thn h2 fun _ s3 h3 => wpAny_bind (thn h3 fun ok s4 h4 => ?_)))
  cases ok with
  | false => exact wpAny_pure ⟨rfl, h4⟩
  | true => exact wpAny_bind (wpAny_bind (thn h4 fun x s5 h5 => wpAny_bind (thn h5 fun _ s6 h6 => wpAny_pure (wpAny_pure ⟨rfl, h6⟩))))
end
section
variable {X : Cx} {pins : List (Addr × Obj)} {σ : St} {H2 : Hp} {s2 : Shared} {scope : Scope} {NY : List Str} {k : Nat} {C D : Addr} {fp : List Addr}
theorem zxY (I2 : Inv X pins σ H2 s2) (lc : LC X k scope NY) (hf : ∀ b ∈ fp, zom X pins H2 b) (hfl : ∀ b ∈ fp, b < s2.heap.objs.size) (hC : s2.heap.objs.size ≤ C) : (zec X scope NY s2 H2 C fp).Ok := by
 have hfree : ∀ x ∈ scope.names, x.2 = .free → ∃ c, X.env.cells.lookup x.1 = some c := fun x hx e => I2.ok.has x.1 (lc.free x hx e)
 have sub : ∀ x c, (zu6 X.env scope.names).lookup x = some c → X.env.cells.lookup x = some c := zjk scope.names [] hfree (fun y c e => by simp at e)
 refine ⟨I2.ok.mod, ?_, I2.ok.glob, I2.ok.blt, hC, fun x y c e1 e2 => I2.ok.inj x y c (sub x c e1) (sub y c e2), fun x hx => ?_, fun x c z => absurd z (by show ¬ (false = true); decide), I2.ok.hd, I2.ok.frames, .inl rfl, fun b hb => ⟨Nat.ne_of_lt (Nat.lt_of_lt_of_le (hfl b hb) hC), fun x c e => (hf b hb).2.2.2.2.1 x c (sub x c e)⟩,
  I2.bs, Nat.le_trans I2.ok.bsz I2.sz, fun b o e hb => ?_, fun b hb z => ?_, I2.stack, I2.stkFree⟩
 ·show (relabel scope X.env).kind = .function
  exact lc.kind
 ·have hx : (relabel scope X.env).names.lookup x = some .cell ∨ (relabel scope X.env).names.lookup x = some .free := hx
  have key : scope.names.lookup x = some .free := by
   rcases hx with hx | hx
   ·rcases zbj (scope := scope) hx with z | ⟨_, z⟩
    ·exact absurd rfl (lc.cells _ (PySem.mem_of_lookup z))
    ·exact z
   ·rcases zbj (scope := scope) hx with z | ⟨_, z⟩
    ·exact z
    ·exact z
  exact zhg scope.names [] x (.inr (PySem.mem_of_lookup key))
 ·have q : b ∈ X.ex ∨ X.s₀.heap.objs.size ≤ b := (hf b hb).2.2.2.1
  rcases q with q | q
  ·exact I2.ok.noex b o e q
  ·exact absurd (Nat.lt_of_lt_of_le (Heap.lt_size e) (Nat.le_trans I2.ok.bsz q)) (Nat.lt_irrefl _)
 ·rcases List.mem_cons.mp (I2.stkSub b z) with e | e
  ·exact (hf b hb).2.1 e
  ·exact (hf b hb).2.2.1 e
theorem zro {h1 : Heap} {tk : Nat} {m : Str → Option Value} {oD : Obj} (I2 : Inv X pins σ H2 s2) (lc : LC X k scope NY) (hf : ∀ b ∈ fp, zom X pins H2 b) (hfl : ∀ b ∈ fp, b < s2.heap.objs.size) (hC : s2.heap.objs.size ≤ C) (hD : s2.heap.objs.size ≤ D) (hDC : D ≠ C)
  (old : ∀ b o, s2.heap.get? b = some o → h1.get? b = some o) (hn : h1.Ns C m) (ho : h1.get? D = some oD) (hoD : ∀ v, oD.data ≠ .cell v) :
  Inv (zec X scope NY s2 H2 C fp) [(D, oD)] (List.replicate k none ++ σ) H2 { s2 with heap := h1, toks := tk } := by
 have hfree : ∀ x ∈ scope.names, x.2 = .free → ∃ c, X.env.cells.lookup x.1 = some c := fun x hx e => I2.ok.has x.1 (lc.free x hx e)
 have sub : ∀ x c, (zu6 X.env scope.names).lookup x = some c → X.env.cells.lookup x = some c := zjk scope.names [] hfree (fun y c e => by simp at e)
 have hny := lc.ny
 unfold zxV at hny
 simp only [Bool.and_eq_true, beq_iff_eq, List.all_eq_true, Bool.or_eq_true, bne_iff_ne, ne_eq] at hny
 obtain ⟨hlen, hz⟩ := hny
 refine ⟨zxY I2 lc hf hfl hC, rfl, I2.bare, Un.kept old, ⟨m, hn, fun i x v e1 e2 e3 => ?_⟩, fun x c e => ?_, I2.hok.fresh hC, fun x c e => I2.freeC x c (sub x c e), fun p hp => ?_, I2.hok.kept old, ?_⟩
 ·have e1 : NY[i]? = some x := e1
  have hik : k ≤ i := by
   refine Nat.le_of_not_lt fun z => ?_
   rw [List.getElem?_append_left (by simpa using z), List.getElem?_replicate, if_pos z] at e2
   cases e2
  rw [List.getElem?_append_right (by simpa using hik), List.length_replicate] at e2
  have hi2 : i - k < X.N.length := by
   rw [← I2.len]; exact (List.getElem?_eq_some_iff.mp e2).1
  obtain ⟨y, ey⟩ : ∃ y, X.N[i - k]? = some y := ⟨_, List.getElem?_eq_getElem hi2⟩
  have em : (x, y) ∈ (NY.drop k).zip X.N := by
   refine List.mem_of_getElem? (i := i - k) ?_
   rw [List.getElem?_zip_eq_some]
   refine ⟨?_, ey⟩
   rw [List.getElem?_drop, show k + (i - k) = i by omega]; exact e1
  have e3 : Vis (relabel scope X.env) x := e3
  have kf : scope.names.lookup x = some .free := by
   have kk : ∃ q, scope.names.lookup x = some q := by
    rcases e3 with z | z | z <;> rcases zbj (scope := scope) z with z | ⟨_, z⟩ <;> exact ⟨_, z⟩
   have zz := hz (x, y) em
   have nl : scope.names.lookup x ≠ some .local := by
    rcases zz with zz | zz
    ·obtain ⟨q, hq⟩ := kk
     have zz : (scope.names.lookup x).isNone = true := zz
     rw [hq] at zz; cases zz
    ·exact zz.2
   rcases e3 with z | z | z <;> rcases zbj (scope := scope) z with z | ⟨_, z⟩
   ·exact absurd z nl
   ·exact z
   ·exact absurd rfl (lc.cells _ (PySem.mem_of_lookup z))
   ·exact z
   ·exact z
   ·exact z
  have exy : x = y := by
   rcases hz (x, y) em with zz | zz
   ·have zz : (scope.names.lookup x).isNone = true := zz
    rw [kf] at zz; cases zz
   ·exact zz.1
  subst exy
  obtain ⟨mX, hnX, hlX⟩ := I2.loc
  have hk := lc.free (x, .free) (PySem.mem_of_lookup kf) rfl
  have hk : X.env.kindOf x = some .cell ∨ X.env.kindOf x = some .free := hk
  obtain ⟨u, ru, lu⟩ := hlX (i - k) x v ey e2 (.inr hk)
  refine ⟨u, ru, ?_⟩
  rcases lu with ⟨z, _⟩ | ⟨_, c, hc, hcell⟩
  ·rcases hk with q | q <;> rw [q] at z <;> cases z
  ·obtain ⟨c', hc'⟩ := zhg (env := X.env) scope.names [] x (.inr (PySem.mem_of_lookup kf))
   have : c' = c := by
    have q := sub x c' hc'
    rw [hc] at q; exact (Option.some.inj q).symm
   subst this
   refine .inr ⟨?_, c', hc', hcell.keeps old⟩
   show (relabel scope X.env).names.lookup x = some .cell ∨ (relabel scope X.env).names.lookup x = some .free
   rcases e3 with z | z
   ·rcases zbj (scope := scope) z with z | ⟨z, _⟩
    ·rw [kf] at z; cases z
    ·cases z
   ·exact z
 ·obtain ⟨v, z⟩ := I2.cell x c (sub x c e)
  exact ⟨v, z.keeps old⟩
 ·have e : p = (D, oD) := by simpa [zec] using hp
  subst e
  refine ⟨ho, I2.hok.fresh hD, hDC, fun z => ?_, hoD⟩
  have z : D ∈ frs X.stack := z
  rcases List.mem_cons.mp (I2.stkSub D z) with q | q
  ·exact absurd (Nat.lt_of_lt_of_le I2.lt hD) (by rw [q]; exact Nat.lt_irrefl _)
  ·exact I2.nofs hD q
 ·show (List.replicate k none ++ σ).length = NY.length
  rw [hlen, List.length_append, List.length_replicate, I2.len]
theorem zvR {H4 : Hp} {s4 : Shared} {σ' : St} {ys : List V} {us : List Value} (I2 : Inv X pins σ H2 s2) (hf : ∀ b ∈ fp, zom X pins H2 b) (hC : s2.heap.objs.size ≤ C) (hD : s2.heap.objs.size ≤ D)
  (I4 : Inv (zec X scope NY s2 H2 C fp) [(D, LCg.lst us)] σ' H4 s4) (rv : zbA ys us) (hz : ys.length ≤ sizeLine) : Inv X pins σ (upd H4 D (.lst ys)) s4 := by
 obtain ⟨pD, nD, neD, nfD, dD⟩ := I4.pin (D, LCg.lst us) (by simp)
 have u0 : Un (frs X.stack) fp H2 H4 s2.heap s4.heap := I4.base
 have neb : ∀ b o, s2.heap.get? b = some o → b ≠ D := fun b o e => Nat.ne_of_lt (Nat.lt_of_lt_of_le (Heap.lt_size e) hD)
 have hok : HOk X.prog X.w (upd H4 D (.lst ys)) s4.heap := fun b u e => by
  by_cases hb : b = D
  ·subst hb
   rw [zav] at e; cases e
   exact ⟨hz, us, us.length, rv, pD⟩
  ·rw [zay hb] at e
   exact (I4.hok b u e).stay (fun _ _ _ q => q) (fun c q => by rw [zay (zat q nD)]; exact q) fun c xs q => by rw [zay (zat q nD)]; exact q
 refine I2.call' (ch := fp) I4.os ⟨u0.keep, u0.slot, fun b o e n hx => ?_, u0.there, fun b xs q => ?_, fun b o u q => ?_, fun b ps q => ?_⟩ hok I4.bare fun b hb => ⟨(hf b hb).2.2.2.1, (hf b hb).2.1, (hf b hb).2.2.2.2.1, (hf b hb).2.2.2.2.2⟩
 ·rw [zay (neb b o e)]; exact u0.free b o e n hx
 ·have z := u0.tups b xs q
  rw [zay (zat z nD)]; exact z
 ·have z := u0.frzs b o u q
  rw [zay (zat z nD)]; exact z
 ·obtain ⟨more, z⟩ := u0.tbls b ps q
  exact ⟨more, by rw [zay (zat z nD)]; exact z⟩
end
theorem zsr {X : Cx} {tg elt iter : Expr} {ifs : List Expr} {scope : Scope} {pos : Pos} {NY : List Str} {k : Nat} {g : TG} {tc : TT} {te : TE} (hc : X.calm = true) (lc : LC X k scope NY)
  (hb : ∀ (s₀ : Shared) (H₀ : Hp) (C : Addr) (ex : List Addr), NY.Nodup → PG (zec X scope NY s₀ H₀ C ex) tg g ∧ PTs (zec X scope NY s₀ H₀ C ex) ifs tc ∧ PE (zec X scope NY s₀ H₀ C ex) elt te)
  {pins : List (Addr × Obj)} {σ : St} {H2 : Hp} {s2 : Shared} {it : Addr} {fp : List Addr} {tn : Nat → Heap → Prop} {J : It} {RR : Value → Addr → Result → Shared → Prop} {E : Value → Shared → Prop} {Fin : List V → Hp → Prop}
  (I2 : Inv X pins σ H2 s2) (T : zu5 X.prog X.w X.K tg J fp it tn) (st2 : tn 0 s2.heap) (f2 : ∀ b ∈ fp, zom X pins H2 b) {W : Nat → Nat → List V → Hp → Prop} {m0 : Nat} (w0 : W 0 m0 [] H2)
  (turn : ∀ i m ys H, W i m ys H → ys.length < sizeLine ∧ ((J.stop i H ∧ Fin ys H) ∨ (J.go i H ∧ ∃ N : List V → Hp → Prop, (∀ ys' H', N ys' H' → ∃ m', m' < m ∧ W (i + 1) m' ys' H') ∧
   ∀ v H', J.yld i H v H' → g v (List.replicate k none ++ σ) H' fun σ2 H2 => ztY (List.replicate k none ++ σ) σ2 ∧ tc σ2 H2 fun b H3 => if b = true then te σ2 H3 fun y H4 => N (ys ++ [y]) H4 else N ys H3)))
  (fin : ∀ (C D : Addr) (H4 : Hp) (s4 : Shared) (ys : List V) (m : Str → Option Value), s2.heap.objs.size ≤ C → H4 D = none → H4 C = none → D ≠ C → s4.heap.Ns C m → Inv X pins σ (upd H4 D (.lst ys)) s4 → Fin ys H4 → RR (.ref D) C (.ok .next) s4) :
  wpAny (model X.prog X.w) X.A (newList []) (fun acc s3 => wpAny (model X.prog X.w) X.A (newFunctionEnv scope X.env.globals (zu6 X.env scope.names) [] X.env.qual none .none (some X.env)) (fun cenv s4 =>
   codeAny (model X.prog X.w) X.A (.compStart (.ListComp elt [⟨tg, iter, ifs, 0⟩] scope pos) 0 (.ref it) acc { cenv with scope := relabel scope X.env }) (RR acc cenv.locals) s4) E s3) E s2 := by
 refine wpAny_newObj_type (wpAny_newFunctionEnv lc.cells (by intro y hy; simp at hy) (fun h1 hns1 hsb1 => ?_) lc.kind)
 dsimp only at hns1 hsb1 ⊢
 generalize hG : s2.heap.push { cls := .type "list", dict := none, data := .seq ([] : List Value).toArray } = G at hns1 hsb1 ⊢
 have hC : G.objs.size = s2.heap.objs.size + 1 := by rw [← hG, Heap.size_push]
 have hCle : s2.heap.objs.size ≤ G.objs.size := by omega
 have hDC : s2.heap.objs.size ≠ G.objs.size := by omega
 have hfl : ∀ b ∈ fp, b < s2.heap.objs.size := fun b hb => by obtain ⟨o, e, _⟩ := T.obj 0 _ st2 b hb; exact Heap.lt_size e
 have old : ∀ b o, s2.heap.get? b = some o → h1.get? b = some o := fun b o e => by
  have lt := Heap.lt_size e
  refine hsb1.extBut b o (Nat.ne_of_lt (Nat.lt_of_lt_of_le lt hCle)) (Heap.get?_push_of_some _ ?_)
  rw [← hG]; exact Heap.get?_push_of_some _ e
 have hacc : h1.get? s2.heap.objs.size = some (LCg.lst []) := by
  refine hsb1.extBut _ _ hDC (Heap.get?_push_of_some _ ?_)
  rw [← hG]; exact Heap.get?_push_size _ rfl
 have dl : ∀ (us : List Value) v, (LCg.lst us).data ≠ .cell v := fun us v z => by
  have z' : Data.seq us.toArray us.length = Data.cell v := z
  cases z'
 have I3 := zro (h1 := h1) (tk := s2.toks + ([] : List (Str × Value)).length) I2 lc f2 hfl hCle (Nat.le_refl _) hDC old hns1 hacc (dl [])
 have fpY : ∀ {us : List Value} {H' : Hp}, (∀ b ∈ fp, H' b = none) → ∀ b ∈ fp, zom (zec X scope NY s2 H2 G.objs.size fp) [(s2.heap.objs.size, LCg.lst us)] H' b := fun {us H'} hn b hb => by
  have lt := hfl b hb
  have okY := I3.ok
  refine ⟨hn b hb, (okY.exf b hb).1, okY.exfs b hb, .inl hb, (okY.exf b hb).2, fun p hp => ?_⟩
  have e : p = (s2.heap.objs.size, LCg.lst us) := by simpa [zec] using hp
  subst e
  exact Nat.ne_of_gt lt
 obtain ⟨hg, ht, he⟩ := hb s2 H2 G.objs.size fp lc.nd
 have loop : ∀ s3 : Shared, s3 = { s2 with heap := h1, toks := s2.toks + ([] : List (Str × Value)).length } →
   codeAny (model X.prog X.w) X.A (.compLoop (.ListComp elt [⟨tg, iter, ifs, 0⟩] scope pos) 0 (.ref it) (.ref s2.heap.objs.size) (compEnvC scope (zu6 X.env scope.names) G.objs.size X.env)) (RR (.ref s2.heap.objs.size) G.objs.size) s3 := by
  rintro s3 rfl
  refine zkf (fun n s' => ∃ i H' ys us, Inv (zec X scope NY s2 H2 G.objs.size fp) [(s2.heap.objs.size, LCg.lst us)] (List.replicate k none ++ σ) H' s' ∧ zbA ys us ∧ tn i s'.heap ∧ (∀ b ∈ fp, H' b = none) ∧ W i n ys H') ?_ m0
   ⟨0, H2, [], [], I3, .nil, T.keep _ _ _ st2 fun b _ o e => old b o e, fun b hb => (f2 b hb).1, w0⟩
  rintro n s3 ⟨i, H3, ys, us, I3, rv, st3, fr3, w3⟩ E'
  obtain ⟨hsz, hturn⟩ := turn i n ys H3 w3
  rcases hturn with ⟨stop, qn⟩ | ⟨go, N, hN, step⟩
  ·refine thn (T.done (zec X scope NY s2 H2 G.objs.size fp) rfl rfl rfl hc i _ s3 _ H3 E' I3 (fpY fr3) st3 stop) fun r s4 ⟨hr, I4⟩ => ?_
   subst hr
   obtain ⟨m4, hn4, _⟩ := I4.loc
   exact fin _ _ H3 s4 ys m4 hCle (I4.pin (s2.heap.objs.size, LCg.lst us) (by simp)).2.1 I4.free hDC hn4 (zvR I2 f2 hCle (Nat.le_refl _) I4 rv (Nat.le_of_lt hsz)) qn
  ·refine thn (T.item (zec X scope NY s2 H2 G.objs.size fp) rfl rfl rfl hc i _ s3 _ H3 E' I3 (fpY fr3) st3 go) fun r s4 ⟨u, hr, h4⟩ => ?_
   subst hr
   refine thn h4 fun _ s5 ⟨x, H5, I5, r5, y5, st5, fr5⟩ => ?_
   have I5' := I5.pinned (fpY fr5) (T.obj _ _ st5)
   refine zxX (hg _ s5 _ H5 x u _ I5' r5 (step x H5 y5)) fun _ s6 ⟨σ6, H6, I6, sub6, q6⟩ => ?_
   have keep : ∀ {σ7 : St} {H7 : Hp} {s7 : Shared}, Inv (zec X scope NY s2 H2 G.objs.size fp) ([(s2.heap.objs.size, LCg.lst us)] ++ zj1 fp s5.heap) σ7 H7 s7 → tn (i + 1) s7.heap ∧ (∀ b ∈ fp, H7 b = none) := fun {σ7 H7 s7} I7 => by
    refine ⟨T.keep _ _ _ st5 fun b hb o e => (I7.pin (b, o) (List.mem_append_right _ (List.mem_append_right _ (zeI hb e)))).1, fun b hb => ?_⟩
    obtain ⟨o, e, d⟩ := T.obj _ _ st5 b hb
    exact (I7.pin (b, o) (List.mem_append_right _ (List.mem_append_right _ (zeI hb e)))).2.1
   refine zxX (ht _ s6 σ6 H6 _ I6 q6) fun ok s7 ⟨H7, I7, q7⟩ => ?_
   cases ok with
   | false =>
    rw [if_neg Bool.false_ne_true] at q7 ⊢
    obtain ⟨m', hm, w7⟩ := hN _ _ q7
    obtain ⟨k1, k2⟩ := keep I7
    exact ⟨m', hm, i + 1, H7, ys, us, (I7.weak (by rw [I7.len, I5.len]) sub6.2).unpinned, rv, k1, k2, w7⟩
   | true =>
    rw [if_pos rfl] at q7 ⊢
    refine zxX (he _ s7 σ6 H7 _ I7 q7) fun y s8 ⟨v, H8, I8, r8, q8⟩ => ?_
    obtain ⟨m', hm, w8⟩ := hN _ _ q8
    obtain ⟨k1, k2⟩ := keep I8
    obtain ⟨pD, nD, neD, nfD, dD⟩ := I8.pin (s2.heap.objs.size, LCg.lst us) (by simp)
    have hul : us.toArray.size ≤ sizeLine := by rw [List.size_toArray, ← rv.length]; exact Nat.le_of_lt hsz
    refine append_at pD (fun h9 sb9 hD9 => ?_) hul
    have I8' : Inv (zec X scope NY s2 H2 G.objs.size fp) [] (List.replicate k none ++ σ) H8 s8 := (I8.weak (by rw [I8.len, I5.len]) sub6.2).pins_of fun p hp => absurd hp (by simp)
    have hDfp : s2.heap.objs.size ∉ fp := fun z => Nat.lt_irrefl _ (hfl _ z)
    have I9 : Inv (zec X scope NY s2 H2 G.objs.size fp) [] (List.replicate k none ++ σ) H8 { s8 with heap := h9 } :=
     I8'.turned (t' := s8.toks) (it := s2.heap.objs.size) (fun b o hb e => (sb9.2 b hb).trans e) nD neD (.inr (Nat.le_refl _)) (fun x c e z => by
      obtain ⟨v', o', e1, e2⟩ := I8.cell x c e
      rw [z, pD] at e1
      have e1' : LCg.lst us = o' := Option.some.inj e1
      rw [← e1'] at e2
      exact dl us v' e2) (fun p hp => absurd hp (by simp [zec]))
    refine ⟨m', hm, i + 1, H8, ys ++ [v], us ++ [y], I9.pins_of fun p hp => ?_, rv.append (.cons r8 .nil), T.keep _ _ _ k1 fun b hb o e => (sb9.2 b fun z => hDfp (z ▸ hb)).trans e, k2, w8⟩
    have e : p = (s2.heap.objs.size, LCg.lst (us ++ [y])) := by simpa using hp
    subst e
    exact ⟨hD9.trans (congrArg some (LCg.lst_snoc us y)), nD, neD, nfD, dl _⟩
 exact codeAny_compStart_list (loop _ rfl) (T.self _ 0 _ _ _ (T.keep _ _ _ st2 fun b _ o e => old b o e) (loop _ rfl))
section
variable {X : Cx} {tg elt iter : Expr} {ifs : List Expr} {scope : Scope} {pos : Pos} {NY : List Str} {k : Nat} {wi : TI} {g : TG} {tc : TT} {te : TE}
theorem zxZ (hc : X.calm = true) (lc : LC X k scope NY) (hi : PI X tg iter wi)
  (hb : ∀ (s₀ : Shared) (H₀ : Hp) (C : Addr) (ex : List Addr), NY.Nodup → PG (zec X scope NY s₀ H₀ C ex) tg g ∧ PTs (zec X scope NY s₀ H₀ C ex) ifs tc ∧ PE (zec X scope NY s₀ H₀ C ex) elt te)
  (hs : ∀ x, foldedSetIterable iter X.env x = pure x := by intro _; rfl) : PE X (.ListComp elt [⟨tg, iter, ifs, 0⟩] scope pos) (tLC k wi g tc te) := by
 intro pins s σ H Q I h
 rw [eval_ListComp]
 refine wpAny_comprehension_free (use := none) rfl hs (zoO fun x hx e => I.ok.has x.1 (lc.free x hx e)) lc.kind lc.names (thn (hi pins s σ H _ I h) fun v s1 h1 => thn h1 fun itv s2 h2 => ?_)
 obtain ⟨it, fp, tn, J, H2, e, I2, T, st2, f2, W, ⟨m0, w0⟩, turn⟩ := h2
 subst e
 refine zsr (RR := fun acc C => compPost (model X.prog X.w) X.A X.xe none (EP X pins σ Q) acc C) hc lc hb I2 T st2 f2 w0 turn fun C D H4 s4 ys m hC nD nC hDC hn I4 q => ?_
 refine ⟨m, hn, fun h' sb => ?_⟩
 have hCn : upd H4 D (.lst ys) C = none := by rw [zay (Ne.symm hDC)]; exact nC
 obtain ⟨f0, f1, f2', f3, f4, f5⟩ := I2.fpOk (H' := upd H4 D (.lst ys)) hC hCn
 exact ⟨.ref D, _, I4.turned (t' := s4.toks) (fun b o hb e => (sb.2 b hb).trans e) f0 f1 f3 f4 f5, rfl, q D nD⟩
theorem zx0 {i : Nat} {y : Str} {py spos : Pos} (hc : X.calm = true) (hN : X.N.Nodup) (hi' : X.N[i]? = some y) (hy : X.env.kindOf y = some .local) (lc : LC X k scope NY) (hi : PI X tg iter wi)
  (hb : ∀ (s₀ : Shared) (H₀ : Hp) (C : Addr) (ex : List Addr), NY.Nodup → PG (zec X scope NY s₀ H₀ C ex) tg g ∧ PTs (zec X scope NY s₀ H₀ C ex) ifs tc ∧ PE (zec X scope NY s₀ H₀ C ex) elt te)
  (hsw : swapsWith (.ListComp elt [⟨tg, iter, ifs, 0⟩] scope pos) (some (.Name y py)) spos.line X.env = pure true := by rfl)
  (hs : ∀ x, foldedSetIterable iter X.env x = pure x := by intro _; rfl) : PS X (.Assign [.Name y py] (.ListComp elt [⟨tg, iter, ifs, 0⟩] scope pos) spos) (ztG (tLC k wi g tc te) (zj0 i)) := by
 intro pins s σ H D0 I h
 rw [exec_Assign_Name_used _ _ _ _ hsw]
 refine wpAny_bind (wpAny_standAt (wpAny_bind ?_))
 show wpAny _ X.A (do let _ ← comprehension (.ListComp elt [⟨tg, iter, ifs, 0⟩] scope pos) scope X.env _ (newList []) false (eval iter X.env) (some (assign (.Name y py) X.env))) _ _ s
 refine wpAny_bind (thn (wpAny_comprehension_free (use := some (assign (.Name y py) X.env)) (Q := fun _ s' => SP X pins D0 .next s') rfl hs (zoO fun x hx e => I.ok.has x.1 (lc.free x hx e)) lc.kind lc.names
  (thn (hi pins s σ H _ I h) fun v s1 h1 => thn h1 fun itv s2 h2 => ?_)) fun _ s' q => wpAny_pure (wpAny_pure q))
 obtain ⟨it, fp, tn, J, H2, e, I2, T, st2, f2, W, ⟨m0, w0⟩, turn⟩ := h2
 subst e
 refine zsr (RR := fun acc C => compPost (model X.prog X.w) X.A X.xe (some (assign (.Name y py) X.env)) (fun _ s' => SP X pins D0 .next s') acc C) hc lc hb I2 T st2 f2 w0 turn fun C D H4 s4 ys m hC nD nC hDC hn I4 q => ?_
 have hCn : upd H4 D (.lst ys) C = none := by rw [zay (Ne.symm hDC)]; exact nC
 obtain ⟨f0, f1, f2', f3, f4, f5⟩ := I2.fpOk (H' := upd H4 D (.lst ys)) hC hCn
 obtain ⟨oC, es, ep, eC, dC, rC⟩ := id hn
 have I5 : Inv X (pins ++ [(C, oC)]) σ (upd H4 D (.lst ys)) s4 := I4.pins_of fun p hp => by
  rcases List.mem_append.mp hp with z | z
  ·exact I4.pin p (List.mem_append_right _ z)
  ·have e : p = (C, oC) := by simpa using z
   subst e
   exact ⟨eC, hCn, f1, f2', fun v z => by rw [show (C, oC).2.data = oC.data from rfl, dC] at z; cases z⟩
 show wpAny _ X.A (assign (.Name y py) X.env (.ref D)) _ _ _
 refine wpAny_assign_Name (zjg (v := .ref D) I5 hN hi' (.inl hy) rfl (fun s5 I6 => ?_) (.inr hy))
 refine ⟨m, ⟨oC, es, ep, (I6.pin (C, oC) (by simp)).1, dC, rC⟩, fun h' sb => ?_⟩
 exact ⟨_, _, I6.unpinned.turned (t' := s5.toks) (fun b o hb e => (sb.2 b hb).trans e) f0 f1 f3 f4 f5, q D nD⟩
end
section
variable {K : PySem.W.Frag} {k : Nat} {g : TG} {tc : TT} {te : TE} {σ : St} {H : Hp} {Fin : List V → Hp → Prop}
end
end L2
end
section
set_option Elab.async false
set_option linter.all false
set_option maxRecDepth 100000
namespace L2
open PySem PySem.Spec PyProof.Rows
theorem znN {n k : Nat} (hk : 0 < k) (h : n < 2 ^ k) : n.log2 < k := by
 rcases Nat.eq_zero_or_pos n with h0 | hp
 ·rw [h0]; simpa using hk
 ·exact (Nat.log2_lt (Nat.ne_of_gt hp)).mpr h
section
variable {X : Cx}
theorem zrp : OpR X (compareOp .Is) (fun x y H Q => ∃ a b, x = .bl a ∧ y = .bl b ∧ Q (.bl (a == b)) H) := by
 intro pins s σ H x y v u Q I rx ry h
 obtain ⟨a, b, rfl, rfl, q⟩ := h
 cases rx
 cases ry
 exact is_bool (zj2 I q rfl)
theorem zlu : OpR X (compareOp .IsNot) (fun x y H Q => ∃ a b, x = .bl a ∧ y = .bl b ∧ Q (.bl (a != b)) H) := by
 intro pins s σ H x y v u Q I rx ry h
 obtain ⟨a, b, rfl, rfl, q⟩ := h
 cases rx
 cases ry
 exact isnot_bool (zj2 I q rfl)
theorem zrq (hc : X.calm = true) : zcF X (.builtin "sum") (fun xs H Q => ∃ (p : Addr) (ns : List Int), xs = [.ref p] ∧ SqL X.K H p (ns.map V.int) ∧ Q (.int ns.sum) H) := by
 intro pins s σ H xs us Q I r h
 obtain ⟨p, ns, rfl, hq, q⟩ := h
 obtain ⟨u, rfl, e⟩ := zgS r
 cases e
 obtain ⟨its, rv, pl, hz⟩ := I.list hq
 have hi := znL rv
 obtain ⟨zs, e⟩ := hi.allInts.items
 have hl : s.heap.IsList p (intItems zs) := by rw [← e]; exact pl.isList
 have hn : (zs.toList.map (·.1)) = ns := by
  have a1 := nums_intItems zs
  rw [← e] at a1
  rw [show its.toArray.toList = its from rfl, hi.numsOf] at a1
  exact a1.symm
 refine sum_intListG (I.ok.hd hc) hl fun h' tk t' hk => ⟨.int ns.sum, H, I.kept hk, ⟨t', ?_⟩, q⟩
 rw [preSum_eq, List.take_of_length_le (by simp), hn]
noncomputable def gLst (K : PySem.W.Frag) (n : Nat) (t : TGs) : TG := fun v σ H Q => ∃ a xs, v = .ref a ∧ SqL K H a xs ∧ xs.length = n ∧ t xs σ H Q
theorem zvS {es : List Expr} {k : Nat} {t : TGs} {n : Nat} {pos : Pos} (hc : X.calm = true) (h : PGs X es t)
  (hn : (assignEach es X.env).length = n := by rfl) (hst : (assignEach es X.env).findIdx? (·.1) = none := by rfl) : PG X (.Tuple es k pos) (gLst X.K n t) := by
 intro pins s σ H v u Q I r hw
 obtain ⟨a, xs, e1, hq, hl, hw⟩ := hw
 subst e1
 cases r
 obtain ⟨its, rv, pl, hz⟩ := I.list hq
 have hsz : (assignEach es X.env).length = its.toArray.size := by simp [hn, ← hl, rv.length]
 rw [assign_Tuple]
 refine wpAny_bind (wpAny_standAt ?_)
 unfold unpack
 rw [hsz, hst]
 refine wpAny_bind (wpAny_holding (PySem.W.kun_itemsOf (I.ok.hd hc) pl.isList fun h' hx => ?_))
 have I1 : Inv X pins σ H { s with heap := h' } := I.kept (t' := s.toks) fun b o e => hx b o (Nat.ne_of_lt (Heap.lt_size e)) e
 exact h pins _ σ H xs _ Q I1 (by simpa using rv) hw
end
end L2
end
section
set_option linter.all false
namespace Mth
theorem gcd_step (m n : Nat) : Nat.gcd n (m % n) = Nat.gcd m n := by
 rw [Nat.gcd_comm n (m % n), ← Nat.gcd_rec n m, Nat.gcd_comm]
structure zjl (s x y z x' y' z' : Int) : Prop where
 ne : s ≠ 0
 x : x = s * x'
 y : y = s * y'
 z : z = s * z'
theorem zhh {s x x' : Int} (h : s ≠ 0) (e : x = s * x') : x.fdiv s = x' := by
 rw [e]; exact Int.mul_fdiv_cancel_left x' h
theorem zfs {s x x' : Int} (h : s ≠ 0) (e : x = s * x') : x'.natAbs ≤ x.natAbs := by
 rw [e, Int.natAbs_mul]
 exact Nat.le_mul_of_pos_left _ (by omega)
theorem znO (x y z : Int) (h : ¬ (x = 0 ∧ y = 0 ∧ z = 0)) : ∃ x' y' z', zjl ((Nat.gcd (Nat.gcd x.natAbs y.natAbs) z.natAbs : Nat) : Int) x y z x' y' z' := by
 have d1 : (Nat.gcd (Nat.gcd x.natAbs y.natAbs) z.natAbs) ∣ x.natAbs := Nat.dvd_trans (Nat.gcd_dvd_left _ _) (Nat.gcd_dvd_left _ _)
 have d2 : (Nat.gcd (Nat.gcd x.natAbs y.natAbs) z.natAbs) ∣ y.natAbs := Nat.dvd_trans (Nat.gcd_dvd_left _ _) (Nat.gcd_dvd_right _ _)
 have d3 : (Nat.gcd (Nat.gcd x.natAbs y.natAbs) z.natAbs) ∣ z.natAbs := Nat.gcd_dvd_right _ _
 have n0 : Nat.gcd (Nat.gcd x.natAbs y.natAbs) z.natAbs ≠ 0 := by
  intro e
  rw [e] at d1 d2 d3
  exact h ⟨by have := Nat.eq_zero_of_zero_dvd d1; omega, by have := Nat.eq_zero_of_zero_dvd d2; omega, by have := Nat.eq_zero_of_zero_dvd d3; omega⟩
 have c1 : ((Nat.gcd (Nat.gcd x.natAbs y.natAbs) z.natAbs : Nat) : Int) ∣ x := Int.natAbs_dvd_natAbs.mp (by rw [Int.natAbs_natCast]; exact d1)
 have c2 : ((Nat.gcd (Nat.gcd x.natAbs y.natAbs) z.natAbs : Nat) : Int) ∣ y := Int.natAbs_dvd_natAbs.mp (by rw [Int.natAbs_natCast]; exact d2)
 have c3 : ((Nat.gcd (Nat.gcd x.natAbs y.natAbs) z.natAbs : Nat) : Int) ∣ z := Int.natAbs_dvd_natAbs.mp (by rw [Int.natAbs_natCast]; exact d3)
 obtain ⟨x', e1⟩ := c1
 obtain ⟨y', e2⟩ := c2
 obtain ⟨z', e3⟩ := c3
 exact ⟨x', y', z', by omega, e1, e2, e3⟩
theorem zjl.neg {s x y z x' y' z' : Int} (p : zjl s x y z x' y' z') : zjl (0 - s) x y z (-x') (-y') (-z') := by
 refine ⟨by have := p.ne; omega, ?_, ?_, ?_⟩
 ·rw [p.x, Int.zero_sub, Int.neg_mul_neg]
 ·rw [p.y, Int.zero_sub, Int.neg_mul_neg]
 ·rw [p.z, Int.zero_sub, Int.neg_mul_neg]
theorem zhi {a b B : Nat} (ha : a ≤ B) (hb : b ≤ B) : Nat.gcd a b ≤ B := by
 rcases Nat.eq_zero_or_pos a with h | h
 ·rw [h, Nat.gcd_zero_left]; exact hb
 ·exact Nat.le_trans (Nat.gcd_le_left b h) ha
end Mth
end
section
set_option Elab.async false
set_option linter.all false
set_option maxRecDepth 100000
namespace L2
open PySem PySem.Spec PyProof.Rows
theorem zrr {H : Hp} {p : Addr} (h : H p = none) (o : HO) : zaD H (upd H p o) := fun b u q => by rw [zay (zat q h)]; exact q
theorem zaD.tup {K : PySem.W.Frag} {H H' : Hp} {a : Addr} {xs : List V} (e : zaD H H') (h : SqT K H a xs) : SqT K H' a xs := by
 rcases h with (h | ⟨o, h⟩) | h
 ·exact .inl (.inl (e _ _ h))
 ·exact .inl (.inr ⟨o, e _ _ h⟩)
 ·exact .inr h
theorem zx1 {n : Nat} (h : n ≤ 1000) : n ≤ sizeLine := Nat.le_of_lt (zoN h)
section
variable {X : Cx}
end
section
variable {K : PySem.W.Frag} {a : Addr} {xs : List V} {H : Hp}
theorem lgo (h : SqL K H a xs) : (Itl K a).stop xs.length H ∧ ∀ i, i < xs.length → (Itl K a).go i H ∧ ∀ v H', (Itl K a).yld i H v H' → H' = H ∧ xs[i]? = some v :=
 ⟨⟨xs, h, Nat.le_refl _⟩, fun i hi => ⟨⟨xs, xs[i], h, by simp [hi]⟩, fun v H' y => ⟨y.1, y.2 xs h⟩⟩⟩
theorem tgo (h : SqT K H a xs) : (Itt K a).stop xs.length H ∧ ∀ i, i < xs.length → (Itt K a).go i H ∧ ∀ v H', (Itt K a).yld i H v H' → H' = H ∧ xs[i]? = some v :=
 ⟨⟨xs, h, Nat.le_refl _⟩, fun i hi => ⟨⟨xs, xs[i], h, by simp [hi]⟩, fun v H' y => ⟨y.1, y.2 xs h⟩⟩⟩
end
end L2
end
section
set_option Elab.async false
set_option linter.all false
set_option maxRecDepth 100000
namespace L2
open PySem PySem.Spec PyProof.Rows
structure Fly (B : Heap) (l : List Env) (x : Addr) (cls : Value) (dct : Option Addr) (fl : Value) (h : Heap) : Prop where
 stays : B.StaysIn h
 new : B.get? x = none
 frames : h.FunFrames B l
 obj : ∃ ox vs T oT ts, h.get? x = some ox ∧ ox.cls = cls ∧ ox.dict = dct ∧ ox.data = .fields vs ∧ vs[1]? = some (.ref T) ∧ B.get? T = none ∧ T ≠ x ∧ h.get? T = some oT ∧ oT.data = .fields ts ∧ ts[3]? = some fl
theorem zoP (o : Obj) (f : Array Value → Array Value) : (o.mapFields f).dict = o.dict := by
 obtain ⟨c, d, dt, sl⟩ := o; cases dt <;> rfl
section
variable {M : Model} {A : Around} {E : Value → Shared → Prop} {s : Shared} {B : Heap} {env : Env} {outer : List Env} {L x : Addr} {Q : Unit → Shared → Prop}
theorem zcX {h : Heap} {y : Addr} {oy : Obj} {ws : Array Value} (ey : h.get? y = some oy) (dy : oy.data = .fields ws) {b : Addr} {o : Obj} (eb : h.get? b = some o) (nf : ∀ us, o.data ≠ .fields us) : b ≠ y := fun z => by
 rw [z, ey] at eb
 have z' : oy = o := Option.some.inj eb
 rw [← z'] at nf
 exact nf ws dy
theorem zkg {ox : Obj} {vs : Array Value} {head : Value} {hadNext : Bool} (hfr : A.frames = some (env :: outer)) (hl : s.heap.FunFrames B (env :: outer)) (hf : env.frame = some L)
  (ex : s.heap.get? x = some ox) (hB : B.StaysIn s.heap) (nx : B.get? x = none) (dx : ox.data = .fields vs) (sz : 1 < vs.size)
  (k : ∀ h', Fly B (env :: outer) x ox.cls ox.dict (rawInt L) h' → s.heap.UpToSlots h' → Q () { s with heap := h' }) :
  wpAny M A (do let a ← frameOf env; let pl ← entryPlaceOf L hadNext; let b ← EntryCells.newEntry head a .none (rawInt L) .none pl; setField (.ref x) 1 b) Q E s := by
 have nfr : x ∉ (env :: outer).filterMap (·.frame) := fun hm => by
  obtain ⟨_, o, ho, nf⟩ := hl.mem hm
  exact zcX ex dx ho nf rfl
 refine wpAny_bind (wpAny_frameOf_fun hfr hl hf fun g1 so => wpAny_bind (wpAny_entryPlaceOf fun pl hpl => ?_))
 unfold EntryCells.newEntry newFields
 refine wpAny_bind (wpAny_newObj_type ?_ (hpl.sizeOk5 _ _ _ _ _))
 have ex1 : g1.get? x = some ox := (so.2.1 x nfr).trans ex
 have B1 : B.StaysIn g1 := fun b o eb => (so.2.1 b fun hm => by rw [(hl.mem hm).1] at eb; cases eb).trans (hB b o eb)
 generalize eo : ({ cls := .type "traceback", dict := none, data := .fields ([head, .ref L, .none, rawInt L, .none] ++ (if pl.isEmpty then List.replicate 6 Value.none else pl)).toArray } : Obj) = ob
 have ex2 := Heap.get?_push_of_some (h := g1) ob ex1
 refine wpAny_setField ex2 dx sz (k _ ?_ ?_)
 ·have Tx : g1.objs.size ≠ x := Nat.ne_of_gt (Heap.lt_size ex1)
  have d3 := Obj.data_mapFields dx (·.setIfInBounds 1 (Value.ref g1.objs.size))
  have e3 := Heap.get?_update_self (Obj.mapFields (·.setIfInBounds 1 (Value.ref g1.objs.size))) ex2 (Obj.isFreed_of_fields d3)
  have freeOb : ob.isFreed = false := by rw [← eo]; rfl
  have T3 := (Heap.get?_update_other (g1.push ob) (Obj.mapFields (·.setIfInBounds 1 (Value.ref g1.objs.size))) (Ne.symm Tx)).trans (Heap.get?_push_size g1 freeOb)
  refine ⟨fun b o eb => ?_, nx, hl.of_keeps fun b o eb nf => ?_, _, _, g1.objs.size, ob, _, e3, Obj.cls_mapFields _ _, zoP _ _, d3, by simp [sz], B1.fresh, Tx, T3, by rw [← eo], ?_⟩
  ·rw [Heap.get?_update_other _ _ (fun z => by rw [← z, nx] at eb; cases eb)]
   exact Heap.get?_push_of_some _ (B1 b o eb)
  ·obtain ⟨sl, q⟩ := so.2.2 b o eb
   refine ⟨{ o with slots := sl }, ?_, rfl⟩
   rw [Heap.get?_update_other _ _ (Ne.symm (zcX ex dx eb nf))]
   exact Heap.get?_push_of_some _ q
  ·rcases hpl with rfl | ⟨_, _, _, _, _, _, _, rfl⟩ <;> simp
 ·intro b o eb nf
  obtain ⟨sl, q⟩ := so.2.2 b o eb
  refine ⟨sl, ?_⟩
  rw [Heap.get?_update_other _ _ (Ne.symm (zcX ex dx eb nf))]
  exact Heap.get?_push_of_some _ q
theorem zoQ {ox : Obj} {vs : Array Value} (hfr : A.frames = some (env :: outer)) (hl : s.heap.FunFrames B (env :: outer)) (hf : env.frame = some L)
  (ex : s.heap.get? x = some ox) (hB : B.StaysIn s.heap) (nx : B.get? x = none) (dx : ox.data = .fields vs) (v1 : vs[1]? = some .none)
  (k : ∀ h', Fly B (env :: outer) x ox.cls ox.dict (rawInt L) h' → s.heap.UpToSlots h' → Q () { s with heap := h' }) : wpAny M A (noteFrame (.ref x) env) Q E s := by
 unfold noteFrame
 simp only [hf]
 refine wpAny_bind (wpAny_field ex dx v1 ?_)
 rw [if_neg (show ¬ ((Value.none != Value.none) = true) by decide)]
 exact zkg hfr hl hf ex hB nx dx (Array.getElem?_eq_some_iff.mp v1).1 k
theorem zrs {cls : Value} {dct : Option Addr} (hfr : A.frames = some (env :: outer)) (hf : env.frame = some L) (F : Fly B (env :: outer) x cls dct .none s.heap)
  (k : ∀ h', Fly B (env :: outer) x cls dct (rawInt L) h' → s.heap.UpToSlots h' → Q () { s with heap := h' }) : wpAny M A (noteFrame (.ref x) env) Q E s := by
 obtain ⟨ox, vs, T, oT, ts, ex, hc, hd, dx, v1, nT, Tx, eT, dT, t3⟩ := F.obj
 subst hc hd
 unfold noteFrame
 simp only [hf]
 refine wpAny_bind (wpAny_field ex dx v1 ?_)
 rw [if_pos (show (Value.ref T != Value.none) = true by simp)]
 refine wpAny_bind (wpAny_field eT dT t3 ?_)
 rw [if_neg (show ¬ ((Value.none == rawInt L) = true) by simp [rawInt])]
 refine wpAny_bind (wpAny_setField eT dT (Array.getElem?_eq_some_iff.mp t3).1 ?_)
 have oth : ∀ b, b ≠ T → (s.heap.update T (Obj.mapFields (·.setIfInBounds 3 Value.none))).get? b = s.heap.get? b := fun b hb => Heap.get?_update_other _ _ (Ne.symm hb)
 have up : s.heap.UpToSlots (s.heap.update T (Obj.mapFields (·.setIfInBounds 3 Value.none))) := fun b o eb nf => ⟨o.slots, (oth b (zcX eT dT eb nf)).trans eb⟩
 refine zkg hfr (F.frames.of_keeps fun b o eb nf => ⟨o, (oth b (zcX eT dT eb nf)).trans eb, rfl⟩) hf ((oth x (Ne.symm Tx)).trans ex) (fun b o eb => (oth b fun z => by rw [z, nT] at eb; cases eb).trans (F.stays b o eb)) F.new dx
  (Array.getElem?_eq_some_iff.mp v1).1 fun h' f u => k h' f (up.trans u)
theorem zme {l : List Env} {cls fl : Value} {dct : Option Addr} (F : Fly B l x cls dct fl s.heap)
  (k : ∀ h', Fly B l x cls dct .none h' → s.heap.UpToSlots h' → Q () { s with heap := h' }) : wpAny M A (setFlight (.ref x) none) Q E s := by
 obtain ⟨ox, vs, T, oT, ts, ex, hc, hd, dx, v1, nT, Tx, eT, dT, t3⟩ := F.obj
 have sz : 3 < ts.size := (Array.getElem?_eq_some_iff.mp t3).1
 unfold setFlight
 refine wpAny_bind (wpAny_field ex dx v1 ?_)
 rw [if_pos (show (Value.ref T != Value.none) = true by simp)]
 have oth : ∀ b, b ≠ T → (s.heap.update T (Obj.mapFields (·.setIfInBounds 3 ((none : Option Addr).elim Value.none fun f => rawInt f)))).get? b = s.heap.get? b := fun b hb => Heap.get?_update_other _ _ (Ne.symm hb)
 refine wpAny_setField eT dT sz (k _ ⟨fun b o eb => (oth b fun z => by rw [z, nT] at eb; cases eb).trans (F.stays b o eb), F.new, F.frames.of_keeps fun b o eb nf => ⟨o, (oth b (zcX eT dT eb nf)).trans eb, rfl⟩,
  ox, vs, T, _, _, (oth x (Ne.symm Tx)).trans ex, hc, hd, dx, v1, nT, Tx, Heap.get?_update_self _ eT (Obj.isFreed_of_fields (Obj.data_mapFields dT _)), Obj.data_mapFields dT _, by simp [sz]⟩
  fun b o eb nf => ⟨o.slots, (oth b (zcX eT dT eb nf)).trans eb⟩)
theorem Fly.out {cls : Value} {dct : Option Addr} {fl : Value} {h : Heap} (F : Fly B (env :: outer) x cls dct fl h) : Fly B outer x cls dct fl h := ⟨F.stays, F.new, F.frames.2.2, F.obj⟩
end
end L2
end
section
set_option Elab.async false
set_option linter.all false
set_option maxRecDepth 100000
namespace L2
open PySem PySem.Spec PyProof.Rows
theorem zdI.there {P : Program} {w : World} {H : Hp} {h : Heap} {a : Addr} {o : HO} (x : zdI P w H h a o) : ∃ ob, h.get? a = some ob := by
 cases o with
 | lst xs => obtain ⟨_, _, _, _, e⟩ := x; exact ⟨_, e⟩
 | tup xs => obtain ⟨_, _, _, ob, e, _⟩ := x; exact ⟨ob, e⟩
 | dK kvs => obtain ⟨_, _, _, _, o, _, _, e, _⟩ := x; exact ⟨o, e⟩
 | dT kvs => obtain ⟨_, _, _, _, o, _, _, e, _⟩ := x; exact ⟨o, e⟩
 | set S n => obtain ⟨o, _, _, _, e, _⟩ := x; exact ⟨o, e⟩
 | ins C dx fs => obtain ⟨_, _, _, e, _⟩ := x; exact ⟨_, e⟩
 | own y => exact x
 | xd fs => obtain ⟨_, ⟨o, _, _, e, _⟩, _⟩ := x; exact ⟨o, e⟩
 | rng lo hi => obtain ⟨_, _, _, e⟩ := x; exact ⟨_, e⟩
 | frz ob u => obtain ⟨e, _⟩ := x; exact ⟨_, e⟩
 | tbl ps => exact ⟨_, (show h.get? a = some _ from x)⟩
 | met f y => exact ⟨_, (show h.get? a = some _ from x)⟩
 | ext φ => exact x.2.1
structure InB (B : Heap) (fs : List Addr) (h0 : Heap) (H' : Hp) (h' : Heap) : Prop where
 old : ∀ b o, h0.get? b = some o → b ∉ fs → ∀ o', h'.get? b = some o' → B.get? b = some o'
 trk : ∀ b u, H' b = some u → ∀ o', h'.get? b = some o' → B.get? b = some o'
noncomputable def CXe (P : Program) (w : World) : CXT := fun outer H s E e s' => ∃ (x C : Addr) (dct : Option Addr) (H' : Hp) (B : Heap), e = .ref x ∧ s'.os = s.os ∧ AllBare s'.gens ∧ Un (frs outer) [] H H' s.heap s'.heap ∧ HOk P w H' s'.heap ∧
 Fly B outer x (.ref C) dct .none s'.heap ∧ InB B (frs outer) s.heap H' s'.heap ∧ H' x = none ∧ E (.ref C) dct H'
section
variable {X : Cx} {pins : List (Addr × Obj)} {σ : St} {H H' : Hp} {s s' : Shared} {x C : Addr} {B : Heap} {E : XK} {dct : Option Addr} {M : Model} {EE : Value → Shared → Prop}
theorem zmf {env : Env} {outer : List Env} {L : Addr} (hf : env.frame = some L) : frs (env :: outer) = L :: frs outer := by
 unfold frs; rw [List.filterMap_cons, hf]
theorem znP {h' : Heap} {args : List Value} {tk : Nat} (I : Inv X pins σ H s) (hst : X.stack = X.env :: X.outer) (hf : X.env.frame = some X.env.locals) (hex : X.ex = []) (m : Heap.MadeExcOf s.heap h' x (.ref C) args) (hE : E (.ref C) none H) :
  wpAny M X.A (leaving X.env (.ref x)) (fun _ s2 => CXe X.prog X.w X.outer X.H₀ X.s₀ E (.ref x) s2) EE { s with heap := h', toks := tk } := by
 have stk := I.stack
 have hfr : X.A.frames = some (X.env :: X.outer) := by rw [← hst]; exact I.ok.frames
 rw [hst] at stk
 have fc : frs (X.env :: X.outer) = X.env.locals :: X.fs := zmf hf
 have hin : ∀ env ∈ (X.env :: X.outer), ∀ b, env.frame = some b → b ∈ frs (X.env :: X.outer) := fun env he b hb => List.mem_filterMap.mpr ⟨env, he, hb⟩
 generalize eB : PySem.W.hideAll s.heap (frs (X.env :: X.outer)) = B
 have inB : ∀ b o, s.heap.get? b = some o → b ∉ frs (X.env :: X.outer) → B.get? b = some o := fun b o e n => by rw [← eB]; exact PySem.W.hideAll_get _ e n
 have ofB : ∀ b o, B.get? b = some o → s.heap.get? b = some o := fun b o e => by rw [← eB] at e; exact PySem.W.of_hideAll _ e
 have fl0 : s.heap.FunFrames B (X.env :: X.outer) := by rw [← eB]; exact PySem.W.funFrames_hide stk hin
 have nx : B.get? x = none := by
  cases q : B.get? x with
  | none => rfl
  | some o => have := ofB x o q; rw [m.new] at this; cases this
 obtain ⟨t, et, _, _⟩ := m.there
 have tfree : ∀ b u, H b = some u → b ∉ frs (X.env :: X.outer) := fun b u e hb => by
  have := I.stkFree b (by rw [hst]; exact hb)
  rw [e] at this; cases this
 have hHx : H x = none := by
  cases q : H x with
  | none => rfl
  | some u =>
   obtain ⟨ob, e⟩ := (I.hok x u q).there
   rw [m.new] at e; cases e
 unfold leaving
 refine wpAny_bind (zoQ (s := { s with heap := h', toks := tk }) hfr (fl0.of_keeps fun b o e _ => ⟨o, m.keeps b o e, rfl⟩) hf et (fun b o e => m.keeps b o (ofB b o e)) nx rfl rfl fun h1 F1 u1 => zme F1 fun h2 F2 u2 => ?_)
 have up : s.heap.UpToSlots h2 := (Heap.UpToSlots.of_keeps m.keeps).trans (u1.trans u2)
 have keep2 : ∀ b o, s.heap.get? b = some o → b ∉ frs (X.env :: X.outer) → h2.get? b = some o := fun b o e n => F2.stays b o (inB b o e n)
 have below : ∀ b o, X.s₀.heap.get? b = some o → b ∉ X.fs → b ∉ frs (X.env :: X.outer) := fun b o e nb hb => by
  rw [fc] at hb
  rcases List.mem_cons.mp hb with z | z
  ·exact absurd (Nat.lt_of_lt_of_le (Heap.lt_size e) I.ok.above) (by rw [z]; exact Nat.lt_irrefl _)
  ·exact nb z
 have noex : ∀ b, b ∉ X.ex := fun b z => by rw [hex] at z; cases z
 have slot2 : ∀ b o, s.heap.get? b = some o → b ∈ X.fs → ∃ sl, h2.get? b = some { o with slots := sl } := fun b o e hb => by
  obtain ⟨_, o1, e1, nf⟩ := stk.mem (b := b) (by show b ∈ frs (X.env :: X.outer); rw [fc]; exact List.mem_cons_of_mem _ hb)
  rw [e] at e1; cases e1
  exact up b o e nf
 refine ⟨x, C, none, H, B, rfl, I.os, I.bare, ⟨fun b o e n hb _ => keep2 b o (I.base.keep b o e n hb (noex b)) (below b o e hb), fun b o e n hb _ => ?_, fun b o e n _ => I.base.free b o e n (noex b), fun b o e _ => ?_, I.base.tups, I.base.frzs, I.base.tbls⟩,
  fun b u e => (I.hok b u e).stay (fun c v hc q => keep2 c v q ?_) (fun _ q => q) fun _ _ q => q, F2.out, ⟨fun b o e nb o' e' => ?_, fun b u e o' e' => ?_⟩, hHx, hE⟩
 ·obtain ⟨sl, e1⟩ := I.base.slot b o e n hb (noex b)
  obtain ⟨sl2, e2⟩ := slot2 b _ e1 hb
  exact ⟨sl2, e2⟩
 ·obtain ⟨o1, e1⟩ := I.base.there b o e (noex b)
  by_cases hb : b ∈ X.fs
  ·obtain ⟨sl2, e2⟩ := slot2 b _ e1 hb
   exact ⟨_, e2⟩
  ·exact ⟨o1, keep2 b o1 e1 (below b o e hb)⟩
 ·rcases hc with z | z
  ·rw [z]; exact tfree b u e
  ·exact tfree c _ z
 ·obtain ⟨o1, e1⟩ := I.base.there b o e (noex b)
  have q := inB b o1 e1 (below b o e nb)
  rw [F2.stays b o1 q] at e'
  cases e'; exact q
 ·obtain ⟨o1, e1⟩ := (I.hok b u e).there
  have q := inB b o1 e1 (tfree b u e)
  rw [F2.stays b o1 q] at e'
  cases e'; exact q
theorem zrt {e : Value} (I : Inv X pins σ H s) (hst : X.stack = X.env :: X.outer) (hf : X.env.frame = some X.env.locals) (hex : X.ex = []) (h : CXe X.prog X.w X.stack H s E e s') :
  wpAny M X.A (leaving X.env e) (fun _ s2 => CXe X.prog X.w X.outer X.H₀ X.s₀ E e s2) EE s' := by
 obtain ⟨x, C, dct, H', B, rfl, ho, hg, un, hok, F, ib, nx, hE⟩ := h
 have stk := I.stack
 have hfr : X.A.frames = some (X.env :: X.outer) := by rw [← hst]; exact I.ok.frames
 rw [hst] at stk F ib un
 have fc : frs (X.env :: X.outer) = X.env.locals :: X.fs := zmf hf
 unfold leaving
 refine wpAny_bind (zrs hfr hf F fun h1 F1 u1 => zme F1 fun h2 F2 u2 => ?_)
 have up : s'.heap.UpToSlots h2 := u1.trans u2
 have below : ∀ b o, X.s₀.heap.get? b = some o → b ∉ X.fs → b ∉ frs (X.env :: X.outer) := fun b o e nb hb => by
  rw [fc] at hb
  rcases List.mem_cons.mp hb with z | z
  ·exact absurd (Nat.lt_of_lt_of_le (Heap.lt_size e) I.ok.above) (by rw [z]; exact Nat.lt_irrefl _)
  ·exact nb z
 have inFs : ∀ b, b ∈ X.fs → b ∈ frs (X.env :: X.outer) := fun b hb => by rw [fc]; exact List.mem_cons_of_mem _ hb
 have noex : ∀ b, b ∉ X.ex := fun b z => by rw [hex] at z; cases z
 have no0 : ∀ b : Addr, b ∉ ([] : List Addr) := fun b => by simp
 have slot2 : ∀ b o, s.heap.get? b = some o → H b = none → b ∈ X.fs → ∃ sl, h2.get? b = some { o with slots := sl } := fun b o e n hb => by
  obtain ⟨_, o1, e1, nf⟩ := stk.mem (b := b) (inFs b hb)
  rw [e] at e1; cases e1
  obtain ⟨sl, e2⟩ := un.slot b o e n (inFs b hb) (no0 b)
  obtain ⟨sl2, e3⟩ := up b _ e2 nf
  exact ⟨sl2, e3⟩
 have free1 : ∀ b o, X.s₀.heap.get? b = some o → X.H₀ b = none → H b = none := fun b o e n => I.base.free b o e n (noex b)
 refine ⟨x, C, dct, H', B, rfl, ho.trans I.os, hg, ⟨fun b o e n hb _ => ?_, fun b o e n hb _ => ?_, fun b o e n _ => ?_, fun b o e _ => ?_, fun b xs q => un.tups b xs (I.base.tups b xs q), fun b o u q => un.frzs b o u (I.base.frzs b o u q), fun b ps q => ?_⟩,
  fun b u e => (hok b u e).stay (fun c v hc q => F2.stays c v ?_) (fun _ q => q) fun _ _ q => q, F2.out, ⟨fun b o e nb o' e' => ?_, fun b u e o' e' => ?_⟩, nx, hE⟩
 ·have e1 := I.base.keep b o e n hb (noex b)
  have e2 := un.keep b o e1 (free1 b o e n) (below b o e hb) (no0 b)
  exact F2.stays b o (ib.old b o e1 (below b o e hb) o e2)
 ·obtain ⟨sl, e1⟩ := I.base.slot b o e n hb (noex b)
  obtain ⟨sl2, e2⟩ := slot2 b _ e1 (free1 b o e n) hb
  exact ⟨sl2, e2⟩
 ·obtain ⟨o1, e1⟩ := I.base.there b o e (noex b)
  exact un.free b o1 e1 (free1 b o e n) (no0 b)
 ·obtain ⟨o1, e1⟩ := I.base.there b o e (noex b)
  obtain ⟨o2, e2⟩ := un.there b o1 e1 (no0 b)
  by_cases hb : b ∈ X.fs
  ·have n : H b = none := I.stkFree b (by rw [hst]; exact inFs b hb)
   obtain ⟨sl2, e3⟩ := slot2 b _ e1 n hb
   exact ⟨_, e3⟩
  ·exact ⟨o2, F2.stays b o2 (ib.old b o1 e1 (below b o e hb) o2 e2)⟩
 ·obtain ⟨m1, e1⟩ := I.base.tbls b ps q
  obtain ⟨m2, e2⟩ := un.tbls b _ e1
  exact ⟨m1 ++ m2, by rw [e2, Array.append_assoc]⟩
 ·rcases hc with z | z
  ·subst z; exact ib.trk c u e v q
  ·exact ib.trk c _ z v q
 ·obtain ⟨o1, e1⟩ := I.base.there b o e (noex b)
  obtain ⟨o2, e2⟩ := un.there b o1 e1 (no0 b)
  have q := ib.old b o1 e1 (below b o e nb) o2 e2
  rw [F2.stays b o2 q] at e'
  cases e'; exact q
 ·obtain ⟨o1, e1⟩ := (hok b u e).there
  have q := ib.trk b u e o1 e1
  rw [F2.stays b o1 q] at e'
  cases e'; exact q
noncomputable def zvT (x C : Addr) (dct : Option Addr) : HO := .ext fun h => ∃ o, h.get? x = some o ∧ o.cls = .ref C ∧ o.dict = dct ∧ PySem.W.notCls o = true
end
end L2
end
section
set_option Elab.async false
set_option linter.all false
set_option maxRecDepth 100000
namespace L2
open PySem PySem.Spec PyProof.Rows PySem.W
section
variable {prog : Program} {w : World} {A : Around} {E : Value → Shared → Prop} {s : Shared} {K : Frag} {x D : Addr} {ox : Obj} {od : Option Obj} {name : Str} {tk : Tok}
theorem zoR {M : Model} {nameV : Value} {Q : Unit → Shared → Prop} (X : K.In s.heap) (I : InstAt s.heap x ox D od) (hb : mroIn K D (.type "BaseException") = some true) (hq : Q () s) :
  wpAny M A (checkBuiltinCall "BaseException.__getattribute__" ⟨[.ref x, nameV], []⟩) Q E s := by
 have hk : builtinKind "BaseException.__getattribute__" = some .slot := by decide +kernel
 have hsp : splitId "BaseException.__getattribute__" = some ("BaseException", "__getattribute__") := by decide +kernel
 have ha := F.args_bexc_ga (.ref x) nameV
 obtain ⟨hh, g, d, t, os⟩ := s
 have L0 : Looks M hh (isInstance (.ref x) (.type "BaseException")) true := (I.type (M := M)).andThen (looks_mroIn X hb)
 simp only [checkBuiltinCall, hk, hsp]
 refine wpAny_bind (L0.at ?_)
 repeat (any_goals (first | assumption | wp_step))
theorem zvU {R : Result → Shared → Prop} {g a : Value} (X : K.In s.heap) (I : InstAt s.heap x ox D od) (hb : mroIn K D (.type "BaseException") = some true) (hf : findObj K D od name = some (.bind g a))
  (h : wpAny (model prog w) A.in1 (call g [a, .ref x, .ref D]) (fun v s' => R (.ok (.ret v)) s') (fun e s' => R (.error e) s') s) :
  codeAny (model prog w) A (.call (.builtin "BaseException.__getattribute__") ⟨[.ref x, .str name tk], []⟩) R s := by
 refine codeAny_call_builtin F.attr_ValueError.ga.plain F.entry_bexc_ga (zoR X I hb ?_)
 obtain ⟨hh, gg, d, t, os⟩ := s
 have L0 := I.type (M := model prog w)
 have L1 := looks_find (M := model prog w) X I hf
 unfold Builtin.«object.__getattribute__»
 refine wpAny_bind (wpAny_of_eq (a := (Value.ref x, [Value.str name tk])) rfl ?_)
 refine wpAny_bind (wpAny_of_eq (a := name) rfl ?_)
 refine wpAny_bind (L0.at (wpAny_bind (L1.at ?_)))
 show wpAny _ _ (do ret (← holding [a] (call g [a, Value.ref x, Value.ref D]))) _ _ _
 exact wpAny_bind (wpAny_holding (wpAny_mono h (fun v s' q => wpAny_pure q) fun e s' q => q))
theorem zkh {a g : Value} (hc : (clsIn K D).isSome = true) (ha : findIn K (.ref D) name = some (some a)) (hg : specialIn K a "__get__" = some (some g)) (ht : takesIn K a = some true) : findObj K D od name = some (.bind g a) := by
 obtain ⟨cd, hc⟩ := Option.isSome_iff_exists.mp hc
 unfold findObj
 rw [hc, Option.bind_some, ha, Option.bind_some]
 simp [hg, ht]
structure zu7 (K : Frag) (D : Addr) : Prop where
 cls : (clsIn K D).isSome = true
 ga : findIn K (.ref D) "__getattribute__" = some (some (.builtin "BaseException.__getattribute__"))
 gh : findIn K (.ref D) "__getattr__" = some none
 base : mroIn K D (.type "BaseException") = some true
 obj : mroIn K D (.type "object") = some true
 ca : findIn K (.ref D) "__class__" = some (some (.builtin "object.__class__"))
 cg : specialIn K (.builtin "object.__class__") "__get__" = some (some (.builtin "getset_descriptor.__get__"))
 ct : takesIn K (.builtin "object.__class__") = some true
theorem zoS {Q : Option Value → Shared → Prop} (c : zu7 K D) (X : K.In s.heap) (I : InstAt s.heap x ox D od) (h : Q (some (.ref D)) { s with toks := s.toks + 1 }) :
  wpAny (model prog w) A (getAttr? (.ref x) "__class__") Q E s := by
 obtain ⟨hh, gg, d, t, os⟩ := s
 have L0 := I.type (M := model prog w)
 have L1 := looks_findIn (M := model prog w) X c.ga
 have L2 := looks_findIn (M := model prog w) X c.gh
 have hf : findObj K D od "__class__" = some (.bind (.builtin "getset_descriptor.__get__") (.builtin "object.__class__")) := zkh c.cls c.ca c.cg c.ct
 have hx1 : (onTheHeap (Value.ref D) && Value.builtin "BaseException.__getattribute__" == Value.builtin "object.__getattribute__") = false := by
  rw [show (Value.builtin "BaseException.__getattribute__" == Value.builtin "object.__getattribute__") = false by decide +kernel]; rfl
 unfold getAttr? getAttrBy? getAttrBy
 refine wpAny_bind (wpAny_mkText (wpAny_bind (wpAny_attempt (wpAny_holding (wpAny_bind (L0.at (wpAny_bind (L1.at ?_))))))))
 dsimp only
 rw [hx1, if_neg Bool.false_ne_true]
 unfold getAttrByItsOwn
 refine wpAny_bind ?_
 show wpAny _ _ (typeLookup (.ref D) "__getattr__") _ _ _
 refine L2.at ?_
 refine wpAny_bind (wpAny_attempt (wpAny_holding ?_))
 show wpAny _ _ (boundAndCalled (.builtin "BaseException.__getattribute__") (.ref x) (.str "__class__" t)) _ _ _
 unfold boundAndCalled
 refine wpAny_bind (wpAny_of_eq (F.attr_ValueError.ga.bind (.ref x)) ?_)
 refine wpAny_call (zvU X I c.base hf ?_)
 refine wpAny_call (class_get X I c.obj ?_)
 exact handed_on rfl (wpAny_pure h)
theorem zru (c : zu7 K D) : KitX K (.ref x) (.ref D) (fun h => ∃ ox od, InstAt h x ox D od) where
 ty := fun _ _ _ ⟨_, _, I⟩ => I.type
 it := fun _ _ X _ => by
  obtain ⟨cdD, hcD⟩ := Option.isSome_iff_exists.mp c.cls
  unfold clsIn at hcD
  split at hcD
  ·rename_i c' d' cd' sl' ho
   intro A' Q' E' s' k q
   unfold isType loadHead
   exact wpAny_bind (wpAny_loadPart (k _ _ (X _ _ ho)) (wpAny_pure q))
  ·cases hcD
 ne := fun h tp dd its n sl X htp => by
  obtain ⟨cdD, hcD⟩ := Option.isSome_iff_exists.mp c.cls
  refine Bool.eq_false_iff.mpr fun q => ?_
  have e : D = tp := Value.ref.inj (beq_iff_eq.mp q)
  subst e
  unfold clsIn at hcD
  split at hcD
  ·rename_i c' d' cd' sl' ho
   have z := (X _ _ ho).symm.trans htp
   cases z
  ·cases hcD
 ca := fun X ⟨_, _, I⟩ k => zoS c X I k
end
end L2
end
section
set_option Elab.async false
set_option linter.all false
set_option maxRecDepth 100000
namespace L2
open PySem PySem.Spec PyProof.Rows
section
variable {P : Program} {w : World} {K : PySem.W.Frag} {mg : Str → Option Value} {base : Heap}
theorem Fun.okX {CX : CXT} {x qual : Str} {st : Stmt} {f : Addr} {fd : FuncData} {N ps : List Str} {k : Nat} {sp : Sp} (F : Fun K x qual st f fd) (S : zak N ps (zab st)) (len : ∀ vs H Q E, sp vs H Q E → vs.length = ps.length)
  (hbody : ∀ (cdv : Value) (A : Around) (outer : List Env) (s : Shared) (H : Hp) (vs : List V) (Q : VK) (E : XK), zhc k (A.deeper (envOfC qual (zab st) s.heap.objs.size f cdv)) → sp vs H Q E →
   ∃ t, PSs (zjh CX P w K mg base N qual (zab st) f cdv A outer s H E) (zag st) t ∧ t { nx := fun _ H' => Q .non H', rt := Q } (start N vs) H) : ziE P w K mg base CX (k + 1) f fd ps sp := by
 obtain ⟨oc, od, kV, doc, pm, an, cdv, ct, osl, rfl, lk, hcd⟩ := F.ex
 exact zxQ lk hcd S len fun A outer s H vs Q E hr hsp => hbody cdv A outer s H vs Q E hr hsp
theorem ztZ {N : List Str} {qual : Str} {scope : Scope} {f : Addr} {cdv : Value} {A : Around} {outer : List Env} {s : Shared} {H : Hp} {E : XK} : zj4 (CXe P w) (zjh (CXe P w) P w K mg base N qual scope f cdv A outer s H E) E :=
 fun pins σ H1 s1 e s' I h => zrt (X := zjh (CXe P w) P w K mg base N qual scope f cdv A outer s H E) I rfl rfl rfl h
theorem zx2 {X : Cx} : zj4 (CXe P w) X E0 := fun _ _ _ _ _ _ _ h => by
 obtain ⟨_, _, _, _, _, _, _, _, _, _, _, _, _, z⟩ := h
 exact z.elim
end
theorem zt0 {K : PySem.W.Frag} {h : Heap} {C : Addr} {bmB : List Value} {newId : String} (X : K.In h) (q : PySem.W.excIn K C bmB newId = true) :
  ∃ bm N nm qn bs hdct sn sub ab col dd k0 k1 k2 k3 k5 mN, h.get? C = some (excClassObj nm qn C N bs bm hdct sn sub ab col dd k0 k1 k2 k3 k5 newId) ∧ h.Ns N mN ∧ mN "__init__" = none ∧ OwnTail h bmB bm := by
 unfold PySem.W.excIn at q
 split at q
 ·rename_i dd cd sl lk
  split at q
  ·rename_i C' bm k0 k1 k2 k3 nn k5 hm hs
   simp only [Bool.and_eq_true, beq_iff_eq, Bool.not_eq_true'] at q
   obtain ⟨⟨⟨⟨⟨rfl, rfl⟩, hdel⟩, ht⟩, hok⟩, hni⟩ := q
   obtain ⟨nm, bs, mro, ns, qn, hd, sn, sub, ab, col, del⟩ := cd
   dsimp only at hm hdel hok hni
   subst hm hdel
   obtain rfl : sl = #[k0, k1, k2, k3, some (.builtin nn), k5] := by
    obtain ⟨l⟩ := sl
    simp only at hs
    rw [hs]
   exact ⟨bm, ns, nm, qn, bs, hd, sn, sub, ab, col, dd, k0, k1, k2, k3, k5, _, X _ _ lk, .of_isNs (PySem.W.isNs_of_in X hok), PySem.W.nsMap_none_of_in X hok hni, PySem.W.tail_of_in X ht⟩
  ·cases q
 ·cases q
noncomputable def zvV (C : Addr) (ta : TA) (E : XK) : TS := fun _ σ H => ta σ H fun vs H1 => vs.length ≤ sizeLine ∧ E (.ref C) none H1
section
variable {P : Program} {w : World} {K : PySem.W.Frag} {mg : Str → Option Value} {base : Heap} {N : List Str} {qual : Str} {scope : Scope} {f : Addr} {cdv : Value} {A : Around} {outer : List Env} {s0 : Shared} {H0 : Hp} {E : XK}
theorem zrv {x : Str} {C : Addr} {e0 : Expr} {zbs : List Expr} {np cpos pos : Pos} {ta : TA} (q : PySem.W.excIn K C [.type "ValueError", .type "Exception", .type "BaseException", .type "object"] "ValueError.__new__" = true)
  (hg : Gl (zjh (CXe P w) P w K mg base N qual scope f cdv A outer s0 H0 E) x) (hm : mg x = some (.ref C)) (ha : PA (zjh (CXe P w) P w K mg base N qual scope f cdv A outer s0 H0 E) (e0 :: zbs) ta)
  (hdb : (x == ("__debug__" : Str)) = false := by decide)
  (he : starEach (e0 :: zbs) (envOfC qual scope s0.heap.objs.size f cdv) = (false, eval e0 (envOfC qual scope s0.heap.objs.size f cdv)) :: starEach zbs (envOfC qual scope s0.heap.objs.size f cdv) := by rfl)
  (hpl : (backTo cpos (starEach zbs (envOfC qual scope s0.heap.objs.size f cdv))).any (·.1) = false := by rfl) :
  PS (zjh (CXe P w) P w K mg base N qual scope f cdv A outer s0 H0 E) (.Raise (some (.Call (.Name x np) (e0 :: zbs) [] cpos)) none pos) (zvV C ta E) := by
 intro pins s σ H D I h
 obtain ⟨bm, Nn, nm, qn, bs, hdct, sn, sub, ab, col, dd, k0, k1, k2, k3, k5, mN, hC, hN, hni, T⟩ := zt0 I.mod.kin q
 refine wpAny_Raise_call_subT (C := C) (nm := nm) (q := qn) (N := Nn) (bs := bs) (bm := bm) (hdct := hdct) (sn := sn) (sub := sub) (ab := ab) (col := col) (dd := dd) (k0 := k0) (k1 := k1) (k2 := k2) (k3 := k3) (k5 := k5)
  PySem.F.excBase_ValueError (mN := mN) (T.hasType PySem.F.excBase_ValueError.hasBase) (I.ok.hd rfl) (by
   show (backTo cpos (starEach (e0 :: zbs) (envOfC qual scope s0.heap.objs.size f cdv))).any (·.1) = false
   rw [he]; show (false || (backTo cpos (starEach zbs (envOfC qual scope s0.heap.objs.size f cdv))).any (·.1)) = false; rw [hpl]; rfl) hni (zlq I hg hm ⟨rfl, ?_⟩ hdb)
 have ha' := ha cpos pins s σ H _ I h
 show wpAny _ _ (evalArgs (.ref C) true (backTo cpos (starEach (e0 :: zbs) (envOfC qual scope s0.heap.objs.size f cdv))) []) _ _ _
 change wpAny _ _ (spliced (backTo cpos (starEach (e0 :: zbs) (envOfC qual scope s0.heap.objs.size f cdv)))) _ _ _ at ha'
 rw [he] at ha' ⊢
 refine Calls.evalArgs_plain (thn ha' fun us s2 ⟨vs, H1, I1, r, hz, hE⟩ => ?_)
 have hl : us.length ≤ sizeLine := by rw [← r.length]; exact hz
 exact ⟨rfl, hl, I1.bk _ _ hC, hN.keeps I1.bk, T.keeps I1.bk, fun h' e m => znP (tk := s2.toks) I1 rfl rfl rfl m hE⟩
end
end L2
end
section
set_option Elab.async false
set_option linter.all false
set_option maxRecDepth 100000
namespace L2
open PySem PySem.Spec PyProof.Rows
noncomputable def XP (X : Cx) (CX : CXT) (pins : List (Addr × Obj)) (σ : St) (E : XK) (e : Value) (s' : Shared) : Prop := ∃ s1 H1, Inv X pins σ H1 s1 ∧ CX X.stack H1 s1 E e s'
section
variable {X : Cx} {CX : CXT} {k : Nat} {f : Addr} {fd : FuncData} {ps : List Str} {sp : Sp} {dvs : List V} {ds : List Value} {x : Str} {p pos : Pos} {e : Expr} {es : List Expr} {t : TA}
end
section
variable {X : Cx} {pins : List (Addr × Obj)} {σ : St} {H : Hp} {s : Shared} {x : Addr}
end
theorem zoT {X : Cx} : zcF X (.builtin "isinstance") (fun xs H Q => ∃ (a C : Addr) (c : V) (cv : Value) (b : Bool), xs = [.ref a, c] ∧ H a = some (zvT a C none) ∧ ((∃ D, c = .ref D ∧ cv = .ref D) ∨ ∃ T, c = .ty T ∧ cv = .type T) ∧ zu7 X.K C ∧ PySem.W.kitOne X.K (.ref C) cv = some b ∧ Q (.bl b) H) := by
 intro pins s σ H xs us Q I r h
 obtain ⟨a, C, c, cv, b, rfl, ha, hc, ec, hk, q⟩ := h
 obtain ⟨u, w', rfl, ru, rw'⟩ := zrg r
 obtain rfl : u = Value.ref a := ru
 have e : w' = cv := by
  rcases hc with ⟨D, rfl, rfl⟩ | ⟨T, rfl, rfl⟩
  ·exact rw'
  ·exact rw'
 subst e
 obtain ⟨⟨o, e1, e2, e3, e4⟩, _, _⟩ := I.hok a _ ha
 have hI : PySem.W.InstAt s.heap a o C none := ⟨e1, e2, e4, by rw [e3]; trivial⟩
 exact PySem.W.kia_one (zru ec) I.kIn ⟨o, none, hI⟩ hk (fun z => nomatch z) fun tk => ⟨.bl b, H, I.tok tk, rfl, q⟩
end L2
end
section
set_option Elab.async false
set_option linter.all false
set_option maxRecDepth 100000
namespace L2
open PySem PySem.Spec PyProof.Rows
section
variable {X : Cx}
theorem zoU (bs : List Bool) : (List.range bs.length).all (fun i => bs.getD i false) = bs.all id := by
 rw [Bool.eq_iff_iff]
 simp only [List.all_eq_true, List.mem_range, id]
 constructor
 ·intro h b hb
  obtain ⟨i, hi, rfl⟩ := List.mem_iff_getElem.mp hb
  have q := h i hi
  simpa [List.getD, hi] using q
 ·intro h i hi
  have q := h _ (List.getElem_mem hi)
  simpa [List.getD, hi] using q
theorem zoV (bs : List Bool) : (List.range bs.length).any (fun i => bs.getD i false) = bs.any id := by
 rw [Bool.eq_iff_iff]
 simp only [List.any_eq_true, List.mem_range, id]
 constructor
 ·rintro ⟨i, hi, q⟩
  exact ⟨bs[i], List.getElem_mem hi, by simpa [List.getD, hi] using q⟩
 ·rintro ⟨b, hb, q⟩
  obtain ⟨i, hi, rfl⟩ := List.mem_iff_getElem.mp hb
  exact ⟨i, hi, by simpa [List.getD, hi] using q⟩
theorem zmg {bs : List Bool} {its : List Value} (r : zbA (bs.map V.bl) its) {i : Nat} {v : Value} (h : its.toArray[i]? = some v) : v = .bool (bs.getD i false) := by
 have hl := r.length
 rw [List.length_map] at hl
 have hi : i < bs.length := by
  rw [hl]
  have : its[i]? = some v := by simpa using h
  exact (List.getElem?_eq_some_iff.mp this).1
 obtain ⟨u, hu, ru⟩ := r.get (i := i) (x := .bl bs[i]) (by simp [hi])
 have e : its[i]? = some v := by simpa using h
 rw [hu] at e
 cases e
 rw [show v = .bool bs[i] from ru]
 simp [List.getD, hi]
theorem zrw (hc : X.calm = true) : zcF X (.builtin "all") (fun xs H Q => ∃ (p : Addr) (bs : List Bool), xs = [.ref p] ∧ SqL X.K H p (bs.map V.bl) ∧ Q (.bl (bs.all id)) H) := by
 intro pins s σ H xs us Q I r h
 obtain ⟨p, bs, rfl, hq, q⟩ := h
 obtain ⟨u, rfl, e⟩ := zgS r
 cases e
 obtain ⟨its, rv, pl, hz⟩ := I.list hq
 have hl : its.toArray.size = bs.length := by rw [List.size_toArray, ← rv.length, List.length_map]
 have hlt : p < s.heap.objs.size := by obtain ⟨o, e, _⟩ := pl.isList; exact Heap.lt_size e
 refine call_all_walk (wpAny_pyIter_list pl.isList ⟨_, _, _, _, _, _, fun i => bs.getD i false, rfl, Walks.list (A := X.A.in1) (I.ok.hd hc) s.heap.objs.size p (Nat.ne_of_lt hlt) its.toArray, ⟨⟨_, Heap.get?_push_size _ rfl, rfl, rfl⟩, pl.isList.push _⟩, fun i v s' Q' E' hv hQ => ?_, fun h' tk k => ?_⟩)
 ·rw [zmg rv hv]; exact wpAny_truthy_bool hQ
 ·refine ⟨.bl (bs.all id), H, I.kept fun b o e => k b o (fun z => Nat.ne_of_lt (Heap.lt_size e) (by simpa using z)) (Heap.get?_push_of_some _ e), ?_, q⟩
  rw [hl, zoU]; rfl
theorem zrx (hc : X.calm = true) : zcF X (.builtin "any") (fun xs H Q => ∃ (p : Addr) (bs : List Bool), xs = [.ref p] ∧ SqL X.K H p (bs.map V.bl) ∧ Q (.bl (bs.any id)) H) := by
 intro pins s σ H xs us Q I r h
 obtain ⟨p, bs, rfl, hq, q⟩ := h
 obtain ⟨u, rfl, e⟩ := zgS r
 cases e
 obtain ⟨its, rv, pl, hz⟩ := I.list hq
 have hl : its.toArray.size = bs.length := by rw [List.size_toArray, ← rv.length, List.length_map]
 have hlt : p < s.heap.objs.size := by obtain ⟨o, e, _⟩ := pl.isList; exact Heap.lt_size e
 refine call_any_walk (wpAny_pyIter_list pl.isList ⟨_, _, _, _, _, _, fun i => bs.getD i false, rfl, Walks.list (A := X.A.in1) (I.ok.hd hc) s.heap.objs.size p (Nat.ne_of_lt hlt) its.toArray, ⟨⟨_, Heap.get?_push_size _ rfl, rfl, rfl⟩, pl.isList.push _⟩, fun i v s' Q' E' hv hQ => ?_, fun h' tk k => ?_⟩)
 ·rw [zmg rv hv]; exact wpAny_truthy_bool hQ
 ·refine ⟨.bl (bs.any id), H, I.kept fun b o e => k b o (fun z => Nat.ne_of_lt (Heap.lt_size e) (by simpa using z)) (Heap.get?_push_of_some _ e), ?_, q⟩
  rw [hl, zoV]; rfl
end
end L2
end
section
set_option linter.all false
namespace Mth
noncomputable def zaH (x y z : Int) : Int := if z ≠ 0 then z else if y ≠ 0 then y else x
noncomputable def g3 (x y z : Int) : Nat := Nat.gcd (Nat.gcd x.natAbs y.natAbs) z.natAbs
noncomputable def zeb (x y z : Int) : Int := if zaH x y z < 0 then 0 - ((g3 x y z : Nat) : Int) else ((g3 x y z : Nat) : Int)
noncomputable abbrev NZ (x y z : Int) : Prop := ¬ (x = 0 ∧ y = 0 ∧ z = 0)
theorem zcY {x y z : Int} (h : NZ x y z) : zjl (zeb x y z) x y z (x.fdiv (zeb x y z)) (y.fdiv (zeb x y z)) (z.fdiv (zeb x y z)) := by
 obtain ⟨x', y', z', p⟩ := znO x y z h
 have key : ∃ x' y' z', zjl (zeb x y z) x y z x' y' z' := by
  unfold zeb
  by_cases c : zaH x y z < 0
  ·rw [if_pos c]; exact ⟨-x', -y', -z', p.neg⟩
  ·rw [if_neg c]; exact ⟨x', y', z', p⟩
 obtain ⟨x', y', z', p⟩ := key
 rw [zhh p.ne p.x, zhh p.ne p.y, zhh p.ne p.z]
 exact p
theorem zjl.nz {s x y z x' y' z' : Int} (p : zjl s x y z x' y' z') (h : NZ x y z) : NZ x' y' z' := fun q => h (by rw [p.x, p.y, p.z, q.1, q.2.1, q.2.2]; simp)
theorem zx3 {x y z : Int} (h : NZ x y z) : g3 x y z ≠ 0 := by
 unfold g3
 intro e
 have e1 := Nat.eq_zero_of_gcd_eq_zero_left e
 have e2 := Nat.eq_zero_of_gcd_eq_zero_right e
 have e3 := Nat.eq_zero_of_gcd_eq_zero_left e1
 have e4 := Nat.eq_zero_of_gcd_eq_zero_right e1
 exact h ⟨by omega, by omega, by omega⟩
theorem zmh (x y z : Int) : (zeb x y z).natAbs = g3 x y z := by
 unfold zeb
 split <;> omega
theorem zoW (s x y z : Int) : g3 (s * x) (s * y) (s * z) = s.natAbs * g3 x y z := by
 unfold g3
 rw [Int.natAbs_mul, Int.natAbs_mul, Int.natAbs_mul, Nat.gcd_mul_left, Nat.gcd_mul_left]
theorem znQ {s : Int} (hs : s ≠ 0) (x y z : Int) : zaH (s * x) (s * y) (s * z) = s * zaH x y z := by
 unfold zaH
 by_cases hz : z = 0
 ·subst hz
  by_cases hy : y = 0
  ·subst hy; simp
  ·have : s * y ≠ 0 := fun e => by rcases Int.mul_eq_zero.mp e with q | q <;> contradiction
   simp [hy, this]
 ·have : s * z ≠ 0 := fun e => by rcases Int.mul_eq_zero.mp e with q | q <;> contradiction
  simp [hz, this]
theorem zki {x y z : Int} (h : NZ x y z) : zaH x y z ≠ 0 := by
 unfold zaH
 by_cases hz : z = 0
 ·by_cases hy : y = 0
  ·have : x ≠ 0 := fun e => h ⟨e, hy, hz⟩
   simp [hz, hy, this]
  ·simp [hz, hy]
 ·simp [hz]
theorem zry {x y z x' y' z' : Int} (h : NZ x y z) (p : zjl (zeb x y z) x y z x' y' z') : zeb x' y' z' = 1 := by
 have hg : g3 x y z = (zeb x y z).natAbs * g3 x' y' z' := by
  have e := zoW (zeb x y z) x' y' z'
  rw [← p.x, ← p.y, ← p.z] at e
  exact e
 rw [zmh] at hg
 have n0 := zx3 h
 have g1 : g3 x' y' z' = 1 := by
  have : g3 x y z * 1 = g3 x y z * g3 x' y' z' := by rw [Nat.mul_one]; exact hg
  exact (Nat.eq_of_mul_eq_mul_left (Nat.pos_of_ne_zero n0) this).symm
 have hl : zaH x y z = zeb x y z * zaH x' y' z' := by
  have e := znQ p.ne x' y' z'
  rw [← p.x, ← p.y, ← p.z] at e
  exact e
 have ln := zki (p.nz h)
 have lp : 0 < zaH x' y' z' := by
  by_cases c : zaH x y z < 0
  ·have es : zeb x y z < 0 := by unfold zeb; rw [if_pos c]; omega
   rcases (show 0 < zaH x' y' z' ∨ zaH x' y' z' ≤ 0 by omega) with q | q
   ·exact q
   ·have q' : zaH x' y' z' < 0 := by omega
    have := Int.mul_pos_of_neg_of_neg es q'
    rw [← hl] at this; omega
  ·have es : 0 < zeb x y z := by unfold zeb; rw [if_neg c]; omega
   rcases (show 0 < zaH x' y' z' ∨ zaH x' y' z' ≤ 0 by omega) with q | q
   ·exact q
   ·have q' : zaH x' y' z' < 0 := by omega
    have := Int.mul_neg_of_pos_of_neg es q'
    rw [← hl] at this; omega
 unfold zeb
 rw [if_neg (by omega), g1]; rfl
theorem zeJ (x : Int) : x.fdiv 1 = x := by
 rw [Int.fdiv_eq_ediv_of_nonneg _ (by decide)]; exact Int.ediv_one x
theorem zx4 {x y z : Int} {B : Nat} (hx : x.natAbs ≤ B) (hy : y.natAbs ≤ B) (hz : z.natAbs ≤ B) : g3 x y z ≤ B := zhi (zhi hx hy) hz
theorem zt1 {x y z : Int} {B : Nat} (hx : x.natAbs ≤ B) (hy : y.natAbs ≤ B) (hz : z.natAbs ≤ B) : (zeb x y z).natAbs ≤ B := by rw [zmh]; exact zx4 hx hy hz
end Mth
end
section
set_option Elab.async false
set_option linter.all false
namespace Mth
noncomputable abbrev P3 := Int × Int × Int
noncomputable def dot (p q : P3) : Int := p.1 * q.1 + p.2.1 * q.2.1 + p.2.2 * q.2.2
noncomputable def crs (p q : P3) : P3 := (p.2.1 * q.2.2 - p.2.2 * q.2.1, p.2.2 * q.1 - p.1 * q.2.2, p.1 * q.2.1 - p.2.1 * q.1)
noncomputable abbrev Nz (p : P3) : Prop := NZ p.1 p.2.1 p.2.2
noncomputable abbrev sOf (p : P3) : Int := zeb p.1 p.2.1 p.2.2
noncomputable def low (p : P3) : P3 := (p.1.fdiv (sOf p), p.2.1.fdiv (sOf p), p.2.2.fdiv (sOf p))
structure Nrm (p : P3) : Prop where
 nz : Nz p
 one : sOf p = 1
theorem zdu {p : P3} (h : Nz p) : sOf p ≠ 0 ∧ p.1 = sOf p * (low p).1 ∧ p.2.1 = sOf p * (low p).2.1 ∧ p.2.2 = sOf p * (low p).2.2 :=
 ⟨(zcY h).ne, (zcY h).x, (zcY h).y, (zcY h).z⟩
theorem zhj {p : P3} (h : Nz p) : Nrm (low p) := ⟨(zcY h).nz h, zry h (zcY h)⟩
theorem Nrm.low {p : P3} (h : Nrm p) : Mth.low p = p := by
 unfold Mth.low; rw [h.one, zeJ, zeJ, zeJ]
theorem zjm {p q : P3} (h : Nz q) : dot p (low q) = 0 ↔ dot p q = 0 := by
 obtain ⟨h0, h1, h2, h3⟩ := zdu h
 have e : dot p q = sOf q * dot p (low q) := by unfold dot; grind
 rw [e, Int.mul_eq_zero]
 exact ⟨.inr, fun z => z.resolve_left h0⟩
theorem zt2 {p : P3} (h : Nz p) : (low p).1.natAbs ≤ p.1.natAbs ∧ (low p).2.1.natAbs ≤ p.2.1.natAbs ∧ (low p).2.2.natAbs ≤ p.2.2.natAbs := by
 obtain ⟨h0, h1, h2, h3⟩ := zdu h
 exact ⟨zfs h0 h1, zfs h0 h2, zfs h0 h3⟩
theorem Nrm.last {p : P3} (h : Nrm p) : 0 < zaH p.1 p.2.1 p.2.2 ∧ g3 p.1 p.2.1 p.2.2 = 1 := by
 have h1 := h.one
 have h2 := zki h.nz
 unfold sOf zeb at h1
 split at h1 <;> constructor <;> omega
theorem znR {p q : P3} (hp : Nz p) (hq : Nz q) (h : crs p q = (0, 0, 0)) :
  zaH q.1 q.2.1 q.2.2 * p.1 = zaH p.1 p.2.1 p.2.2 * q.1 ∧ zaH q.1 q.2.1 q.2.2 * p.2.1 = zaH p.1 p.2.1 p.2.2 * q.2.1 ∧ zaH q.1 q.2.1 q.2.2 * p.2.2 = zaH p.1 p.2.1 p.2.2 * q.2.2 := by
 obtain ⟨a, b, c⟩ := p
 obtain ⟨x, y, z⟩ := q
 simp only [crs, Prod.mk.injEq] at h
 obtain ⟨h1, h2, h3⟩ := h
 simp only [Nz, NZ] at hp hq
 unfold zaH
 simp only
 by_cases hc : c = 0
 ·subst hc
  by_cases hz : z = 0
  ·subst hz
   by_cases hb : b = 0
   ·subst hb
    by_cases hy : y = 0
    ·subst hy; grind
    ·have : a = 0 := by
      have := h3
      simp at this
      exact (Int.mul_eq_zero.mp this).resolve_right hy
     exact absurd ⟨this, rfl, rfl⟩ hp
   ·by_cases hy : y = 0
    ·subst hy
     have : x = 0 := by
      have := h3
      simp at this
      exact (Int.mul_eq_zero.mp this).resolve_left hb
     exact absurd ⟨this, rfl, rfl⟩ hq
    ·simp only [ne_eq, not_true_eq_false, if_false, hb, hy, not_false_eq_true, if_true]
     grind
  ·have hb : b = 0 := by
    have := h1
    simp at this
    exact (Int.mul_eq_zero.mp this).resolve_right hz
   have ha : a = 0 := by
    have := h2
    simp at this
    exact (Int.mul_eq_zero.mp this).resolve_right hz
   exact absurd ⟨ha, hb, rfl⟩ hp
 ·by_cases hz : z = 0
  ·subst hz
   have hy : y = 0 := by
    have := h1
    simp at this
    exact (Int.mul_eq_zero.mp this).resolve_left hc
   have hx : x = 0 := by
    have := h2
    simp at this
    exact (Int.mul_eq_zero.mp this).resolve_left hc
   exact absurd ⟨hx, hy, rfl⟩ hq
  ·simp only [ne_eq, hc, hz, not_false_eq_true, if_true]
   grind
theorem zbG {p q : P3} (hp : Nrm p) (hq : Nrm q) (h : p ≠ q) : Nz (crs p q) := by
 intro hz
 apply h
 obtain ⟨e1, e2, e3⟩ := znR hp.nz hq.nz (Prod.ext hz.1 (Prod.ext hz.2.1 hz.2.2))
 obtain ⟨sp, gp⟩ := hp.last
 obtain ⟨sq, gq⟩ := hq.last
 have g1 := zoW (zaH q.1 q.2.1 q.2.2) p.1 p.2.1 p.2.2
 have g2 := zoW (zaH p.1 p.2.1 p.2.2) q.1 q.2.1 q.2.2
 rw [e1, e2, e3, g2, gp, gq] at g1
 have e : zaH q.1 q.2.1 q.2.2 = zaH p.1 p.2.1 p.2.2 := by omega
 rw [e] at e1 e2 e3
 have ne : zaH p.1 p.2.1 p.2.2 ≠ 0 := by omega
 exact Prod.ext (Int.eq_of_mul_eq_mul_left ne e1) (Prod.ext (Int.eq_of_mul_eq_mul_left ne e2) (Int.eq_of_mul_eq_mul_left ne e3))
noncomputable def Col (ps : List P3) : Prop := ∀ p ∈ ps, ∀ q ∈ ps, ∀ r ∈ ps, dot p (crs q r) = 0
theorem zoX {L p q r : P3} (hL : Nz L) (hp : dot p L = 0) (hq : dot q L = 0) (hr : dot r L = 0) : dot p (crs q r) = 0 := by
 have e1 : dot p (crs q r) * L.1 = 0 := by unfold dot crs at *; grind
 have e2 : dot p (crs q r) * L.2.1 = 0 := by unfold dot crs at *; grind
 have e3 : dot p (crs q r) * L.2.2 = 0 := by unfold dot crs at *; grind
 by_cases h : dot p (crs q r) = 0
 ·exact h
 ·exact absurd ⟨(Int.mul_eq_zero.mp e1).resolve_left h, (Int.mul_eq_zero.mp e2).resolve_left h, (Int.mul_eq_zero.mp e3).resolve_left h⟩ hL
theorem Col.iff {ps : List P3} {p0 o : P3} (h0 : p0 ∈ ps) (ho : o ∈ ps) (hL : Nz (crs p0 o)) : Col ps ↔ ∀ p ∈ ps, dot p (crs p0 o) = 0 :=
 ⟨fun c p hp => c p hp p0 h0 o ho, fun c p hp q hq r hr => zoX hL (c p hp) (c q hq) (c r hr)⟩
theorem Col.same {ps : List P3} {p0 : P3} (h : ∀ p ∈ ps, p = p0) : Col ps := fun p hp q hq r hr => by
 rw [h p hp, h q hq, h r hr]; unfold dot crs; grind
end Mth
end
section
set_option Elab.async false
set_option linter.all false
namespace Mth
noncomputable abbrev M3 := P3 × P3 × P3
noncomputable def mul (m : M3) (p : P3) : P3 := (dot m.1 p, dot m.2.1 p, dot m.2.2 p)
noncomputable def cof (m : M3) : M3 := (crs m.2.1 m.2.2, crs m.2.2 m.1, crs m.1 m.2.1)
noncomputable def det (m : M3) : Int := dot m.1 (crs m.2.1 m.2.2)
theorem zjn (a b p q : P3) : dot a p * dot b q - dot b p * dot a q = dot (crs a b) (crs p q) := by unfold dot crs; grind
theorem zt3 (m : M3) (p q : P3) : crs (mul m p) (mul m q) = mul (cof m) (crs p q) := by
 have h1 := zjn m.2.1 m.2.2 p q
 have h2 := zjn m.2.2 m.1 p q
 have h3 := zjn m.1 m.2.1 p q
 exact Prod.ext h1 (Prod.ext h2 h3)
theorem zx5 (m : M3) (p : P3) : det m * p.1 = dot m.1 p * (crs m.2.1 m.2.2).1 + dot m.2.1 p * (crs m.2.2 m.1).1 + dot m.2.2 p * (crs m.1 m.2.1).1 := by unfold det dot crs; grind
theorem zx6 (m : M3) (p : P3) : det m * p.2.1 = dot m.1 p * (crs m.2.1 m.2.2).2.1 + dot m.2.1 p * (crs m.2.2 m.1).2.1 + dot m.2.2 p * (crs m.1 m.2.1).2.1 := by unfold det dot crs; grind
theorem zx7 (m : M3) (p : P3) : det m * p.2.2 = dot m.1 p * (crs m.2.1 m.2.2).2.2 + dot m.2.1 p * (crs m.2.2 m.1).2.2 + dot m.2.2 p * (crs m.1 m.2.1).2.2 := by unfold det dot crs; grind
theorem zx8 (m : M3) (p : P3) : det m * p.1 = dot (crs m.2.1 m.2.2) p * m.1.1 + dot (crs m.2.2 m.1) p * m.2.1.1 + dot (crs m.1 m.2.1) p * m.2.2.1 := by unfold det dot crs; grind
theorem zx9 (m : M3) (p : P3) : det m * p.2.1 = dot (crs m.2.1 m.2.2) p * m.1.2.1 + dot (crs m.2.2 m.1) p * m.2.1.2.1 + dot (crs m.1 m.2.1) p * m.2.2.2.1 := by unfold det dot crs; grind
theorem zya (m : M3) (p : P3) : det m * p.2.2 = dot (crs m.2.1 m.2.2) p * m.1.2.2 + dot (crs m.2.2 m.1) p * m.2.1.2.2 + dot (crs m.1 m.2.1) p * m.2.2.2.2 := by unfold det dot crs; grind
theorem zed {a b : Int} (h : a ≠ 0) (e : a * b = 0) : b = 0 := (Int.mul_eq_zero.mp e).resolve_left h
theorem zge {m : M3} {p : P3} (h : det m ≠ 0) (hp : Nz p) : Nz (mul m p) := by
 rintro ⟨h1, h2, h3⟩
 have h1 : dot m.1 p = 0 := h1
 have h2 : dot m.2.1 p = 0 := h2
 have h3 : dot m.2.2 p = 0 := h3
 exact hp ⟨zed h (by rw [zx5, h1, h2, h3]; simp), zed h (by rw [zx6, h1, h2, h3]; simp), zed h (by rw [zx7, h1, h2, h3]; simp)⟩
noncomputable def tms (s : Int) (p : P3) : P3 := (s * p.1, s * p.2.1, s * p.2.2)
theorem zdp {p : P3} (h : Nz p) : p = tms (sOf p) (low p) := by
 obtain ⟨_, h1, h2, h3⟩ := zdu h
 exact Prod.ext h1 (Prod.ext h2 h3)
theorem zoY (s t : Int) (p q : P3) : crs (tms s p) (tms t q) = tms (s * t) (crs p q) := by
 unfold crs tms; exact Prod.ext (by grind) (Prod.ext (by grind) (by grind))
theorem zfl (m : M3) (s : Int) (p : P3) : mul m (tms s p) = tms s (mul m p) := by
 unfold mul tms dot; exact Prod.ext (by grind) (Prod.ext (by grind) (by grind))
theorem zmi {s : Int} {p : P3} (hs : s ≠ 0) (h : tms s p = (0, 0, 0)) : p = (0, 0, 0) := by
 unfold tms at h
 simp only [Prod.mk.injEq] at h
 exact Prod.ext (zed hs h.1) (Prod.ext (zed hs h.2.1) (zed hs h.2.2))
theorem zrz {p : P3} (h : Nz p) : p ≠ (0, 0, 0) := fun e => h (by rw [e]; exact ⟨rfl, rfl, rfl⟩)
theorem zvW {p : P3} (h : p ≠ (0, 0, 0)) : Nz p := fun ⟨a, b, c⟩ => h (Prod.ext a (Prod.ext b c))
theorem zss {s : Int} {p : P3} (hs : s ≠ 0) (h : Nz p) : Nz (tms s p) := zvW fun e => zrz h (zmi hs e)
theorem zby {a b : Int} (ha : a ≠ 0) (hb : b ≠ 0) : a * b ≠ 0 := fun e => by rcases Int.mul_eq_zero.mp e with q | q <;> contradiction
theorem zt4 {u v : P3} (hu : Nz u) (hv : Nz v) (h : crs u v = (0, 0, 0)) : low u = low v := by
 refine Classical.byContradiction fun hne => ?_
 have hz := zbG (zhj hu) (zhj hv) hne
 have e := h
 rw [zdp hu, zdp hv, zoY] at e
 exact zrz hz (zmi (zby (zdu hu).1 (zdu hv).1) e)
theorem zeK {s : Int} {p : P3} (hs : s ≠ 0) (h : Nz p) : low (tms s p) = low p := zt4 (zss hs h) h (by unfold crs tms; exact Prod.ext (by grind) (Prod.ext (by grind) (by grind)))
end Mth
end
section
set_option Elab.async false
set_option linter.all false
namespace Mth
noncomputable def zoZ (ns : List Int) : Nat := ns.foldl (fun g n => Nat.gcd g n.natAbs) 0
noncomputable def zaI : List Int → Int
 | [] => 0
 | n :: ns => if n = 0 then zaI ns else n
noncomputable def zdH (ns : List Int) : Int := if zaI ns < 0 then -((zoZ ns : Nat) : Int) else ((zoZ ns : Nat) : Int)
noncomputable def zvX (ns : List Int) : List Int := ns.map fun n => n.fdiv (zdH ns)
theorem zkj : ∀ (ns : List Int) (g : Nat), (ns.foldl (fun g n => Nat.gcd g n.natAbs) g ∣ g) ∧ ∀ n ∈ ns, ns.foldl (fun g n => Nat.gcd g n.natAbs) g ∣ n.natAbs
 | [], g => ⟨Nat.dvd_refl _, fun n h => by cases h⟩
 | m :: ns, g => by
  obtain ⟨h1, h2⟩ := zkj ns (Nat.gcd g m.natAbs)
  refine ⟨Nat.dvd_trans h1 (Nat.gcd_dvd_left _ _), fun n hn => ?_⟩
  rcases List.mem_cons.mp hn with rfl | hn
  ·exact Nat.dvd_trans h1 (Nat.gcd_dvd_right _ _)
  ·exact h2 n hn
theorem zkk (c : Int) : ∀ (ns : List Int) (g : Nat), (ns.map (c * ·)).foldl (fun g n => Nat.gcd g n.natAbs) (c.natAbs * g) = c.natAbs * ns.foldl (fun g n => Nat.gcd g n.natAbs) g
 | [], g => rfl
 | m :: ns, g => by
  rw [List.map_cons, List.foldl_cons, List.foldl_cons, Int.natAbs_mul, Nat.gcd_mul_left]
  exact zkk c ns _
theorem zrA (c : Int) (ns : List Int) : zoZ (ns.map (c * ·)) = c.natAbs * zoZ ns := by
 have := zkk c ns 0
 rw [Nat.mul_zero] at this
 exact this
theorem zcZ {c : Int} (hc : c ≠ 0) : ∀ ns : List Int, zaI (ns.map (c * ·)) = c * zaI ns
 | [] => by simp [zaI]
 | n :: ns => by
  rw [List.map_cons]
  unfold zaI
  by_cases h : n = 0
  ·subst h; simp [zcZ hc ns]
  ·rw [if_neg h, if_neg (zby hc h)]
theorem zhk : ∀ {ns : List Int}, zaI ns ≠ 0 → zaI ns ∈ ns
 | [], h => absurd rfl h
 | n :: ns, h => by
  unfold zaI at h ⊢
  by_cases e : n = 0
  ·rw [if_pos e] at h ⊢; exact List.mem_cons_of_mem _ (zhk h)
  ·rw [if_neg e]; exact List.mem_cons_self
theorem zeL : ∀ {ns : List Int} {n : Int}, n ∈ ns → n ≠ 0 → zaI ns ≠ 0
 | m :: ns, n, h, hn => by
  unfold zaI
  by_cases e : m = 0
  ·rw [if_pos e]
   rcases List.mem_cons.mp h with rfl | h
   ·exact absurd e hn
   ·exact zeL h hn
  ·rw [if_neg e]; exact e
theorem zjo {ns : List Int} {n : Int} (h : n ∈ ns) : ((zoZ ns : Nat) : Int) ∣ n := Int.ofNat_dvd_left.mpr ((zkj ns 0).2 n h)
theorem zt5 {ns : List Int} (h : zaI ns ≠ 0) : zoZ ns ≠ 0 := fun e => h (by
 have := zjo (zhk h)
 rw [e] at this
 obtain ⟨k, hk⟩ := this
 rw [hk]; simp)
theorem zcy {ns : List Int} (h : zaI ns ≠ 0) : zdH ns ≠ 0 := by
 have := zt5 h
 unfold zdH; split <;> omega
theorem zrB {ns : List Int} {n : Int} (h : n ∈ ns) : zdH ns ∣ n := by
 unfold zdH; split
 ·exact Int.neg_dvd.mpr (zjo h)
 ·exact zjo h
theorem zf1 {ns : List Int} (h : zaI ns ≠ 0) {n : Int} (hn : n ∈ ns) : n = zdH ns * n.fdiv (zdH ns) := by
 obtain ⟨k, hk⟩ := zrB hn
 rw [zhh (zcy h) hk]; exact hk
theorem zrC {c : Int} (hc : c ≠ 0) {ns : List Int} (h : zaI ns ≠ 0) : zdH (ns.map (c * ·)) = c * zdH ns := by
 unfold zdH
 rw [zcZ hc, zrA, Int.natCast_mul]
 rcases Int.lt_or_gt_of_ne hc with h1 | h1
 ·have e : ((c.natAbs : Nat) : Int) = -c := by omega
  rw [e]
  rcases Int.lt_or_gt_of_ne h with h2 | h2
  ·rw [if_neg (by have := Int.mul_pos_of_neg_of_neg h1 h2; omega), if_pos h2]; grind
  ·rw [if_pos (Int.mul_neg_of_neg_of_pos h1 h2), if_neg (by omega)]; grind
 ·have e : ((c.natAbs : Nat) : Int) = c := by omega
  rw [e]
  rcases Int.lt_or_gt_of_ne h with h2 | h2
  ·rw [if_pos (Int.mul_neg_of_pos_of_neg h1 h2), if_pos h2]; grind
  ·rw [if_neg (by have := Int.mul_pos h1 h2; omega), if_neg (by omega)]
theorem zrD {c : Int} (hc : c ≠ 0) {ns : List Int} (h : zaI ns ≠ 0) : zvX (ns.map (c * ·)) = zvX ns := by
 unfold zvX
 rw [zrC hc h, List.map_map]
 apply List.map_congr_left
 intro n hn
 have e := zf1 h hn
 show (c * n).fdiv (c * zdH ns) = n.fdiv (zdH ns)
 refine zhh (zby hc (zcy h)) ?_
 rw [Int.mul_assoc, ← e]
theorem zrE {ns : List Int} (h : zaI ns ≠ 0) {n : Int} (hn : n ∈ ns) : (n.fdiv (zdH ns)).natAbs ≤ n.natAbs := zfs (zcy h) (zf1 h hn)
theorem zmj : ∀ (ns : List Int) (g : Nat) (k : Nat), g ≤ k → (∀ n ∈ ns, n.natAbs ≤ k) → ns.foldl (fun g n => Nat.gcd g n.natAbs) g ≤ k
 | [], g, k, hg, _ => hg
 | m :: ns, g, k, hg, h => zmj ns _ k (zhi hg (h m List.mem_cons_self)) fun n hn => h n (List.mem_cons_of_mem _ hn)
theorem zt6 {ns : List Int} {k : Nat} (h : ∀ n ∈ ns, n.natAbs ≤ k) : (zdH ns).natAbs ≤ k := by
 have := zmj ns 0 k (Nat.zero_le _) h
 unfold zdH zoZ; split <;> omega
noncomputable def za6 (m : M3) : List Int := [m.1.1, m.1.2.1, m.1.2.2, m.2.1.1, m.2.1.2.1, m.2.1.2.2, m.2.2.1, m.2.2.2.1, m.2.2.2.2]
noncomputable def cmul (c : Int) (m : M3) : M3 := (tms c m.1, tms c m.2.1, tms c m.2.2)
noncomputable def zbz (m : M3) : M3 := ((m.1.1.fdiv (zdH (za6 m)), m.1.2.1.fdiv (zdH (za6 m)), m.1.2.2.fdiv (zdH (za6 m))), (m.2.1.1.fdiv (zdH (za6 m)), m.2.1.2.1.fdiv (zdH (za6 m)), m.2.1.2.2.fdiv (zdH (za6 m))), (m.2.2.1.fdiv (zdH (za6 m)), m.2.2.2.1.fdiv (zdH (za6 m)), m.2.2.2.2.fdiv (zdH (za6 m))))
theorem zg1 (m : M3) : za6 (zbz m) = zvX (za6 m) := rfl
theorem zee (c : Int) (m : M3) : za6 (cmul c m) = (za6 m).map (c * ·) := rfl
theorem zmk {m m' : M3} (h : za6 m = za6 m') : m = m' := by
 obtain ⟨⟨a, b, c⟩, ⟨d, e, f⟩, ⟨g, i, j⟩⟩ := m
 obtain ⟨⟨a', b', c'⟩, ⟨d', e', f'⟩, ⟨g', i', j'⟩⟩ := m'
 simp only [za6, List.cons.injEq] at h
 simp only [Prod.mk.injEq]
 exact ⟨⟨h.1, h.2.1, h.2.2.1⟩, ⟨h.2.2.2.1, h.2.2.2.2.1, h.2.2.2.2.2.1⟩, h.2.2.2.2.2.2.1, h.2.2.2.2.2.2.2.1, h.2.2.2.2.2.2.2.2.1⟩
noncomputable abbrev NzM (m : M3) : Prop := zaI (za6 m) ≠ 0
theorem NzM.cmul {m : M3} {c : Int} (hc : c ≠ 0) (h : NzM m) : NzM (cmul c m) := by
 unfold NzM; rw [zee, zcZ hc]; exact zby hc h
theorem zcs {m : M3} {c : Int} (hc : c ≠ 0) (h : NzM m) : zbz (cmul c m) = zbz m := zmk (by rw [zg1, zg1, zee, zrD hc h])
theorem zbO {m : M3} (h : NzM m) : m = cmul (zdH (za6 m)) (zbz m) := by
 have p := fun {n : Int} (hn : n ∈ za6 m) => zf1 h hn
 refine zmk ?_
 rw [zee, zg1]
 unfold zvX
 rw [List.map_map]
 conv => lhs; rw [← List.map_id (za6 m)]
 exact List.map_congr_left fun n hn => p hn
theorem NzM.low {m : M3} (h : NzM m) : NzM (zbz m) := fun e => h (by
 have := zbO h
 rw [this, zee, zcZ (zcy h), e]; simp)
theorem zjp {m : M3} (h : NzM m) : zbz (zbz m) = zbz m := by
 have e := zcs (zcy h) h.low
 rw [← zbO h] at e
 exact e.symm
theorem zrF (c : Int) (m : M3) : det (cmul c m) = c * (c * (c * det m)) := by unfold det cmul tms dot crs; grind
theorem NzM.of_det {m : M3} (h : det m ≠ 0) : NzM m := fun e => h (by
 have z : ∀ n ∈ za6 m, n = 0 := fun n hn => Classical.byContradiction fun hz => zeL hn hz e
 obtain ⟨⟨a, b, c⟩, ⟨d, e, f⟩, ⟨g, i, j⟩⟩ := m
 simp only [za6, List.mem_cons, List.not_mem_nil, or_false, forall_eq_or_imp, forall_eq] at z
 obtain ⟨rfl, rfl, rfl, _⟩ := z
 unfold det dot; simp)
theorem zo0 {m : M3} (h : det m ≠ 0) : det (zbz m) ≠ 0 := fun e => h (by
 have p := zbO (NzM.of_det h)
 rw [p, zrF, e]; simp)
noncomputable def tr (m : M3) : M3 := ((m.1.1, m.2.1.1, m.2.2.1), (m.1.2.1, m.2.1.2.1, m.2.2.2.1), (m.1.2.2, m.2.1.2.2, m.2.2.2.2))
noncomputable def mm (b a : M3) : M3 := (mul (tr a) b.1, mul (tr a) b.2.1, mul (tr a) b.2.2)
noncomputable def adj (m : M3) : M3 := tr (cof m)
noncomputable def I3 : M3 := ((1, 0, 0), (0, 1, 0), (0, 0, 1))
theorem zvY (b a : M3) (p : P3) : mul (mm b a) p = mul b (mul a p) := by
 unfold mul mm tr mul dot
 exact Prod.ext (by grind) (Prod.ext (by grind) (by grind))
theorem zdJ (c : Int) (m : M3) (p : P3) : mul (cmul c m) p = tms c (mul m p) := by
 unfold mul cmul tms dot
 exact Prod.ext (by grind) (Prod.ext (by grind) (by grind))
theorem zg2 (c : Int) (b a : M3) : mm (cmul c b) a = cmul c (mm b a) := by
 unfold mm cmul; rw [zfl, zfl, zfl]
theorem zjq (c : Int) (b a : M3) : mm b (cmul c a) = cmul c (mm b a) := by
 have e : tr (cmul c a) = cmul c (tr a) := rfl
 unfold mm; rw [e, zdJ, zdJ, zdJ]; rfl
theorem ze2 {m m' : M3} (h1 : m.1.1 = m'.1.1) (h2 : m.1.2.1 = m'.1.2.1) (h3 : m.1.2.2 = m'.1.2.2) (h4 : m.2.1.1 = m'.2.1.1) (h5 : m.2.1.2.1 = m'.2.1.2.1) (h6 : m.2.1.2.2 = m'.2.1.2.2) (h7 : m.2.2.1 = m'.2.2.1) (h8 : m.2.2.2.1 = m'.2.2.2.1) (h9 : m.2.2.2.2 = m'.2.2.2.2) : m = m' :=
 Prod.ext (Prod.ext h1 (Prod.ext h2 h3)) (Prod.ext (Prod.ext h4 (Prod.ext h5 h6)) (Prod.ext h7 (Prod.ext h8 h9)))
theorem zst (m : M3) : mm (adj m) m = cmul (det m) I3 := by
 refine ze2 ?_ ?_ ?_ ?_ ?_ ?_ ?_ ?_ ?_ <;> simp only [mm, adj, tr, cof, crs, mul, dot, cmul, tms, I3, det] <;> grind
theorem zsu (m : M3) : mm m (adj m) = cmul (det m) I3 := by
 refine ze2 ?_ ?_ ?_ ?_ ?_ ?_ ?_ ?_ ?_ <;> simp only [mm, adj, tr, cof, crs, mul, dot, cmul, tms, I3, det] <;> grind
theorem zo1 (m : M3) : adj (adj m) = cmul (det m) m := by
 refine ze2 ?_ ?_ ?_ ?_ ?_ ?_ ?_ ?_ ?_ <;> simp only [adj, tr, cof, crs, dot, cmul, tms, det] <;> grind
theorem zml (c : Int) (m : M3) : adj (cmul c m) = cmul (c * c) (adj m) := by
 refine ze2 ?_ ?_ ?_ ?_ ?_ ?_ ?_ ?_ ?_ <;> simp only [adj, tr, cof, crs, cmul, tms] <;> grind
theorem zsv : zbz I3 = I3 := by decide
theorem zt7 : NzM I3 := by decide
theorem zvZ (p : P3) : mul I3 p = p := by unfold mul I3 dot; exact Prod.ext (by simp) (Prod.ext (by simp) (by simp))
theorem zsw {c : Int} (hc : c ≠ 0) : zbz (cmul c I3) = I3 := by rw [zcs hc zt7, zsv]
theorem NzM.adj {m : M3} (h : det m ≠ 0) : NzM (adj m) := fun e => by
 have z : ∀ n ∈ za6 (Mth.adj m), n = 0 := fun n hn => Classical.byContradiction fun hz => zeL hn hz e
 have a := zst m
 have e1 : (mm (Mth.adj m) m).1.1 = (Mth.cmul (det m) I3).1.1 := by rw [a]
 generalize Mth.adj m = b at *
 obtain ⟨⟨b1, b2, b3⟩, ⟨b4, b5, b6⟩, ⟨b7, b8, b9⟩⟩ := b
 simp only [za6, List.mem_cons, List.not_mem_nil, or_false, forall_eq_or_imp, forall_eq] at z
 obtain ⟨rfl, rfl, rfl, _⟩ := z
 simp [mm, mul, dot, Mth.cmul, tms, I3] at e1
 exact h e1.symm
end Mth
end
section
set_option Elab.async false
set_option linter.all false
namespace Mth
theorem zrG {m : M3} (z : ∀ n ∈ za6 m, n = 0) (p : P3) : mul m p = (0, 0, 0) := by
 obtain ⟨⟨a, b, c⟩, ⟨d, e, f⟩, ⟨g, i, j⟩⟩ := m
 simp only [za6, List.mem_cons, List.not_mem_nil, or_false, forall_eq_or_imp, forall_eq] at z
 obtain ⟨rfl, rfl, rfl, rfl, rfl, rfl, rfl, rfl, rfl⟩ := z
 unfold mul dot; simp
theorem NzM.of_mul {m : M3} {p : P3} (h : Nz (mul m p)) : NzM m := fun e => zrz h (zrG (fun n hn => Classical.byContradiction fun hz => zeL hn hz e) p)
theorem NzM.of_cmul {m : M3} {c : Int} (hc : c ≠ 0) (h : NzM (Mth.cmul c m)) : NzM m := fun e => h (by rw [zee, zcZ hc, e]; simp)
theorem zlv {s : Int} {p : P3} (h : Nz (tms s p)) : Nz p := zvW fun e => zrz h (by rw [e]; unfold tms; simp)
theorem zrH {m : M3} {p : P3} (h : Nz (mul m p)) : Nz (mul (zbz m) p) ∧ low (mul (zbz m) p) = low (mul m p) := by
 have hz := NzM.of_mul h
 have e := zbO hz
 have e2 : mul m p = tms (zdH (za6 m)) (mul (zbz m) p) := by rw [← zdJ, ← e]
 have hn : Nz (mul (zbz m) p) := zlv (by rw [← e2]; exact h)
 exact ⟨hn, by rw [e2, zeK (zcy hz) hn]⟩
theorem zrI {m : M3} {p : P3} (hp : Nz p) (h : Nz (mul m p)) : Nz (mul m (low p)) ∧ low (mul m (low p)) = low (mul m p) := by
 have e2 : mul m p = tms (sOf p) (mul m (low p)) := by rw [← zfl, ← zdp hp]
 have hn : Nz (mul m (low p)) := zlv (by rw [← e2]; exact h)
 exact ⟨hn, by rw [e2, zeK (zdu hp).1 hn]⟩
theorem zg3 (p q : P3) : dot p q = dot q p := by unfold dot; grind
structure Back (a k : M3) : Prop where
 two : NzM (mm k a)
 one : zbz (mm k a) = I3
 two' : NzM (mm a k)
 one' : zbz (mm a k) = I3
 nzA : NzM (adj k)
 adj : zbz a = a → zbz (Mth.adj k) = a
 led : ∀ p, Nz p → Nz (mul k (mul a p)) ∧ low (mul k (mul a p)) = low p
theorem zo2 {a : M3} (ha : det a ≠ 0) : Back a (zbz (adj a)) := by
 have nz := NzM.adj ha
 have s0 := zcy nz
 have e := zbO nz
 generalize hk : zbz (adj a) = k at *
 generalize zdH (za6 (adj a)) = s at *
 have e1 : cmul s (mm k a) = cmul (det a) I3 := by rw [← zg2, ← e, zst]
 have e2 : cmul s (mm a k) = cmul (det a) I3 := by rw [← zjq, ← e, zsu]
 have z1 : NzM (mm k a) := NzM.of_cmul s0 (by rw [e1]; exact zt7.cmul ha)
 have z2 : NzM (mm a k) := NzM.of_cmul s0 (by rw [e2]; exact zt7.cmul ha)
 have e3 : cmul (s * s) (adj k) = cmul (det a) a := by rw [← zml, ← e, zo1]
 have z3 : NzM (adj k) := NzM.of_cmul (zby s0 s0) (by rw [e3]; exact (NzM.of_det ha).cmul ha)
 refine ⟨z1, ?_, z2, ?_, z3, fun h => ?_, fun p hp => ?_⟩
 ·rw [← zcs s0 z1, e1, zsw ha]
 ·rw [← zcs s0 z2, e2, zsw ha]
 ·rw [← zcs (zby s0 s0) z3, e3, zcs ha (NzM.of_det ha), h]
 ·have f : tms s (mul k (mul a p)) = tms (det a) p := by
   rw [← zvY, ← zdJ, e1, zdJ, zvZ]
  have hn : Nz (mul k (mul a p)) := zlv (by rw [f]; exact zss ha hp)
  exact ⟨hn, by rw [← zeK s0 hn, f, zeK ha hp]⟩
end Mth
end
section
set_option Elab.async false
set_option linter.all false
namespace Mth
noncomputable def det3 (x y z : P3) : Int := dot x (crs y z)
theorem zlw (m : M3) (x v : P3) : dot (mul m x) (mul (cof m) v) = det m * dot x v := by
 obtain ⟨a, b, c⟩ := m
 have h1 := zx8 (a, b, c) v
 have h2 := zx9 (a, b, c) v
 have h3 := zya (a, b, c) v
 have e : dot (mul (a, b, c) x) (mul (cof (a, b, c)) v) = x.1 * (dot (crs b c) v * a.1 + dot (crs c a) v * b.1 + dot (crs a b) v * c.1) + x.2.1 * (dot (crs b c) v * a.2.1 + dot (crs c a) v * b.2.1 + dot (crs a b) v * c.2.1) + x.2.2 * (dot (crs b c) v * a.2.2 + dot (crs c a) v * b.2.2 + dot (crs a b) v * c.2.2) := by
  show dot (dot a x, dot b x, dot c x) (dot (crs b c) v, dot (crs c a) v, dot (crs a b) v) = _
  generalize dot (crs b c) v = p
  generalize dot (crs c a) v = q
  generalize dot (crs a b) v = r
  unfold dot; grind
 rw [e, ← h1, ← h2, ← h3]
 unfold dot; grind
theorem zdd (m : M3) (x y z : P3) : det3 (mul m x) (mul m y) (mul m z) = det m * det3 x y z := by
 unfold det3
 rw [zt3, zlw]
theorem zcG (a b c : Int) (x y z : P3) : det3 (tms a x) (tms b y) (tms c z) = a * b * c * det3 x y z := by
 unfold det3
 rw [zoY]
 unfold dot tms; grind
structure G4 (a b c d : P3) : Prop where
 d0 : det3 d b c ≠ 0
 d1 : det3 a d c ≠ 0
 d2 : det3 a b d ≠ 0
 d3 : det3 a b c ≠ 0
noncomputable def Sp (a b c d : P3) : M3 := tr (tms (det3 d b c) a, tms (det3 a d c) b, tms (det3 a b d) c)
theorem zo3 (m : M3) : det (tr m) = det m := by unfold det tr dot crs; grind
theorem zv0 (a b c d : P3) : det (Sp a b c d) = det3 d b c * det3 a d c * det3 a b d * det3 a b c := by
 unfold Sp
 rw [zo3]
 show det3 (tms _ a) (tms _ b) (tms _ c) = _
 rw [zcG]
theorem G4.det {a b c d : P3} (h : G4 a b c d) : Mth.det (Sp a b c d) ≠ 0 := by
 rw [zv0]
 exact zby (zby (zby h.d0 h.d1) h.d2) h.d3
theorem zrJ (a b c : M3) : mm (mm a b) c = mm a (mm b c) := by
 have h : ∀ p, mul (tr c) (mul (tr b) p) = mul (tr (mm b c)) p := by
  intro p
  unfold mul mm tr mul dot
  exact Prod.ext (by grind) (Prod.ext (by grind) (by grind))
 unfold mm
 exact Prod.ext (h a.1) (Prod.ext (h a.2.1) (h a.2.2))
theorem mm_I (m : M3) : mm m I3 = m := by
 unfold mm tr I3 mul dot
 exact ze2 (by simp) (by simp) (by simp) (by simp) (by simp) (by simp) (by simp) (by simp) (by simp)
theorem zkl (a b : Int) (m : M3) : cmul a (cmul b m) = cmul (a * b) m := by
 unfold cmul tms
 exact ze2 (by grind) (by grind) (by grind) (by grind) (by grind) (by grind) (by grind) (by grind) (by grind)
theorem zhl {m n : M3} {a b : Int} (ha : a ≠ 0) (hb : b ≠ 0) (h : NzM m) (e : cmul a n = cmul b m) : NzM n ∧ zbz n = zbz m := by
 have hn : NzM n := NzM.of_cmul ha (by rw [e]; exact h.cmul hb)
 exact ⟨hn, by rw [← zcs ha hn, e, zcs hb h]⟩
structure znS (m : M3) (a b c d a' b' c' d' : P3) (s0 s1 s2 s3 : Int) : Prop where
 e0 : mul m a = tms s0 a'
 e1 : mul m b = tms s1 b'
 e2 : mul m c = tms s2 c'
 e3 : mul m d = tms s3 d'
 n0 : s0 ≠ 0
 n1 : s1 ≠ 0
 n2 : s2 ≠ 0
 n3 : s3 ≠ 0
theorem znS.g4 {m : M3} {a b c d a' b' c' d' : P3} {s0 s1 s2 s3 : Int} (L : znS m a b c d a' b' c' d' s0 s1 s2 s3) (hm : Mth.det m ≠ 0) (g : G4 a b c d) : G4 a' b' c' d' := by
 have k0 := zdd m d b c
 have k1 := zdd m a d c
 have k2 := zdd m a b d
 have k3 := zdd m a b c
 rw [L.e1, L.e2, L.e3, zcG] at k0
 rw [L.e0, L.e3, L.e2, zcG] at k1
 rw [L.e0, L.e1, L.e3, zcG] at k2
 rw [L.e0, L.e1, L.e2, zcG] at k3
 exact ⟨fun z => zby hm g.d0 (by rw [← k0, z]; simp), fun z => zby hm g.d1 (by rw [← k1, z]; simp), fun z => zby hm g.d2 (by rw [← k2, z]; simp), fun z => zby hm g.d3 (by rw [← k3, z]; simp)⟩
theorem zyb (m : M3) (u v w : P3) : mm m (tr (u, v, w)) = tr (mul m u, mul m v, mul m w) := by
 unfold mm tr mul dot
 exact ze2 (by grind) (by grind) (by grind) (by grind) (by grind) (by grind) (by grind) (by grind) (by grind)
theorem zo4 (k : Int) (u v w : P3) : cmul k (tr (u, v, w)) = tr (tms k u, tms k v, tms k w) := rfl
theorem zdK (a b : Int) (p : P3) : tms a (tms b p) = tms (a * b) p := by
 unfold tms; exact Prod.ext (by grind) (Prod.ext (by grind) (by grind))
theorem znS.sp {m : M3} {a b c d a' b' c' d' : P3} {s0 s1 s2 s3 : Int} (L : znS m a b c d a' b' c' d' s0 s1 s2 s3) : cmul (s0 * s1 * s2 * s3) (Sp a' b' c' d') = cmul (Mth.det m) (mm m (Sp a b c d)) := by
 have k0 := zdd m d b c
 have k1 := zdd m a d c
 have k2 := zdd m a b d
 rw [L.e1, L.e2, L.e3, zcG] at k0
 rw [L.e0, L.e3, L.e2, zcG] at k1
 rw [L.e0, L.e1, L.e3, zcG] at k2
 unfold Sp
 rw [zyb, zo4, zo4, zfl, zfl, zfl, L.e0, L.e1, L.e2, zdK, zdK, zdK, zdK, zdK, zdK, zdK, zdK, zdK]
 have q0 : s0 * s1 * s2 * s3 * det3 d' b' c' = Mth.det m * (det3 d b c * s0) := by rw [← Int.mul_assoc, ← k0]; grind
 have q1 : s0 * s1 * s2 * s3 * det3 a' d' c' = Mth.det m * (det3 a d c * s1) := by rw [← Int.mul_assoc, ← k1]; grind
 have q2 : s0 * s1 * s2 * s3 * det3 a' b' d' = Mth.det m * (det3 a b d * s2) := by rw [← Int.mul_assoc, ← k2]; grind
 rw [q0, q1, q2, Int.mul_assoc, Int.mul_assoc, Int.mul_assoc]
theorem zlx {m : M3} {a b c d a' b' c' d' : P3} {s0 s1 s2 s3 : Int} (L : znS m a b c d a' b' c' d' s0 s1 s2 s3) (hm : Mth.det m ≠ 0) (g : G4 a b c d) : NzM (mm (Sp a' b' c' d') (adj (Sp a b c d))) ∧ zbz (mm (Sp a' b' c' d') (adj (Sp a b c d))) = zbz m := by
 have hS := g.det
 refine zhl (a := s0 * s1 * s2 * s3) (b := Mth.det m * Mth.det (Sp a b c d)) (zby (zby (zby L.n0 L.n1) L.n2) L.n3) (zby hm hS) (NzM.of_det hm) ?_
 rw [← zg2, L.sp, zg2, zrJ, zsu, zjq, mm_I, zkl]
theorem zt8 {a b : M3} (ha : NzM a) (hb : NzM b) (h : NzM (mm a b)) : NzM (mm (zbz a) (zbz b)) ∧ zbz (mm (zbz a) (zbz b)) = zbz (mm a b) := by
 refine zhl (a := zdH (za6 a) * zdH (za6 b)) (b := 1) (zby (zcy ha) (zcy hb)) (by decide) h ?_
 have e1 := zbO ha
 have e2 := zbO hb
 have : cmul (zdH (za6 a) * zdH (za6 b)) (mm (zbz a) (zbz b)) = mm a b := by
  rw [← zkl, ← zjq, ← e2, ← zg2, ← e1]
 rw [this]
 unfold cmul tms
 exact ze2 (by simp) (by simp) (by simp) (by simp) (by simp) (by simp) (by simp) (by simp) (by simp)
theorem zmm {a : M3} (ha : Mth.det a ≠ 0) : NzM (adj (zbz a)) ∧ zbz (adj (zbz a)) = zbz (adj a) := by
 have hz := NzM.of_det ha
 refine zhl (a := zdH (za6 a) * zdH (za6 a)) (b := 1) (zby (zcy hz) (zcy hz)) (by decide) (NzM.adj ha) ?_
 rw [← zml, ← zbO hz]
 unfold cmul tms
 exact ze2 (by simp) (by simp) (by simp) (by simp) (by simp) (by simp) (by simp) (by simp) (by simp)
theorem btw {S S' : M3} (hS : Mth.det S ≠ 0) (hS' : Mth.det S' ≠ 0) (h : NzM (mm S' (adj S))) : NzM (mm (zbz S') (zbz (adj (zbz S)))) ∧ zbz (mm (zbz S') (zbz (adj (zbz S)))) = zbz (mm S' (adj S)) := by
 obtain ⟨h1, h2⟩ := zmm hS
 have := zt8 (NzM.of_det hS') (NzM.adj hS) h
 rw [h2]
 exact this
end Mth
end
section
set_option Elab.async false
set_option linter.all false
namespace Mth
theorem zt9 (m : M3) : cof (adj m) = cmul (det m) (tr m) := by
 have h : tr (adj (adj m)) = tr (cmul (det m) m) := by rw [zo1]
 exact h
theorem zua (m : M3) : cof (cof m) = cmul (det m) m := by
 have h := zt9 (tr m)
 rw [zo3] at h
 have e : adj (tr m) = cof m := by unfold adj cof tr crs; exact ze2 (by grind) (by grind) (by grind) (by grind) (by grind) (by grind) (by grind) (by grind) (by grind)
 rw [e] at h
 exact h
theorem zub (m : M3) : det (cof m) = det m * det m := by
 have := zlw (cof m) (1, 0, 0) (1, 0, 0)
 rw [zua] at this
 have e : dot (mul (cof m) (1, 0, 0)) (mul (cmul (det m) m) (1, 0, 0)) = det m * det m := by
  rw [zdJ, zg3]
  have t := zlw m (1, 0, 0) (1, 0, 0)
  have u : dot (tms (det m) (mul m (1, 0, 0))) (mul (cof m) (1, 0, 0)) = det m * dot (mul m (1, 0, 0)) (mul (cof m) (1, 0, 0)) := by unfold tms dot; grind
  rw [u, t]; unfold dot; simp
 rw [e] at this
 have d1 : dot ((1, 0, 0) : P3) (1, 0, 0) = 1 := by decide
 rw [d1] at this; omega
theorem zjr {m : M3} {p : P3} (hm : det m ≠ 0) (hp : Nrm p) : Nz (mul (zbz (adj m)) (low (mul m p))) ∧ low (mul (zbz (adj m)) (low (mul m p))) = p := by
 obtain ⟨z, e⟩ := (zo2 hm).led p hp.nz
 obtain ⟨z', e'⟩ := zrI (zge hm hp.nz) z
 exact ⟨z', by rw [e', e, hp.low]⟩
end Mth
end
section
set_option Elab.async false
set_option linter.all false
namespace Mth
noncomputable def C3 (x y z : P3) : Prop := det3 x y z = 0
theorem zyc (x y z : P3) : det3 y x z = - det3 x y z := by unfold det3 dot crs; grind
theorem zyd (x y z : P3) : det3 x z y = - det3 x y z := by unfold det3 dot crs; grind
theorem C3.s12 {x y z : P3} (h : C3 x y z) : C3 y x z := by unfold C3 at *; rw [zyc, h]; rfl
theorem C3.s23 {x y z : P3} (h : C3 x y z) : C3 x z y := by unfold C3 at *; rw [zyd, h]; rfl
theorem C3.rot {x y z : P3} (h : C3 x y z) : C3 z x y := h.s23.s12
theorem C3.aab (x y : P3) : C3 x x y := by unfold C3 det3 dot crs; grind
theorem C3.aba (x y : P3) : C3 x y x := (C3.aab x y).s23
theorem C3.baa (x y : P3) : C3 y x x := (C3.aba x y).s12
theorem zly {u v x y z : P3} (hu : Nrm u) (hv : Nrm v) (ne : u ≠ v) (h1 : C3 x u v) (h2 : C3 y u v) (h3 : C3 z u v) : C3 x y z :=
 zoX (zbG hu hv ne) h1 h2 h3
theorem bent {a b c d e : P3} (na : Nrm a) (nb : Nrm b) (nc : Nrm c) (nd : Nrm d) (ne : Nrm e) (h : ¬ C3 a b c) (hd : C3 a b d) (da : d ≠ a) (db : d ≠ b) (he : C3 b c e) (eb : e ≠ b) (ec : e ≠ c) :
  ¬ C3 a c d ∧ ¬ C3 a c e ∧ ¬ C3 a d e ∧ ¬ C3 c d e := by
 refine ⟨fun q => h ?_, fun q => h ?_, fun q => h ?_, fun q => h ?_⟩
 ·exact zly na nd (fun z => da z.symm) (C3.aab a d) hd.s12 q.s12
 ·exact zly nc ne (fun z => ec z.symm) q he (C3.aab c e)
 ·have e1 : C3 a e b := zly na nd (fun z => da z.symm) (C3.aab a d) q.rot hd.s12
  exact zly ne nb eb e1 (C3.aba b e) he.rot.rot
 ·have e1 : C3 c d b := zly nc ne (fun z => ec z.symm) (C3.aab c e) q.s12 he
  exact zly nd nb db hd.s23 (C3.aba b d) e1
theorem zye {Q : Nat → Nat → Nat → Nat → Prop} {n : Nat} (s1 : ∀ i j k l, Q i j k l → Q j i k l) (s2 : ∀ i j k l, Q i j k l → Q i k j l) (s3 : ∀ i j k l, Q i j k l → Q i j l k)
  (h : ∀ a b c d, a < b → b < c → c < d → d < n → Q a b c d) : ∀ i j k l, i < n → j < n → k < n → l < n → i ≠ j → i ≠ k → i ≠ l → j ≠ k → j ≠ l → k ≠ l → Q i j k l := by
 have t4 : ∀ i j k l, i < n → j < n → k < n → l < n → i < j → j < k → l ≠ i → l ≠ j → l ≠ k → Q i j k l := by
  intro i j k l hi hj hk hl h1 h2 n1 n2 n3
  by_cases a : k < l
  ·exact h _ _ _ _ h1 h2 a hl
  ·by_cases b : j < l
   ·exact s3 _ _ _ _ (h _ _ _ _ h1 b (by omega) hk)
   ·by_cases c : i < l
    ·exact s3 _ _ _ _ (s2 _ _ _ _ (h _ _ _ _ c (by omega) h2 hk))
    ·exact s3 _ _ _ _ (s2 _ _ _ _ (s1 _ _ _ _ (h _ _ _ _ (by omega) h1 h2 hk)))
 have t3 : ∀ i j k l, i < n → j < n → k < n → l < n → i < j → k ≠ i → k ≠ j → l ≠ i → l ≠ j → l ≠ k → Q i j k l := by
  intro i j k l hi hj hk hl h1 a1 a2 n1 n2 n3
  by_cases b : j < k
  ·exact t4 _ _ _ _ hi hj hk hl h1 b n1 n2 n3
  ·by_cases c : i < k
   ·exact s2 _ _ _ _ (t4 _ _ _ _ hi hk hj hl c (by omega) n1 n3 n2)
   ·exact s2 _ _ _ _ (s1 _ _ _ _ (t4 _ _ _ _ hk hi hj hl (by omega) h1 n3 n1 n2))
 intro i j k l hi hj hk hl a b c d e f
 by_cases g : i < j
 ·exact t3 _ _ _ _ hi hj hk hl g (fun z => b z.symm) (fun z => d z.symm) (fun z => c z.symm) (fun z => e z.symm) (fun z => f z.symm)
 ·exact s1 _ _ _ _ (t3 _ _ _ _ hj hi hk hl (by omega) (fun z => d z.symm) (fun z => b z.symm) (fun z => e z.symm) (fun z => c z.symm) (fun z => f z.symm))
theorem zrK {f : Nat → P3} {n : Nat} (hn : ∀ i, i < n → Nrm (f i)) (hne : ∀ i j, i < n → j < n → i ≠ j → f i ≠ f j)
  (h : ∀ a b c d, a < b → b < c → c < d → d < n → C3 (f a) (f b) (f c) ∨ C3 (f a) (f b) (f d) ∨ C3 (f a) (f c) (f d) ∨ C3 (f b) (f c) (f d)) :
  (∀ i j k, i < n → j < n → k < n → C3 (f i) (f j) (f k)) ∨ ∃ m, m < n ∧ ∀ i j k, i < n → j < n → k < n → i ≠ m → j ≠ m → k ≠ m → C3 (f i) (f j) (f k) := by
 have Q := zye (n := n) (Q := fun a b c d => C3 (f a) (f b) (f c) ∨ C3 (f a) (f b) (f d) ∨ C3 (f a) (f c) (f d) ∨ C3 (f b) (f c) (f d))
  (fun i j k l q => by rcases q with q | q | q | q; exact .inl q.s12; exact .inr (.inl q.s12); exact .inr (.inr (.inr q)); exact .inr (.inr (.inl q)))
  (fun i j k l q => by rcases q with q | q | q | q; exact .inl q.s23; exact .inr (.inr (.inl q)); exact .inr (.inl q); exact .inr (.inr (.inr q.s12)))
  (fun i j k l q => by rcases q with q | q | q | q; exact .inr (.inl q); exact .inl q; exact .inr (.inr (.inl q.s23)); exact .inr (.inr (.inr q.s23))) h
 by_cases all : ∀ i j k, i < n → j < n → k < n → C3 (f i) (f j) (f k)
 ·exact .inl all
 right
 obtain ⟨i, j, k, hi, hj, hk, hc⟩ : ∃ i j k, i < n ∧ j < n ∧ k < n ∧ ¬ C3 (f i) (f j) (f k) := by
  apply Classical.byContradiction
  intro z
  apply all
  intro i j k hi hj hk
  apply Classical.byContradiction
  intro y
  exact z ⟨i, j, k, hi, hj, hk, y⟩
 have ij : i ≠ j := fun e => hc (by rw [e]; exact C3.aab _ _)
 have ik : i ≠ k := fun e => hc (by rw [e]; exact C3.aba _ _)
 have jk : j ≠ k := fun e => hc (by rw [e]; exact C3.baa _ _)
 have fin : ∀ i j k, i < n → j < n → k < n → i ≠ j → (∀ l, l < n → l ≠ i → l ≠ j → l ≠ k → C3 (f i) (f j) (f l)) → ∃ m, m < n ∧ ∀ a b c, a < n → b < n → c < n → a ≠ m → b ≠ m → c ≠ m → C3 (f a) (f b) (f c) := by
  intro i j k hi hj hk ij hl
  have on : ∀ a, a < n → a ≠ k → C3 (f a) (f i) (f j) := fun a ha hak => by
   by_cases e1 : a = i
   ·rw [e1]; exact C3.aab _ _
   ·by_cases e2 : a = j
    ·rw [e2]; exact C3.aba _ _
    ·exact (hl a ha e1 e2 hak).rot
  exact ⟨k, hk, fun a b c ha hb hc a1 a2 a3 => zly (hn i hi) (hn j hj) (hne i j hi hj ij) (on a ha a1) (on b hb a2) (on c hc a3)⟩
 have two : ∀ a b c d e, a < n → b < n → c < n → d < n → e < n → a ≠ c → d ≠ a → d ≠ b → d ≠ c → e ≠ a → e ≠ b → e ≠ c → d ≠ e → ¬ C3 (f a) (f b) (f c) → C3 (f a) (f b) (f d) → C3 (f b) (f c) (f e) → False := by
  intro a b c d e ha hb hc hd he ac da db dc ea eb ec de h1 h2 h3
  obtain ⟨q1, q2, q3, q4⟩ := bent (hn a ha) (hn b hb) (hn c hc) (hn d hd) (hn e he) h1 h2 (hne d a hd ha da) (hne d b hd hb db) h3 (hne e b he hb eb) (hne e c he hc ec)
  rcases Q a c d e ha hc hd he ac (fun z => da z.symm) (fun z => ea z.symm) (fun z => dc z.symm) (fun z => ec z.symm) de with z | z | z | z
  ·exact q1 z
  ·exact q2 z
  ·exact q3 z
  ·exact q4 z
 have out : ∀ l, l < n → l ≠ i → l ≠ j → l ≠ k → C3 (f i) (f j) (f l) ∨ C3 (f i) (f k) (f l) ∨ C3 (f j) (f k) (f l) := fun l hl a b c => by
  rcases Q i j k l hi hj hk hl ij ik (fun z => a z.symm) jk (fun z => b z.symm) (fun z => c z.symm) with z | z | z | z
  ·exact (hc z).elim
  ·exact .inl z
  ·exact .inr (.inl z)
  ·exact .inr (.inr z)
 by_cases h1 : ∀ l, l < n → l ≠ i → l ≠ j → l ≠ k → C3 (f i) (f j) (f l)
 ·exact fin i j k hi hj hk ij h1
 by_cases h2 : ∀ l, l < n → l ≠ i → l ≠ k → l ≠ j → C3 (f i) (f k) (f l)
 ·exact fin i k j hi hk hj ik h2
 by_cases h3 : ∀ l, l < n → l ≠ j → l ≠ k → l ≠ i → C3 (f j) (f k) (f l)
 ·exact fin j k i hj hk hi jk h3
 exfalso
 have ex : ∀ {P : Nat → Prop} {a b c : Nat}, ¬ (∀ l, l < n → l ≠ a → l ≠ b → l ≠ c → P l) → ∃ l, l < n ∧ l ≠ a ∧ l ≠ b ∧ l ≠ c ∧ ¬ P l := fun {P a b c} z => by
  apply Classical.byContradiction
  intro y
  apply z
  intro l h1 h2 h3 h4
  apply Classical.byContradiction
  intro w
  exact y ⟨l, h1, h2, h3, h4, w⟩
 obtain ⟨x, hx, x1, x2, x3, nx⟩ := ex h1
 obtain ⟨y, hy, y1, y2, y3, ny⟩ := ex h2
 obtain ⟨z, hz, z1, z2, z3, nz⟩ := ex h3
 have hcc : ¬ C3 (f j) (f i) (f k) := fun q => hc q.s12
 have hck : ¬ C3 (f i) (f k) (f j) := fun q => hc q.s23
 rcases out x hx x1 x2 x3 with q | q | q
 ·exact nx q
 ·
  have xy : x ≠ y := fun e => ny (by rw [← e]; exact q)
  rcases out y hy y1 y3 y2 with r | r | r
  ·
   exact two j i k y x hj hi hk hy hx jk y3 y1 y2 x2 x1 x3 (fun e => xy e.symm) hcc r.s12 q
  ·exact ny r
  ·
   exact two i k j x y hi hk hj hx hy ij x1 x3 x2 y1 y2 y3 xy hck q r.s12
 ·
  have xz : x ≠ z := fun e => nz (by rw [← e]; exact q)
  rcases out z hz z3 z1 z2 with r | r | r
  ·
   exact two i j k z x hi hj hk hz hx ik z3 z1 z2 x1 x2 x3 (fun e => xz e.symm) hc r q
  ·
   exact two i k j z x hi hk hj hz hx ij z3 z2 z1 x1 x3 x2 (fun e => xz e.symm) hck r q.s12
  ·exact nz r
end Mth
end
section
set_option Elab.async false
set_option linter.all false
namespace SetT
open PySem PySem.SetTable
theorem zmn : ∀ (n : Nat) (l : List Nat), (∀ j, j < n → j ∈ l) → n ≤ l.length
 | 0, _, _ => Nat.zero_le _
 | n + 1, l, h => by
  have hn : n ∈ l := h n (Nat.lt_succ_self _)
  have := zmn n (l.erase n) fun j hj => (List.mem_erase_of_ne (by omega)).mpr (h j (by omega))
  rw [List.length_erase_of_mem hn] at this
  have : 0 < l.length := List.length_pos_of_mem hn
  omega
theorem no_has (j : Nat) : has #[] j = false := rfl
theorem ziH {t : SetTable} (hd : t.dummies = #[]) (j : Nat) : t.slot j = .empty ∨ ∃ i, t.slot j = .live i ∧ t.place[i]? = some j := by
 unfold slot
 simp only
 by_cases h : (t.place[below t.place j]? == some j) = true
 ·rw [if_pos h]
  exact .inr ⟨_, rfl, eq_of_beq h⟩
 ·rw [if_neg h, hd, no_has]
  exact .inl rfl
theorem znT {t : SetTable} (hd : t.dummies = #[]) {n : Nat} (hn : t.place.size < n) : ∃ j, j < n ∧ t.slot j = .empty := by
 refine Classical.byContradiction fun h => ?_
 have : n ≤ t.place.toList.length := zmn n _ fun j hj => by
  rcases ziH hd j with e | ⟨i, _, hi⟩
  ·exact absurd ⟨j, hj, e⟩ h
  ·rw [← Array.getElem?_toList] at hi
   exact List.mem_of_getElem? hi
 rw [Array.length_toList] at this
 omega
noncomputable def iter (t : SetTable) : Nat → Probe → Probe
 | 0, p => p
 | k + 1, p => iter t k (t.advance p)
theorem iter_add (t : SetTable) : ∀ (a b : Nat) (p : Probe), iter t (a + b) p = iter t b (iter t a p)
 | 0, b, p => by rw [Nat.zero_add]; rfl
 | a + 1, b, p => by rw [Nat.succ_add]; exact iter_add t a b (t.advance p)
theorem adv_dummy (t : SetTable) (p : Probe) : (t.advance p).dummy = p.dummy := by
 unfold advance; split <;> rfl
theorem go_ok {t : SetTable} (hd : t.dummies = #[]) (hashAt : Nat → Int) (h : Int) : ∀ (k n : Nat) (p : Probe), p.dummy = none → t.slot (iter t k p).j = .empty → k < n →
  (∃ j, SetTable.probe.go t hashAt h n p = some (.empty j none)) ∨ ∃ j i m, m < k ∧ SetTable.probe.go t hashAt h n p = some (.candidate j i (iter t (m + 1) p)) ∧ t.slot j = .live i ∧ t.place[i]? = some j := by
 intro k
 induction k with
 | zero =>
  intro n p hp he hn
  obtain ⟨n, rfl⟩ : ∃ m, n = m + 1 := ⟨n - 1, by omega⟩
  have he : t.slot p.j = .empty := he
  refine .inl ⟨p.j, ?_⟩
  unfold SetTable.probe.go
  rw [he, hp]
 | succ k ih =>
  intro n p hp he hn
  obtain ⟨n, rfl⟩ : ∃ m, n = m + 1 := ⟨n - 1, by omega⟩
  rcases ziH hd p.j with e | ⟨i, e, hi⟩
  ·refine .inl ⟨p.j, ?_⟩
   unfold SetTable.probe.go
   rw [e, hp]
  ·by_cases hh : (hashAt i == h) = true
   ·refine .inr ⟨p.j, i, 0, by omega, ?_, e, hi⟩
    unfold SetTable.probe.go
    rw [e]
    simp only [hh, if_true]
    rfl
   ·rcases ih n (t.advance p) (by rw [adv_dummy]; exact hp) he (by omega) with ⟨j, q⟩ | ⟨j, i', m, hm, q, q2, q3⟩
    ·refine .inl ⟨j, ?_⟩
     unfold SetTable.probe.go
     rw [e]
     simp only [hh, if_false]
     exact q
    ·refine .inr ⟨j, i', m + 1, by omega, ?_, q2, q3⟩
     unfold SetTable.probe.go
     rw [e]
     simp only [hh, if_false]
     exact q
noncomputable def start (mask i perturb : Nat) : Probe := { j := i, more := runEnd mask i - i, i, perturb, dummy := none }
theorem zrL (mask i : Nat) : runEnd mask i - i ≤ 9 := by unfold runEnd; split <;> omega
theorem zsx {t : SetTable} : ∀ (m : Nat) (p : Probe), p.more = m → p.dummy = none → iter t (m + 1) p = start t.mask (leap t.mask p.i p.perturb).1 (leap t.mask p.i p.perturb).2
 | 0, p, hm, hd => by
  show t.advance p = _
  unfold advance start
  rw [if_neg (by omega), hd]
 | m + 1, p, hm, hd => by
  show iter t (m + 1) (t.advance p) = _
  have e : t.advance p = { p with j := p.j + 1, more := p.more - 1 } := by unfold advance; rw [if_pos (by omega)]
  rw [e]
  exact zsx m { p with j := p.j + 1, more := p.more - 1 } (by show p.more - 1 = m; omega) hd
noncomputable def zbk (mask : Nat) : Nat → Nat × Nat → Nat × Nat
 | 0, s => s
 | n + 1, s => zbk mask n (leap mask s.1 s.2)
theorem zfm (mask : Nat) : ∀ (n : Nat) (s : Nat × Nat), zbk mask (n + 1) s = leap mask (zbk mask n s).1 (zbk mask n s).2
 | 0, _ => rfl
 | n + 1, s => zfm mask n (leap mask s.1 s.2)
theorem zhm {t : SetTable} : ∀ (n : Nat) (s : Nat × Nat), ∃ k, k ≤ 10 * n ∧ iter t k (start t.mask s.1 s.2) = start t.mask (zbk t.mask n s).1 (zbk t.mask n s).2
 | 0, s => ⟨0, Nat.le_refl _, rfl⟩
 | n + 1, s => by
  obtain ⟨k, hk, e⟩ := zhm n (leap t.mask s.1 s.2)
  have hr := zsx (t := t) _ (start t.mask s.1 s.2) rfl rfl
  refine ⟨(runEnd t.mask s.1 - s.1 + 1) + k, ?_, ?_⟩
  ·have := zrL t.mask s.1; omega
  ·rw [iter_add]
   have hr : iter t (runEnd t.mask s.1 - s.1 + 1) (start t.mask s.1 s.2) = start t.mask (leap t.mask s.1 s.2).1 (leap t.mask s.1 s.2).2 := hr
   rw [hr]; exact e
theorem ze3 (mask : Nat) : ∀ (n : Nat) (s : Nat × Nat), (zbk mask n s).2 = s.2 / 32 ^ n
 | 0, s => by simp [zbk]
 | n + 1, s => by
  rw [zfm]
  show (zbk mask n s).2 / 32 = _
  rw [ze3 mask n s, Nat.div_div_eq_div_mul, ← Nat.pow_succ]
noncomputable def zv1 (mask : Nat) : Nat → Nat → Nat
 | 0, i => i
 | n + 1, i => zv1 mask n ((i * 5 + 1) % (mask + 1))
theorem zhn (mask : Nat) : ∀ (n i : Nat), zbk mask n (i, 0) = (zv1 mask n i, 0)
 | 0, i => rfl
 | n + 1, i => by
  show zbk mask n (leap mask i 0) = _
  have : leap mask i 0 = ((i * 5 + 1) % (mask + 1), 0) := by unfold leap; simp
  rw [this, zhn mask n]; rfl
theorem ziI (mask : Nat) : ∀ (a b : Nat) (s : Nat × Nat), zbk mask (a + b) s = zbk mask b (zbk mask a s)
 | 0, b, s => by rw [Nat.zero_add]; rfl
 | a + 1, b, s => by rw [Nat.succ_add]; exact ziI mask a b (leap mask s.1 s.2)
theorem all7 : (List.range 8).all (fun i => (List.range 8).all fun j => (List.range 8).any fun n => zv1 7 n i == j) = true := by decide +kernel
theorem zyf : (List.range 32).all (fun i => (List.range 32).all fun j => (List.range 32).any fun n => zv1 31 n i == j) = true := by decide +kernel
theorem zrM {mask : Nat} (hm : mask = 7 ∨ mask = 31) {i j : Nat} (hi : i ≤ mask) (hj : j ≤ mask) : ∃ n, n ≤ mask ∧ zv1 mask n i = j := by
 rcases hm with rfl | rfl
 ·have h := List.all_eq_true.mp (List.all_eq_true.mp all7 i (List.mem_range.mpr (by omega))) j (List.mem_range.mpr (by omega))
  obtain ⟨n, h1, h2⟩ := List.any_eq_true.mp h
  exact ⟨n, by have := List.mem_range.mp h1; omega, eq_of_beq h2⟩
 ·have h := List.all_eq_true.mp (List.all_eq_true.mp zyf i (List.mem_range.mpr (by omega))) j (List.mem_range.mpr (by omega))
  obtain ⟨n, h1, h2⟩ := List.any_eq_true.mp h
  exact ⟨n, by have := List.mem_range.mp h1; omega, eq_of_beq h2⟩
theorem zo5 {mask : Nat} (n : Nat) {s : Nat × Nat} (hs : s.1 ≤ mask) : (zbk mask n s).1 ≤ mask := by
 cases n with
 | zero => exact hs
 | succ n =>
  rw [zfm]
  show (_ % (mask + 1)) ≤ mask
  have := Nat.mod_lt ((zbk mask n s).1 * 5 + 1 + (zbk mask n s).2 / 32) (show 0 < mask + 1 by omega)
  omega
theorem ziJ {mask : Nat} (hm : mask = 7 ∨ mask = 31) {s : Nat × Nat} (hs : s.1 ≤ mask) (hb : s.2 < 2 ^ 64) {j : Nat} (hj : j ≤ mask) : ∃ n, n ≤ mask + 13 ∧ (zbk mask n s).1 = j := by
 have e : (zbk mask 13 s).2 = 0 := by rw [ze3]; exact Nat.div_eq_of_lt (Nat.lt_of_lt_of_le hb (by decide))
 obtain ⟨n, h1, h2⟩ := zrM hm (zo5 13 hs) hj
 refine ⟨13 + n, by omega, ?_⟩
 rw [ziI]
 have : zbk mask 13 s = ((zbk mask 13 s).1, 0) := Prod.ext rfl e
 rw [this, zhn]; exact h2
theorem zo6 (h : Int) : bits h < 2 ^ 64 := by
 unfold bits
 have h1 := Int.emod_nonneg h (show (2 ^ 64 : Int) ≠ 0 by decide)
 have h2 := Int.emod_lt_of_pos h (show (0 : Int) < 2 ^ 64 by decide)
 omega
theorem meets_empty {t : SetTable} (hd : t.dummies = #[]) (hm : t.mask = 7 ∨ t.mask = 31) (hs : t.place.size ≤ t.mask) (h : Int) : ∃ k, k < 10 * turns t.mask ∧ t.slot (iter t k (t.probeStart h)).j = .empty := by
 obtain ⟨j, hj, he⟩ := znT hd (n := t.mask + 1) (by omega)
 have hi : bits h % (t.mask + 1) ≤ t.mask := by have := Nat.mod_lt (bits h) (show 0 < t.mask + 1 by omega); omega
 obtain ⟨n, h1, h2⟩ := ziJ hm (s := (bits h % (t.mask + 1), bits h)) hi (zo6 h) (show j ≤ t.mask by omega)
 obtain ⟨k, hk, e⟩ := zhm (t := t) n (bits h % (t.mask + 1), bits h)
 refine ⟨k, by unfold turns; omega, ?_⟩
 have e : iter t k (t.probeStart h) = _ := e
 rw [e]
 show t.slot (zbk t.mask n (bits h % (t.mask + 1), bits h)).1 = .empty
 rw [h2]; exact he
theorem fm_all {α β : Type} (f : α → Option β) : ∀ l : List α, (∀ a ∈ l, (f a).isSome = true) → (l.filterMap f).length = l.length
 | [], _ => rfl
 | a :: l, h => by
  obtain ⟨b, hb⟩ := Option.isSome_iff_exists.mp (h a List.mem_cons_self)
  rw [List.filterMap_cons_some hb, List.length_cons, List.length_cons, fm_all f l fun x hx => h x (List.mem_cons_of_mem _ hx)]
theorem zjs {β : Type} (f : Nat → Option β) : ∀ l : List Nat, (l.filterMap fun j => (f j).map (j, ·)).length = (l.filterMap f).length
 | [] => rfl
 | a :: l => by
  cases h : f a with
  | none => rw [List.filterMap_cons_none (by rw [h]; rfl), List.filterMap_cons_none h, zjs f l]
  | some b => rw [List.filterMap_cons_some (by rw [h]; rfl), List.filterMap_cons_some h, List.length_cons, List.length_cons, zjs f l]
theorem zmo {β : Type} {f g : Nat → Option β} : ∀ l : List Nat, (∀ x ∈ l, g x = f x) → l.filterMap g = l.filterMap f
 | [], _ => rfl
 | a :: l, h => by
  have ih := zmo l fun x hx => h x (List.mem_cons_of_mem _ hx)
  have ha := h a List.mem_cons_self
  cases e : f a with
  | none => rw [List.filterMap_cons_none e, List.filterMap_cons_none (by rw [ha]; exact e), ih]
  | some b => rw [List.filterMap_cons_some e, List.filterMap_cons_some (by rw [ha]; exact e), ih]
theorem zsy {β : Type} {f g : Nat → Option β} {j : Nat} (hj : f j = none) (hg : (g j).isSome = true) (ho : ∀ i, i ≠ j → g i = f i) : ∀ l : List Nat, l.Nodup → j ∈ l → (l.filterMap g).length = (l.filterMap f).length + 1
 | a :: l, hn, hm => by
  rw [List.nodup_cons] at hn
  by_cases e : a = j
  ·subst e
   obtain ⟨b, hb⟩ := Option.isSome_iff_exists.mp hg
   have same : l.filterMap g = l.filterMap f := zmo l fun x hx => ho x fun z => hn.1 (z ▸ hx)
   rw [List.filterMap_cons_some hb, List.filterMap_cons_none hj, List.length_cons, same]
  ·have hm' : j ∈ l := (List.mem_cons.mp hm).elim (fun z => absurd z.symm e) id
   have ih := zsy hj hg ho l hn.2 hm'
   cases h : f a with
   | none => rw [List.filterMap_cons_none h, List.filterMap_cons_none (by rw [ho a e]; exact h), ih]
   | some b => rw [List.filterMap_cons_some h, List.filterMap_cons_some (by rw [ho a e]; exact h), List.length_cons, List.length_cons, ih]
noncomputable def cnt (n : Nat) (owner : Array (Option Nat)) : Nat := ((List.range n).filterMap fun j => owner.getD j none).length
theorem zrN {n : Nat} {owner : Array (Option Nat)} (h : cnt n owner < n) : ∃ j, j < n ∧ owner.getD j none = none := by
 refine Classical.byContradiction fun q => ?_
 have : cnt n owner = (List.range n).length := fm_all _ _ fun j hj => by
  cases e : owner.getD j none with
  | none => exact absurd ⟨j, List.mem_range.mp hj, e⟩ q
  | some b => rfl
 rw [List.length_range] at this
 omega
theorem zo7 {owner : Array (Option Nat)} {j : Nat} (h : j < owner.size) (a b : Option Nat) : owner.getD j a = owner.getD j b := by
 rw [Array.getD_eq_getD_getElem?, Array.getD_eq_getD_getElem?, Array.getElem?_eq_getElem h]; rfl
theorem zuc {mask : Nat} {owner : Array (Option Nat)} : ∀ (n fuel i perturb : Nat), (owner.getD (zbk mask n (i, perturb)).1 (some 0)).isNone = true → n < fuel → ∃ j, SetTable.layClean.free mask owner fuel i perturb = some j ∧ (owner.getD j (some 0)).isNone = true := by
 intro n
 induction n with
 | zero =>
  intro fuel i perturb h hf
  obtain ⟨f, rfl⟩ : ∃ f, fuel = f + 1 := ⟨fuel - 1, by omega⟩
  unfold SetTable.layClean.free
  cases hx : (List.range (runEnd mask i + 1 - i)).find? fun k => (owner.getD (i + k) (some 0)).isNone with
  | some k => exact ⟨i + k, rfl, List.find?_some (p := fun k => (owner.getD (i + k) (some 0)).isNone) hx⟩
  | none =>
   have := List.find?_eq_none.mp hx 0 (List.mem_range.mpr (by unfold runEnd; split <;> omega))
   exact absurd h this
 | succ n ih =>
  intro fuel i perturb h hf
  obtain ⟨f, rfl⟩ : ∃ f, fuel = f + 1 := ⟨fuel - 1, by omega⟩
  unfold SetTable.layClean.free
  cases hx : (List.range (runEnd mask i + 1 - i)).find? fun k => (owner.getD (i + k) (some 0)).isNone with
  | some k => exact ⟨i + k, rfl, List.find?_some (p := fun k => (owner.getD (i + k) (some 0)).isNone) hx⟩
  | none => exact ih f _ _ h (by omega)
theorem zo8 {mask : Nat} (hm : mask = 7 ∨ mask = 31) : ∀ (hs : List Int) (owner : Array (Option Nat)) (k : Nat), owner.size = mask + 1 → cnt (mask + 1) owner = k → (∀ j v, owner.getD j none = some v → v < k) → k + hs.length ≤ mask + 1 →
  ∃ owner', hs.foldl (fun acc h => do
   let (owner, k) ← acc
   let j ← SetTable.layClean.free mask owner (turns mask) (bits h % (mask + 1)) (bits h)
   pure (owner.setIfInBounds j (some k), k + 1)) (some (owner, k)) = some (owner', k + hs.length) ∧ cnt (mask + 1) owner' = k + hs.length ∧ ∀ j v, owner'.getD j none = some v → v < k + hs.length
 | [], owner, k, _, h2, h3, _ => ⟨owner, rfl, h2, h3⟩
 | h :: hs, owner, k, h1, h2, h3, h4 => by
  rw [List.length_cons] at h4 ⊢
  obtain ⟨j, hj, he⟩ := zrN (n := mask + 1) (owner := owner) (by omega)
  have hi : bits h % (mask + 1) ≤ mask := by have := Nat.mod_lt (bits h) (show 0 < mask + 1 by omega); omega
  obtain ⟨n, q1, q2⟩ := ziJ hm (s := (bits h % (mask + 1), bits h)) hi (zo6 h) (show j ≤ mask by omega)
  obtain ⟨j', f1, f2⟩ := zuc (mask := mask) (owner := owner) n (turns mask) (bits h % (mask + 1)) (bits h) (by rw [q2, zo7 (by omega) (some 0) none, he]; rfl) (by unfold turns; omega)
  have hj' : j' < owner.size := by
   refine Classical.byContradiction fun z => ?_
   rw [Array.getD_eq_getD_getElem?, Array.getElem?_eq_none (by omega)] at f2
   cases f2
  have hn : owner.getD j' none = none := by
   rw [zo7 hj' none (some 0)]
   exact Option.isNone_iff_eq_none.mp f2
  have hset : ∀ i, (owner.setIfInBounds j' (some k)).getD i none = if i = j' then some k else owner.getD i none := by
   intro i
   rw [Array.getD_eq_getD_getElem?, Array.getD_eq_getD_getElem?, Array.getElem?_setIfInBounds]
   by_cases e : i = j'
   ·subst e; rw [if_pos rfl, if_pos rfl, if_pos hj']; rfl
   ·rw [if_neg (Ne.symm e), if_neg e]
  obtain ⟨o', g1, g2, g3⟩ := zo8 hm hs (owner.setIfInBounds j' (some k)) (k + 1) (by rw [Array.size_setIfInBounds]; exact h1) (by
   unfold cnt
   rw [zsy (f := fun j => owner.getD j none) (j := j') hn (by rw [hset, if_pos rfl]; rfl) (fun i hi => by rw [hset, if_neg hi]) _ List.nodup_range (List.mem_range.mpr (by omega))]
   rw [← h2]; rfl) (by
   intro i v hv
   rw [hset] at hv
   by_cases e : i = j'
   ·rw [if_pos e] at hv; cases hv; omega
   ·rw [if_neg e] at hv; have := h3 i v hv; omega) (by omega)
  refine ⟨o', ?_, by rw [g2]; omega, fun i v hv => by have := g3 i v hv; omega⟩
  rw [List.foldl_cons]
  have e1 : (do
   let (owner, k) ← some (owner, k)
   let j ← SetTable.layClean.free mask owner (turns mask) (bits h % (mask + 1)) (bits h)
   pure (owner.setIfInBounds j (some k), k + 1)) = some (owner.setIfInBounds j' (some k), k + 1) := by
   show (SetTable.layClean.free mask owner (turns mask) (bits h % (mask + 1)) (bits h)).bind _ = _
   rw [f1]; rfl
  rw [e1, g1]
  congr 2
  omega
theorem relaid_ok (t : SetTable) (hashes : Array Int) {n : Nat} (hn : hashes.size = n) (h : n ≤ 32) : ∃ t' order, t.relaid hashes 20 = some (t', order) ∧ t'.mask = 31 ∧ t'.dummies = #[] ∧ t'.place.size = n ∧ order.size = n ∧ ∀ k ∈ order.toList, k < n := by
 have e0 : sizeAbove 20 - 1 = 31 := by decide
 obtain ⟨o, g1, g2, g3⟩ := zo8 (mask := 31) (.inr rfl) hashes.toList (Array.replicate 32 none) 0 (by simp) (by decide) (by
  intro j v hv
  rw [Array.getD_eq_getD_getElem?, Array.getElem?_replicate] at hv
  split at hv <;> cases hv) (by rw [Array.length_toList]; omega)
 rw [Nat.zero_add, Array.length_toList, hn] at g2
 have hl : layClean 31 hashes = some o := by
  unfold layClean
  rw [← Array.foldl_toList, g1]; rfl
 unfold relaid
 rw [e0]
 unfold laid
 rw [hl]
 refine ⟨_, _, rfl, rfl, rfl, ?_, ?_, ?_⟩
 ·show (List.toArray _).size = n
  rw [List.size_toArray, List.length_map, zjs, ← g2]; rfl
 ·show (List.toArray _).size = n
  rw [List.size_toArray, List.length_map, zjs, ← g2]; rfl
 ·intro k hk
  rw [List.toList_toArray] at hk
  obtain ⟨⟨j, v⟩, hm, rfl⟩ := List.mem_map.mp hk
  obtain ⟨i, hi, hv⟩ := List.mem_filterMap.mp hm
  cases hx : o.getD i none with
  | none => rw [hx] at hv; cases hv
  | some u =>
   rw [hx] at hv
   have hv : some (i, u) = some (j, v) := hv
   cases hv
   have := g3 _ _ hx
   rw [Nat.zero_add, Array.length_toList, hn] at this
   exact this
end SetT
end
section
set_option Elab.async false
set_option linter.all false
set_option maxRecDepth 100000
namespace DL
open PySem L2
inductive D where
 | non | bl (b : Bool) | int (i : Int) | str (x : Str) | ty (n : String) | cls (c : Str)
 | tup (xs : List D) | lst (xs : List D) | dct (ks : List Key) (vs : List D) | exc (c : Str) (as : List D)
noncomputable instance : Inhabited D := ⟨.non⟩
inductive R (α : Type) where
 | ok (a : α) | err (e : D) | bad
noncomputable def R.bind {α β : Type} : R α → (α → R β) → R β
 | .ok a, k => k a
 | .err e, _ => .err e
 | .bad, _ => .bad
noncomputable def RW {α : Type} (r : R α) (Q : α → Prop) (E : D → Prop) : Prop := match r with
 | .ok a => Q a
 | .err e => E e
 | .bad => False
theorem RW.mono {α : Type} {r : R α} {Q Q' : α → Prop} {E E' : D → Prop} (h : RW r Q E) (hq : ∀ a, r = .ok a → Q a → Q' a) (he : ∀ e, E e → E' e) : RW r Q' E' := by
 cases r with
 | ok a => exact hq a rfl h
 | err e => exact he e h
 | bad => exact h
theorem RW.of_bind {α β : Type} {r : R α} {k : α → R β} {Q : β → Prop} {E : D → Prop} (h : RW (r.bind k) Q E) : RW r (fun a => RW (k a) Q E) E := by
 cases r with
 | ok a => exact h
 | err e => exact h
 | bad => exact h
noncomputable def zde : List Str := ["ChalkError", "NoPlace", "Same", "NoFloor", "Endless", "NoDeed", "NoText", "NoName", "TooMany", "NoChange", "NoFrame", "NoValue", "Unlike", "NoRatio", "NoBow", "NoRow"]
noncomputable def zsz (c d : Str) : Option Bool := bif zde.contains c && zde.contains d then some (c == d || d == "ChalkError") else none
structure zq7 (K : PySem.W.Frag) (mg : Str → Option Value) (c : Str) (C : Addr) : Prop where
 here : mg c = some (.ref C)
 exc : zu7 K C
 isi : ∀ d Dd b, zsz c d = some b → mg d = some (.ref Dd) → PySem.W.kitOne K (.ref C) (.ref Dd) = some b
 val : PySem.W.kitOne K (.ref C) (.type "ValueError") = some true
 ctc : ∀ d Dd, zsz c d = some true → mg d = some (.ref Dd) → PySem.W.exmOne K (.ref C) (.ref Dd) = some true
noncomputable def zo9 (G : Hp) (dct : Option Addr) (vs : List V) : Prop := (dct = none ∧ vs = []) ∨ ∃ dx v, dct = some dx ∧ vs = [v] ∧ G dx = some (.xd [("at", v)])
mutual
noncomputable def Rep (K : PySem.W.Frag) (mg : Str → Option Value) (G : Hp) : D → V → Prop
 | .non, v => v = .non
 | .bl b, v => v = .bl b
 | .int i, v => v = .int i
 | .str x, v => v = .str x
 | .ty n, v => v = .ty n
 | .cls c, v => ∃ C, v = .ref C ∧ mg c = some (.ref C)
 | .tup ds, v => ∃ a vs, v = .ref a ∧ SqT K G a vs ∧ Reps K mg G ds vs
 | .lst ds, v => ∃ a vs, v = .ref a ∧ SqL K G a vs ∧ Reps K mg G ds vs
 | .dct ks ds, v => ∃ a vs, v = .ref a ∧ Rd G a (.dK (ks.zip vs)) ∧ ks.length = vs.length ∧ Reps K mg G ds vs
 | .exc c as, v => ∃ x C dct vs, v = .ref x ∧ G x = some (zvT x C dct) ∧ zq7 K mg c C ∧ zo9 G dct vs ∧ Reps K mg G as vs
noncomputable def Reps (K : PySem.W.Frag) (mg : Str → Option Value) (G : Hp) : List D → List V → Prop
 | [], vs => vs = []
 | d :: ds, vs => ∃ v r, vs = v :: r ∧ Rep K mg G d v ∧ Reps K mg G ds r
end
noncomputable def ExcR (K : PySem.W.Frag) (mg : Str → Option Value) (G : Hp) (e : D) (C : Addr) (dct : Option Addr) : Prop := ∃ c as vs, e = .exc c as ∧ zq7 K mg c C ∧ zo9 G dct vs ∧ Reps K mg G as vs
section
variable {K : PySem.W.Frag} {mg : Str → Option Value} {G G' H H' : Hp}
theorem zaD.sqT {a : Addr} {xs : List V} (e : zaD G G') (h : SqT K G a xs) : SqT K G' a xs := e.tup h
theorem zaD.rd {a : Addr} {u : HO} (e : zaD G G') (h : Rd G a u) : Rd G' a u := by
 rcases h with h | ⟨o, h⟩
 ·exact .inl (e _ _ h)
 ·exact .inr ⟨o, e _ _ h⟩
theorem zo9.mono {dct : Option Addr} {vs : List V} (e : zaD G G') (h : zo9 G dct vs) : zo9 G' dct vs := by
 rcases h with h | ⟨dx, v, h1, h2, h3⟩
 ·exact .inl h
 ·exact .inr ⟨dx, v, h1, h2, e _ _ h3⟩
mutual
theorem Rep.mono (e : zaD G G') : ∀ {d : D} {v : V}, Rep K mg G d v → Rep K mg G' d v
 | .non, _, h => h
 | .bl _, _, h => h
 | .int _, _, h => h
 | .str _, _, h => h
 | .ty _, _, h => h
 | .cls _, _, h => h
 | .tup _, _, ⟨a, vs, h1, h2, h3⟩ => ⟨a, vs, h1, zaD.sqT e h2, Reps.mono e h3⟩
 | .lst _, _, ⟨a, vs, h1, h2, h3⟩ => ⟨a, vs, h1, e.seq h2, Reps.mono e h3⟩
 | .dct _ _, _, ⟨a, vs, h1, h2, h3, h4⟩ => ⟨a, vs, h1, zaD.rd e h2, h3, Reps.mono e h4⟩
 | .exc _ _, _, ⟨x, C, dct, vs, h1, h2, h3, h4, h5⟩ => ⟨x, C, dct, vs, h1, e _ _ h2, h3, h4.mono e, Reps.mono e h5⟩
theorem Reps.mono (e : zaD G G') : ∀ {ds : List D} {vs : List V}, Reps K mg G ds vs → Reps K mg G' ds vs
 | [], _, h => h
 | _ :: _, _, ⟨v, r, h1, h2, h3⟩ => ⟨v, r, h1, Rep.mono e h2, Reps.mono e h3⟩
end
theorem Reps.length : ∀ {ds : List D} {vs : List V}, Reps K mg G ds vs → ds.length = vs.length
 | [], _, h => by cases h; rfl
 | _ :: _, _, ⟨v, r, h1, _, h3⟩ => by cases h1; rw [List.length_cons, List.length_cons, Reps.length h3]
theorem Reps.nil : Reps K mg G [] [] := rfl
theorem Reps.cons {d : D} {v : V} {ds : List D} {vs : List V} (h : Rep K mg G d v) (t : Reps K mg G ds vs) : Reps K mg G (d :: ds) (v :: vs) := ⟨v, vs, rfl, h, t⟩
theorem Reps.append : ∀ {ds es : List D} {vs ws : List V}, Reps K mg G ds vs → Reps K mg G es ws → Reps K mg G (ds ++ es) (vs ++ ws)
 | [], _, _, _, h, t => by cases h; exact t
 | _ :: _, _, _, _, ⟨v, r, h1, h2, h3⟩, t => by cases h1; exact ⟨v, r ++ _, rfl, h2, h3.append t⟩
theorem Reps.get : ∀ {ds : List D} {vs : List V} {i : Nat} {d : D}, Reps K mg G ds vs → ds[i]? = some d → ∃ v, vs[i]? = some v ∧ Rep K mg G d v
 | [], _, _, _, _, e => by simp at e
 | _ :: _, _, 0, _, ⟨v, r, h1, h2, _⟩, e => by simp at e; subst e; subst h1; exact ⟨v, rfl, h2⟩
 | _ :: ds, _, i + 1, d, ⟨v, r, h1, _, h3⟩, e => by
  subst h1
  obtain ⟨w, e1, e2⟩ := Reps.get (i := i) (d := d) h3 (by simpa using e)
  exact ⟨w, by simpa using e1, e2⟩
theorem Reps.set : ∀ {ds : List D} {vs : List V} {d : D} {v : V} (i : Nat), Reps K mg G ds vs → Rep K mg G d v → Reps K mg G (ds.set i d) (vs.set i v)
 | [], _, _, _, _, h, _ => by cases h; exact rfl
 | _ :: _, _, _, _, 0, ⟨_, r, h1, _, h3⟩, h => by subst h1; exact ⟨_, r, rfl, h, h3⟩
 | _ :: _, _, _, _, i + 1, ⟨w, r, h1, h2, h3⟩, h => by subst h1; exact ⟨w, _, rfl, h2, h3.set i h⟩
theorem Reps.drop : ∀ {ds : List D} {vs : List V} (n : Nat), Reps K mg G ds vs → Reps K mg G (ds.drop n) (vs.drop n)
 | _, _, 0, h => h
 | [], _, _ + 1, h => by cases h; exact rfl
 | _ :: _, _, n + 1, ⟨_, _, h1, _, h3⟩ => by subst h1; exact h3.drop n
theorem Reps.take : ∀ {ds : List D} {vs : List V} (n : Nat), Reps K mg G ds vs → Reps K mg G (ds.take n) (vs.take n)
 | _, _, 0, h => by simp only [List.take_zero]; exact rfl
 | [], _, _ + 1, h => by cases h; exact rfl
 | _ :: _, _, n + 1, ⟨v, _, h1, h2, h3⟩ => by subst h1; exact ⟨v, _, rfl, h2, h3.take n⟩
theorem Reps.ints (ns : List Int) : Reps K mg G (ns.map D.int) (ns.map V.int) := by
 induction ns with
 | nil => exact rfl
 | cons n r ih => exact ⟨_, _, rfl, rfl, ih⟩
theorem Reps.of_ints : ∀ {ns : List Int} {vs : List V}, Reps K mg G (ns.map D.int) vs → vs = ns.map V.int
 | [], _, h => h
 | _ :: _, _, ⟨_, _, h1, h2, h3⟩ => by subst h1; cases h2; rw [Reps.of_ints h3]; rfl
theorem Reps.of_bools : ∀ {bs : List Bool} {vs : List V}, Reps K mg G (bs.map D.bl) vs → vs = bs.map V.bl
 | [], _, h => h
 | _ :: _, _, ⟨_, _, h1, h2, h3⟩ => by subst h1; cases h2; rw [Reps.of_bools h3]; rfl
theorem Reps.at {ds : List D} {vs : List V} {i : Int} {d : D} (h : Reps K mg G ds vs) (e : atI ds i = some d) : ∃ v, atI vs i = some v ∧ Rep K mg G d v := by
 unfold atI at e ⊢
 rw [h.length] at e
 cases q : ixN vs.length i with
 | none => rw [q] at e; cases e
 | some j => rw [q] at e; exact h.get e
structure zbH (G H G' H' : Hp) : Prop where
 g : zaD G G'
 h : zaD H H'
 e : zaD G' H'
 c : ∀ a o, H a = some o → G a = none → G' a = none
theorem zbH.refl (e : zaD G H) : zbH G H G H := ⟨zaD.refl _, zaD.refl _, e, fun _ _ _ h => h⟩
theorem zbH.trans {G1 H1 : Hp} (a : zbH G H G1 H1) (b : zbH G1 H1 G' H') : zbH G H G' H' :=
 ⟨a.g.trans b.g, a.h.trans b.h, b.e, fun x o p q => b.c x o (a.h x o p) (a.c x o p q)⟩
theorem zcH {p : Addr} {o : HO} (h : H p = none) : zaD H (upd H p o) := zrr h o
theorem zbH.pub {p : Addr} {o : HO} (e : zaD G H) (h : H p = none) : zbH G H (upd G p o) (upd H p o) := by
 refine ⟨zcH (e.free h), zcH h, fun b u q => ?_, fun a u p1 q1 => ?_⟩
 ·by_cases hb : b = p
  ·subst hb; rw [zav] at q ⊢; exact q
  ·rw [zay hb] at q ⊢; exact e b u q
 ·have hb : a ≠ p := zat p1 h
  rw [zay hb]; exact q1
theorem zbH.hid {p : Addr} {o : HO} (e : zaD G H) (h : H p = none) : zbH G H G (upd H p o) :=
 ⟨zaD.refl _, zcH h, e.trans (zcH h), fun _ _ _ q => q⟩
theorem zbH.heap (e : zaD G H) (h : zaD H H') : zbH G H G H' := ⟨zaD.refl _, h, e.trans h, fun _ _ _ q => q⟩
end
noncomputable abbrev DSt := List (Option D)
structure Ok0 (K : PySem.W.Frag) (mg : Str → Option Value) (σd : DSt) (σ : St) (G H : Hp) : Prop where
 ext : zaD G H
 len : σd.length = σ.length
 val : ∀ (i : Nat) (d : D), σd[i]? = some (some d) → ∃ v, σ[i]? = some (some v) ∧ Rep K mg G d v
section
variable {K : PySem.W.Frag} {mg : Str → Option Value} {G G' H H' : Hp} {σd : DSt} {σ : St}
theorem Ok0.step (o : Ok0 K mg σd σ G H) (s : zbH G H G' H') : Ok0 K mg σd σ G' H' :=
 ⟨s.e, o.len, fun i d q => let ⟨v, h1, h2⟩ := o.val i d q; ⟨v, h1, h2.mono s.g⟩⟩
theorem Ok0.set {i : Nat} {d : D} {v : V} (o : Ok0 K mg σd σ G H) (h : Rep K mg G d v) : Ok0 K mg (σd.set i (some d)) (σ.set i (some v)) G H := by
 refine ⟨o.ext, by simp [o.len], fun j e q => ?_⟩
 by_cases hj : j = i
 ·subst hj
  have hl : j < σd.length := by have := (List.getElem?_eq_some_iff.mp q).1; simpa using this
  rw [List.getElem?_set_self hl] at q
  cases q
  exact ⟨v, by rw [List.getElem?_set_self (by rw [← o.len]; exact hl)], h⟩
 ·rw [List.getElem?_set_ne (Ne.symm hj)] at q ⊢
  exact o.val j e q
theorem Ok0.cons {x : Option D} {y : Option V} (o : Ok0 K mg σd σ G H) (h : ∀ d, x = some d → ∃ v, y = some v ∧ Rep K mg G d v) : Ok0 K mg (x :: σd) (y :: σ) G H := by
 refine ⟨o.ext, by simp [o.len], fun j e q => ?_⟩
 cases j with
 | zero =>
  have q' : x = some e := by simpa using q
  obtain ⟨v, h1, h2⟩ := h e q'
  exact ⟨v, by simp [h1], h2⟩
 | succ j => exact o.val j e (by simpa using q)
theorem Ok0.nones (o : Ok0 K mg σd σ G H) : ∀ k : Nat, Ok0 K mg (List.replicate k none ++ σd) (List.replicate k none ++ σ) G H
 | 0 => o
 | k + 1 => (Ok0.nones o k).cons (x := none) (y := none) (fun d e => by cases e)
end
section
variable (K : PySem.W.Frag) (mg : Str → Option Value) (E : XK)
noncomputable def zaq (Q : VK) (G H : Hp) (d : D) : Prop := ∀ v G' H', zbH G H G' H' → Rep K mg G' d v → Q v H'
noncomputable def zft (Q : Bool → Hp → Prop) (G H : Hp) (b : Bool) : Prop := ∀ G' H', zbH G H G' H' → Q b H'
noncomputable def zmp (Q : List V → Hp → Prop) (G H : Hp) (ds : List D) : Prop := ∀ vs G' H', zbH G H G' H' → Reps K mg G' ds vs → Q vs H'
noncomputable def zef (Q : VK) (G H : Hp) (ds : List D) : Prop := ∀ a vs G' H', zbH G H G' H' → H a = none → H' a = some (.lst vs) → G' a = none → Reps K mg G' ds vs → Q (.ref a) H'
noncomputable def zaN (G H : Hp) (e : D) : Prop := ∀ G' H' C dct, zbH G H G' H' → ExcR K mg G' e C dct → E (.ref C) dct H'
noncomputable def tE (f : DSt → R D) : TE := fun σ H Q => ∃ G σd, Ok0 K mg σd σ G H ∧ RW (f σd) (zaq K mg Q G H) (zaN K mg E G H)
noncomputable def tT (f : DSt → R Bool) : TT := fun σ H Q => ∃ G σd, Ok0 K mg σd σ G H ∧ RW (f σd) (zft Q G H) (zaN K mg E G H)
noncomputable def tAr (f : DSt → R (List D)) : TA := fun σ H Q => ∃ G σd, Ok0 K mg σd σ G H ∧ RW (f σd) (zmp K mg Q G H) (zaN K mg E G H)
noncomputable def tFr (f : DSt → R (List D)) : TE := fun σ H Q => ∃ G σd, Ok0 K mg σd σ G H ∧ RW (f σd) (zef K mg Q G H) (zaN K mg E G H)
end
noncomputable def DE (X : Cx) (E : XK) (e : Expr) (f : DSt → R D) : Prop := PE X e (tE X.K X.mg E f)
noncomputable def DT (X : Cx) (E : XK) (e : Expr) (f : DSt → R Bool) : Prop := PT X e (tT X.K X.mg E f)
noncomputable def DW (X : Cx) (E : XK) (e : Expr) (f : DSt → R Bool) : Prop := PW X e (tT X.K X.mg E f)
noncomputable def DA (X : Cx) (E : XK) (es : List Expr) (f : DSt → R (List D)) : Prop := PA X es (tAr X.K X.mg E f)
noncomputable def DF (X : Cx) (E : XK) (e : Expr) (f : DSt → R (List D)) : Prop := PE X e (tFr X.K X.mg E f)
section
variable {X : Cx} {E : XK} {K : PySem.W.Frag} {mg : Str → Option Value} {G G1 H H1 : Hp}
theorem PE.mono' {e : Expr} {t t' : TE} (h : PE X e t) (m : ∀ σ H Q, t' σ H Q → t σ H Q) : PE X e t' := fun pins s σ H Q I q => h pins s σ H Q I (m σ H Q q)
theorem PT.mono' {e : Expr} {t t' : TT} (h : PT X e t) (m : ∀ σ H Q, t' σ H Q → t σ H Q) : PT X e t' := fun pins s σ H Q I q => h pins s σ H Q I (m σ H Q q)
theorem PW.mono' {e : Expr} {t t' : TT} (h : PW X e t) (m : ∀ σ H Q, t' σ H Q → t σ H Q) : PW X e t' := fun wh pins s σ H Q I q => h wh pins s σ H Q I (m σ H Q q)
theorem PA.mono' {es : List Expr} {t t' : TA} (h : PA X es t) (m : ∀ σ H Q, t' σ H Q → t σ H Q) : PA X es t' := fun pos pins s σ H Q I q => h pos pins s σ H Q I (m σ H Q q)
theorem PS.mono' {st : Stmt} {t t' : TS} (h : PS X st t) (m : ∀ D σ H, t' D σ H → t D σ H) : PS X st t' := fun pins s σ H D I q => h pins s σ H D I (m D σ H q)
theorem PSs.mono' {st : List Stmt} {t t' : TS} (h : PSs X st t) (m : ∀ D σ H, t' D σ H → t D σ H) : PSs X st t' := fun pins s σ H D I q => h pins s σ H D I (m D σ H q)
theorem zaq.step {Q : VK} {d : D} (h : zaq K mg Q G H d) (s : zbH G H G1 H1) : zaq K mg Q G1 H1 d := fun v G' H' s' r => h v G' H' (s.trans s') r
theorem zaN.step {e : D} (h : zaN K mg E G H e) (s : zbH G H G1 H1) : zaN K mg E G1 H1 e := fun G' H' C dct s' r => h G' H' C dct (s.trans s') r
theorem zft.step {Q : Bool → Hp → Prop} {b : Bool} (h : zft Q G H b) (s : zbH G H G1 H1) : zft Q G1 H1 b := fun G' H' s' => h G' H' (s.trans s')
theorem zef.step {Q : VK} {ds : List D} (h : zef K mg Q G H ds) (s : zbH G H G1 H1) : zef K mg Q G1 H1 ds := fun a vs G' H' s' n e g r => h a vs G' H' (s.trans s') (s.h.free n) e g r
theorem zaq.now {Q : VK} {d : D} {v : V} (h : zaq K mg Q G H d) (e : zaD G H) (r : Rep K mg G d v) : Q v H := h v G H (.refl e) r
theorem DF.de {e : Expr} {f : DSt → R (List D)} (h : DF X E e f) : DE X E e (fun σ => (f σ).bind fun ds => .ok (.lst ds)) := by
 refine PE.mono' h fun σ H Q ⟨G, σd, ok, q⟩ => ⟨G, σd, ok, q.of_bind.mono (fun ds _ q => ?_) fun _ z => z⟩
 intro a vs G' H' s n e g r
 have q' : zaq X.K X.mg Q G H (.lst ds) := q
 have sg : zaD G' (upd G' a (.lst vs)) := zcH g
 refine q' (.ref a) (upd G' a (.lst vs)) H' ⟨s.g.trans sg, s.h, fun b u p => ?_, fun b u p1 p2 => ?_⟩ ⟨a, vs, rfl, SqL.of zav, r.mono sg⟩
 ·by_cases hb : b = a
  ·subst hb; rw [zav] at p; cases p; exact e
  ·rw [zay hb] at p; exact s.e b u p
 ·have hb : b ≠ a := zat p1 n
  rw [zay hb]; exact s.c b u p1 p2
noncomputable def zad (i : Nat) : DSt → R D := fun σ => match σ[i]? with
 | some (some d) => .ok d
 | _ => .bad
theorem zv2 (i : Nat) {x : Str} {pos : Pos} (hN : X.N[i]? = some x := by rfl) (hv : Vis X.env.scope x := by first | exact Or.inl rfl | exact Or.inr (Or.inl rfl) | exact Or.inr (Or.inr rfl)) (hd : (x == ("__debug__" : Str)) = false := by decide)
  (hcd : (x == ("__classdict__" : Str)) = false := by decide) : DE X E (.Name x pos) (zad i) := by
 refine PE.mono' (pv i hN hv hd hcd) fun σ H Q ⟨G, σd, ok, q⟩ => ?_
 unfold zad at q
 split at q
 ·rename_i d e
  obtain ⟨v, h1, h2⟩ := ok.val i d e
  exact ⟨v, h1, zaq.now q ok.ext h2⟩
 ·exact q.elim
noncomputable def eC (d : D) : DSt → R D := fun _ => .ok d
theorem zct {i j pos} : DE X E (.Constant (.int i) j pos) (eC (.int i)) := PE.mono' zvk fun _ _ _ ⟨_, _, ok, q⟩ => zaq.now q ok.ext rfl
theorem zho {b j pos} : DE X E (.Constant (.bool b) j pos) (eC (.bl b)) := PE.mono' zxy fun _ _ _ ⟨_, _, ok, q⟩ => zaq.now q ok.ext rfl
theorem zgf {j pos} : DE X E (.Constant .none j pos) (eC .non) := PE.mono' zvl fun _ _ _ ⟨_, _, ok, q⟩ => zaq.now q ok.ext rfl
theorem zpa {x j pos} : DE X E (.Constant (.str x) j pos) (eC (.str x)) := PE.mono' zvm fun _ _ _ ⟨_, _, ok, q⟩ => zaq.now q ok.ext rfl
theorem zud {x : Str} {d : D} {v : V} {u : Value} {pos : Pos} (hm : X.mg x = some u) (r : zbC v u) (rp : ∀ G, Rep X.K X.mg G d v) (hg : Gl X x := by rfl) (hd : (x == ("__debug__" : Str)) = false := by decide) : DE X E (.Name x pos) (eC d) :=
 PE.mono' (ztB hg hm r hd) fun _ _ _ ⟨_, _, ok, q⟩ => zaq.now q ok.ext (rp _)
theorem zpb {x : Str} {n : String} {pos : Pos} (hm : X.mg x = none) (hv : bootBuiltins x = some (.type n) := by rfl) (hg : Gl X x := by rfl) (hn : x ≠ "__name__" := by decide) (hd : (x == ("__debug__" : Str)) = false := by decide) : DE X E (.Name x pos) (eC (.ty n)) :=
 PE.mono' (ztC hg hm hv (v := .ty n) rfl hn hd) fun _ _ _ ⟨_, _, ok, q⟩ => zaq.now q ok.ext rfl
noncomputable def zue {α : Type} : DSt → R α := fun _ => .bad
noncomputable def OpD (K : PySem.W.Frag) (mg : Str → Option Value) (r : R2) (g : D → D → R D) : Prop :=
 ∀ (G H : Hp) (a b : D) (x y : V) (Q : VK), zaD G H → Rep K mg G a x → Rep K mg G b y → RW (g a b) (zaq K mg Q G H) (fun _ => False) → r x y H Q
noncomputable def eOp (g : D → D → R D) (fa fb : DSt → R D) : DSt → R D := fun σ => (fa σ).bind fun x => (fb σ).bind fun y => g x y
theorem zdq {f : DSt → R D} {α : Type} {k : D → R α} {σ : St} {H : Hp} {Q : VK} {P : Hp → Hp → α → Prop} {G : Hp} {σd : DSt}
  (ok : Ok0 K mg σd σ G H) (q : RW ((f σd).bind k) (P G H) (zaN K mg E G H))
  (h : ∀ d v G' H', zbH G H G' H' → Ok0 K mg σd σ G' H' → Rep K mg G' d v → RW (k d) (P G H) (zaN K mg E G' H') → Q v H') : tE K mg E f σ H Q :=
 ⟨G, σd, ok, q.of_bind.mono (fun d _ q v G' H' s r => h d v G' H' s (ok.step s) r (q.mono (fun _ _ z => z) fun e z => z.step s)) fun _ z => z⟩
theorem noX {α : Type} {r : R α} {Q : α → Prop} {E' : D → Prop} (hr : ∀ e, r ≠ .err e) (h : RW r Q E') : RW r Q (fun _ => False) := by
 cases r with
 | ok a => exact h
 | err e => exact absurd rfl (hr e)
 | bad => exact h
noncomputable def zf2 (g : D → D → R D) : Prop := ∀ a b e, g a b ≠ .err e
theorem zmq {r : R2} {g : D → D → R D} (hd : OpD X.K X.mg r g) (hn : zf2 g) {fa fb : DSt → R D} {σ : St} {H : Hp} {Q : VK} (h : tE X.K X.mg E (eOp g fa fb) σ H Q) : tOp r (tE X.K X.mg E fa) (tE X.K X.mg E fb) σ H Q := by
 obtain ⟨G, σd, ok, q⟩ := h
 refine zdq (P := zaq X.K X.mg Q) ok q fun a x G1 H1 s1 ok1 r1 q1 => ?_
 refine zdq (P := fun _ _ => zaq X.K X.mg Q G H) ok1 q1 fun b y G2 H2 s2 ok2 r2 q2 => ?_
 exact hd G2 H2 a b x y Q ok2.ext (r1.mono s2.g) r2 (noX (hn a b) (q2.mono (fun _ _ z => z.step (s1.trans s2)) fun _ z => z))
variable {a b c : Expr} {fa fb fc : DSt → R D} {pos : Pos}
theorem zlz {op : Operator} {r : R2} {g : D → D → R D} (ho : OpR X (binaryOp op) r) (hd : OpD X.K X.mg r g) (hn : zf2 g) (ha : DE X E a fa) (hb : DE X E b fb) : DE X E (.BinOp a op b pos) (eOp g fa fb) :=
 PE.mono' (zxI ho ha hb) fun _ _ _ h => zmq hd hn h
theorem zv3 {op : CmpOp} {r : R2} {g : D → D → R D} (ho : OpR X (compareOp op) r) (hd : OpD X.K X.mg r g) (hn : zf2 g) (ha : DE X E a fa) (hb : DE X E b fb) (hm : behindInMarks op b = false := by first | exact zaM _ (by decide) (by decide) | rfl) : DE X E (.Compare a [op] [b] pos) (eOp g fa fb) :=
 PE.mono' (ztL ho ha hb hm) fun _ _ _ h => zmq hd hn h
noncomputable def asB : D → R Bool
 | .bl b => .ok b
 | _ => .bad
noncomputable def zax (f : DSt → R D) : DSt → R Bool := fun σ => (f σ).bind asB
theorem zjt {t : TE} {f : DSt → R D} (h : ∀ σ H Q, tE X.K X.mg E f σ H Q → t σ H Q) {σ : St} {H : Hp} {Q : Bool → Hp → Prop} (q : tT X.K X.mg E (zax f) σ H Q) : ztM t σ H Q := by
 obtain ⟨G, σd, ok, q⟩ := q
 refine h σ H _ ⟨G, σd, ok, q.of_bind.mono (fun d _ q v G' H' s r => ?_) fun _ z => z⟩
 cases d with
 | bl k => cases r; exact ⟨k, rfl, (show zft Q G H k from q) G' H' s⟩
 | _ => exact (show False from q).elim
theorem zv4 {op : CmpOp} {r : R2} {g : D → D → R D} (ho : OpR X (compareOp op) r) (hd : OpD X.K X.mg r g) (hn : zf2 g) (ha : DE X E a fa) (hb : DE X E b fb) (hm : behindInMarks op b = false := by first | exact zaM _ (by decide) (by decide) | rfl) : DT X E (.Compare a [op] [b] pos) (zax (eOp g fa fb)) :=
 PT.mono' (ztN ho ha hb hm) fun _ _ _ q => zjt (fun _ _ _ h => zmq hd hn h) q
noncomputable def zkm (g g' : D → D → R D) (fa fb fc : DSt → R D) : DSt → R D := fun σ => (fa σ).bind fun x => (fb σ).bind fun y => (g x y).bind fun z => (asB z).bind fun k => bif k then (fc σ).bind fun w => g' y w else .ok (.bl false)
theorem zpc {r r' : R2} {g g' : D → D → R D} (hd : OpD X.K X.mg r g) (hn : zf2 g) (hd' : OpD X.K X.mg r' g') (hn' : zf2 g') {σ : St} {H : Hp} {Q : VK} (h : tE X.K X.mg E (zkm g g' fa fb fc) σ H Q) :
  zsp r r' (tE X.K X.mg E fa) (tE X.K X.mg E fb) (tE X.K X.mg E fc) σ H Q := by
 obtain ⟨G, σd, ok, q⟩ := h
 refine zdq (P := zaq X.K X.mg Q) ok q fun a x G1 H1 s1 ok1 r1 q1 => ?_
 refine zdq (P := fun _ _ => zaq X.K X.mg Q G H) ok1 q1 fun b y G2 H2 s2 ok2 r2 q2 => ?_
 refine hd G2 H2 a b x y _ ok2.ext (r1.mono s2.g) r2 ?_
 have s12 := s1.trans s2
 cases ez : g a b with
 | bad => rw [ez] at q2; exact q2.elim
 | err e => exact absurd ez (hn a b e)
 | ok z =>
  rw [ez] at q2
  intro v G3 H3 s3 r3
  cases z with
  | bl k =>
   cases r3
   have ok3 := ok2.step s3
   have s13 := s12.trans s3
   refine ⟨k, rfl, ?_⟩
   cases k with
   | false =>
    rw [if_neg Bool.false_ne_true]
    have q3 : zaq X.K X.mg Q G H (.bl false) := q2
    exact q3 _ G3 H3 s13 rfl
   | true =>
    rw [if_pos rfl]
    have q3 : RW ((fc σd).bind fun w => g' b w) (zaq X.K X.mg Q G H) (zaN X.K X.mg E G2 H2) := q2
    refine zdq (k := fun w => g' b w) (P := fun _ _ => zaq X.K X.mg Q G H) ok3 (q3.mono (fun _ _ z => z) fun _ z => z.step s3) fun c w G4 H4 s4 ok4 r4 q4 => ?_
    exact hd' G4 H4 b c y w Q ok4.ext (r2.mono (s3.g.trans s4.g)) r4 (noX (hn' b c) (q4.mono (fun _ _ z => z.step (s13.trans s4)) fun _ z => z))
  | _ => exact (show False from q2).elim
theorem zrO {op op' : CmpOp} {r r' : R2} {g g' : D → D → R D} (ho : OpR X (compareOp op) r) (hd : OpD X.K X.mg r g) (hn : zf2 g) (ho' : OpR X (compareOp op') r') (hd' : OpD X.K X.mg r' g') (hn' : zf2 g') (ha : DE X E a fa) (hb : DE X E b fb) (hc : DE X E c fc)
  (hm : lastMarks [op, op'] [b, c] = false := by with_unfolding_all rfl) : DT X E (.Compare a [op, op'] [b, c] pos) (zax (zkm g g' fa fb fc)) :=
 PT.mono' (zrf ho ho' ha hb hc hm) fun _ _ _ q => zjt (fun _ _ _ h => zpc hd hn hd' hn' h) q
theorem zhp {e : Expr} {f : DSt → R D} (h : DE X E e f) (he : ∀ whole, isTrue e X.env whole = (do let v ← whole; standAt e.pos; holding [v] (truthy v)) := by intro _; rfl) : DT X E e (zax f) :=
 PT.mono' (zvn h he) fun σ H Q q => zjt (t := tE X.K X.mg E f) (fun _ _ _ h => h) q
theorem DW.dt {e : Expr} {f : DSt → R Bool} (h : DW X E e f) : DT X E e f := h _
variable {zbs : List Expr} {ga gb : DSt → R Bool}
noncomputable def zxm (fa fb : DSt → R Bool) : DSt → R Bool := fun σ => (fa σ).bind fun k => bif k then fb σ else .ok false
noncomputable def eOr (fa fb : DSt → R Bool) : DSt → R Bool := fun σ => (fa σ).bind fun k => bif k then .ok true else fb σ
noncomputable def zmr (fa : DSt → R Bool) : DSt → R Bool := fun σ => (fa σ).bind fun k => .ok (!k)
theorem zlA {f : DSt → R Bool} {α : Type} {k : Bool → R α} {σ : St} {H : Hp} {Q : Bool → Hp → Prop} {P : α → Prop} {G : Hp} {σd : DSt}
  (ok : Ok0 K mg σd σ G H) (q : RW ((f σd).bind k) P (zaN K mg E G H))
  (h : ∀ b G' H', zbH G H G' H' → Ok0 K mg σd σ G' H' → RW (k b) P (zaN K mg E G' H') → Q b H') : tT K mg E f σ H Q :=
 ⟨G, σd, ok, q.of_bind.mono (fun d _ q G' H' s => h d G' H' s (ok.step s) (q.mono (fun _ _ z => z) fun e z => z.step s)) fun _ z => z⟩
theorem zlB (ha : DT X E a ga) : DW X E (.BoolOp .And [a] pos) ga := ztD ha
theorem zpd (ha : DT X E a ga) : DW X E (.BoolOp .Or [a] pos) ga := zvo ha
theorem zpe (ha : DT X E a ga) (hb : DW X E (.BoolOp .And (b :: zbs) pos) gb) : DW X E (.BoolOp .And (a :: b :: zbs) pos) (zxm ga gb) := by
 refine PW.mono' (zvp ha hb) fun σ H Q ⟨G, σd, ok, q⟩ => ?_
 refine zlA ok q fun k G' H' s ok' q' => ?_
 cases k with
 | true => rw [if_pos rfl]; exact ⟨G', σd, ok', q'.mono (fun _ _ z => z.step s) fun _ z => z⟩
 | false => rw [if_neg Bool.false_ne_true]; exact (show zft Q G H false from q') G' H' s
theorem znU (ha : DT X E a ga) (hb : DW X E (.BoolOp .Or (b :: zbs) pos) gb) : DW X E (.BoolOp .Or (a :: b :: zbs) pos) (eOr ga gb) := by
 refine PW.mono' (zxz ha hb) fun σ H Q ⟨G, σd, ok, q⟩ => ?_
 refine zlA ok q fun k G' H' s ok' q' => ?_
 cases k with
 | true => rw [if_pos rfl]; exact (show zft Q G H true from q') G' H' s
 | false => rw [if_neg Bool.false_ne_true]; exact ⟨G', σd, ok', q'.mono (fun _ _ z => z.step s) fun _ z => z⟩
theorem zgg (ha : DT X E a ga) : DT X E (.UnaryOp .Not a pos) (zmr ga) := by
 refine PT.mono' (zvq ha) fun σ H Q ⟨G, σd, ok, q⟩ => ?_
 exact zlA ok q fun k G' H' s _ q' => (show zft Q G H (!k) from q') G' H' s
noncomputable def zu8 (fa fb : DSt → R D) : DSt → R D := fun σ => (fa σ).bind fun x => (asB x).bind fun k => bif k then fb σ else .ok (.bl false)
noncomputable def vOr (fa fb : DSt → R D) : DSt → R D := fun σ => (fa σ).bind fun x => (asB x).bind fun k => bif k then .ok (.bl true) else fb σ
noncomputable def zyg (fa : DSt → R D) : DSt → R D := fun σ => (fa σ).bind fun x => (asB x).bind fun k => .ok (.bl !k)
theorem zpf {op} {f : DSt → R D} (h : DE X E a f) : DE X E (.BoolOp op [a] pos) f := zvr h
theorem zms (ha : DE X E a fa) (hb : DE X E (.BoolOp .And (b :: zbs) pos) fb) : DE X E (.BoolOp .And (a :: b :: zbs) pos) (zu8 fa fb) := by
 refine PE.mono' (zvs ha hb) fun σ H Q ⟨G, σd, ok, q⟩ => ?_
 refine zdq (P := zaq X.K X.mg Q) ok q fun d v G' H' s ok' r q' => ?_
 cases d with
 | bl k =>
  cases r
  refine ⟨k, rfl, ?_⟩
  cases k with
  | true => rw [if_pos rfl]; exact ⟨G', σd, ok', q'.mono (fun _ _ z => z.step s) fun _ z => z⟩
  | false => rw [if_neg Bool.false_ne_true]; exact (show zaq X.K X.mg Q G H (.bl false) from q') _ G' H' s rfl
 | _ => exact (show False from q').elim
theorem zv5 (ha : DE X E a fa) : DE X E (.UnaryOp .Not a pos) (zyg fa) := by
 refine PE.mono' (zvt ha) fun σ H Q ⟨G, σd, ok, q⟩ => ?_
 refine zdq (P := zaq X.K X.mg Q) ok q fun d v G' H' s ok' r q' => ?_
 cases d with
 | bl k => cases r; exact ⟨k, rfl, (show zaq X.K X.mg Q G H (.bl !k) from q') _ G' H' s rfl⟩
 | _ => exact (show False from q').elim
noncomputable def eIf (c : DSt → R Bool) (fa fb : DSt → R D) : DSt → R D := fun σ => (c σ).bind fun k => bif k then fa σ else fb σ
noncomputable def UnD (K : PySem.W.Frag) (mg : Str → Option Value) (r : V → Hp → VK → Prop) (g : D → R D) : Prop :=
 ∀ (G H : Hp) (a : D) (x : V) (Q : VK), zaD G H → Rep K mg G a x → RW (g a) (zaq K mg Q G H) (fun _ => False) → r x H Q
noncomputable def eUn (g : D → R D) (fa : DSt → R D) : DSt → R D := fun σ => (fa σ).bind g
theorem zyh {op : UnaryOp} {r : V → Hp → VK → Prop} {g : D → R D} (ho : UnR X (unaryOp op) r) (hd : UnD X.K X.mg r g) (hn : ∀ a e, g a ≠ .err e) (ha : DE X E a fa) : DE X E (.UnaryOp op a pos) (eUn g fa) := by
 refine PE.mono' (zxJ ho ha) fun σ H Q ⟨G, σd, ok, q⟩ => ?_
 refine zdq (P := zaq X.K X.mg Q) ok q fun d v G' H' s ok' r q' => ?_
 exact hd G' H' d v Q ok'.ext r (noX (hn d) (q'.mono (fun _ _ z => z.step s) fun _ z => z))
noncomputable def zaf : DSt → R (List D) := fun _ => .ok []
noncomputable def zaa (fa : DSt → R D) (fs : DSt → R (List D)) : DSt → R (List D) := fun σ => (fa σ).bind fun x => (fs σ).bind fun xs => .ok (x :: xs)
variable {es : List Expr} {fs : DSt → R (List D)}
theorem zbP : DA X E [] zaf := PA.mono' zsq fun σ H Q ⟨G, σd, ok, q⟩ => (show zmp X.K X.mg Q G H [] from q) [] G H (.refl ok.ext) Reps.nil
theorem zaJ (ha : DE X E a fa) (hr : DA X E es fs) (hs : starEach (a :: es) X.env = (false, eval a X.env) :: starEach es X.env := by rfl) : DA X E (a :: es) (zaa fa fs) := by
 refine PA.mono' (zoD ha hr hs) fun σ H Q ⟨G, σd, ok, q⟩ => ?_
 refine zdq (P := zmp X.K X.mg Q) ok q fun d v G' H' s ok' r q' => ?_
 refine ⟨G', σd, ok', q'.of_bind.mono (fun ds _ z vs G2 H2 s2 r2 => ?_) fun _ z => z⟩
 exact (show zmp X.K X.mg Q G H (d :: ds) from z) _ G2 H2 (s.trans s2) (Reps.cons (r.mono s2.g) r2)
noncomputable def few (n : Nat) : Bool := decide (n ≤ 1000)
theorem zpg {n : Nat} (h : few n = true) : n ≤ sizeLine := zx1 (of_decide_eq_true h)
noncomputable def zfr (fs : DSt → R (List D)) : DSt → R D := fun σ => (fs σ).bind fun ds => bif few ds.length then .ok (.tup ds) else .bad
theorem zph {α : Type} {k : List D → R α} {σ : St} {H : Hp} {Q : List V → Hp → Prop} {P : α → Prop} {G : Hp} {σd : DSt}
  (ok : Ok0 K mg σd σ G H) (q : RW ((fs σd).bind k) P (zaN K mg E G H))
  (h : ∀ ds vs G' H', zbH G H G' H' → Ok0 K mg σd σ G' H' → Reps K mg G' ds vs → RW (k ds) P (zaN K mg E G' H') → Q vs H') : tAr K mg E fs σ H Q :=
 ⟨G, σd, ok, q.of_bind.mono (fun ds _ q vs G' H' s r => h ds vs G' H' s (ok.step s) r (q.mono (fun _ _ z => z) fun e z => z.step s)) fun _ z => z⟩
theorem zv6 {x1} (h : DA X E es fs) : DE X E (.Tuple es x1 pos) (zfr fs) := by
 refine PE.mono' (zvH h) fun σ H Q ⟨G, σd, ok, q⟩ => ?_
 refine zph (P := zaq X.K X.mg Q G H) ok q fun ds vs G' H' s ok' r q' => ?_
 cases hf : few ds.length with
 | false => rw [hf] at q'; exact (show False from q').elim
 | true =>
  rw [hf] at q'
  have q2 : zaq X.K X.mg Q G H (.tup ds) := q'
  refine ⟨by rw [← r.length]; exact zpg hf, fun p hp => ?_⟩
  have s2 : zbH G' H' (upd G' p (.tup vs)) (upd H' p (.tup vs)) := .pub ok'.ext hp
  exact q2 _ _ _ (s.trans s2) ⟨p, vs, rfl, SqT.of zav, r.mono s2.g⟩
noncomputable def zhq (fs : DSt → R (List D)) : DSt → R (List D) := fun σ => (fs σ).bind fun ds => bif few ds.length then .ok ds else .bad
theorem zv7 (h : DA X E es fs) : DF X E (.List es pos) (zhq fs) := by
 refine PE.mono' (zvI h) fun σ H Q ⟨G, σd, ok, q⟩ => ?_
 refine zph (P := zef X.K X.mg Q G H) ok q fun ds vs G' H' s ok' r q' => ?_
 cases hf : few ds.length with
 | false => rw [hf] at q'; exact (show False from q').elim
 | true =>
  rw [hf] at q'
  have q2 : zef X.K X.mg Q G H ds := q'
  refine ⟨by rw [← r.length]; exact zpg hf, fun p hp => ?_⟩
  exact q2 p vs G' _ (s.trans (.hid ok'.ext hp)) (s.h.free hp) zav (ok'.ext.free hp) r
noncomputable def gIx : D → D → R D
 | .tup xs, .int i => match atI xs i with
  | some d => .ok d
  | none => .bad
 | .lst xs, .int i => match atI xs i with
  | some d => .ok d
  | none => .bad
 | _, _ => .bad
theorem zyi : zf2 gIx := by
 intro a b e h
 cases a <;> cases b <;> simp only [gIx] at h <;> first | exact absurd h (by simp) | (split at h <;> cases h)
theorem zyj : OpD K mg (fun x y H Q => rIxL K x y H Q ∨ rIxT K x y H Q) gIx := by
 intro G H a b x y Q e ra rb q
 cases b with
 | int i =>
  cases rb
  cases a with
  | lst xs =>
   obtain ⟨p, vs, rfl, h1, h2⟩ := ra
   cases ed : atI xs i with
   | none => simp only [gIx, ed] at q; exact q.elim
   | some d =>
    simp only [gIx, ed] at q
    obtain ⟨v, h3, h4⟩ := h2.at ed
    exact .inl ⟨p, vs, i, v, rfl, rfl, e.seq h1, h3, zaq.now q e h4⟩
  | tup xs =>
   obtain ⟨p, vs, rfl, h1, h2⟩ := ra
   cases ed : atI xs i with
   | none => simp only [gIx, ed] at q; exact q.elim
   | some d =>
    simp only [gIx, ed] at q
    obtain ⟨v, h3, h4⟩ := h2.at ed
    exact .inr ⟨p, vs, i, v, rfl, rfl, zaD.sqT e h1, h3, zaq.now q e h4⟩
  | _ => exact (show False from q).elim
 | _ => cases a <;> exact (show False from q).elim
theorem zrP (ha : DE X E a fa) (hb : DE X E b fb) (hs : zoJ b := by intro _ _; rfl) : DE X E (.Subscript a b pos) (eOp gIx fa fb) :=
 PE.mono' (zxS (ztT.or zvN) ha hb hs) fun _ _ _ h => zmq zyj zyi h
end
noncomputable def spD (K : PySem.W.Frag) (mg : Str → Option Value) (m : List D → R D) : Sp := fun vs H Q E => ∃ G ds, zaD G H ∧ Reps K mg G ds vs ∧ RW (m ds) (zaq K mg Q G H) (zaN K mg E G H)
structure zal (P : Program) (w : World) (K : PySem.W.Frag) (mg : Str → Option Value) (base : Heap) (k : Nat) (x : Str) (m : List D → R D) : Prop where
 ex : ∃ (f : Addr) (fd : FuncData) (ps : List Str), ziE P w K mg base (CXe P w) k f fd ps (spD K mg m) ∧ mg x = some (.ref f) ∧ PySem.W.keepIn K (.ref f) = true ∧ zaG K fd ps []
theorem zal.mono {P : Program} {w : World} {K : PySem.W.Frag} {mg : Str → Option Value} {base : Heap} {j k : Nat} {x : Str} {m : List D → R D} (F : zal P w K mg base j x m) (h : j ≤ k) : zal P w K mg base k x m := by
 obtain ⟨f, fd, ps, h1, h2⟩ := F.ex
 exact ⟨f, fd, ps, h1.mono h, h2⟩
structure XC (X : Cx) (E : XK) (k : Nat) : Prop where
 calm : X.calm = true
 room : zhc k X.A
 pass : zj4 (CXe X.prog X.w) X E
noncomputable def zah (m : List D → R D) (fs : DSt → R (List D)) : DSt → R D := fun σ => (fs σ).bind m
noncomputable def zfu (K : PySem.W.Frag) (mg : Str → Option Value) (r : List V → Hp → VK → Prop) (g : List D → R D) : Prop :=
 ∀ (G H : Hp) (ds : List D) (vs : List V) (Q : VK), zaD G H → Reps K mg G ds vs → RW (g ds) (zaq K mg Q G H) (fun _ => False) → r vs H Q
noncomputable def R.noerr {α : Type} : R α → R α
 | .ok a => .ok a
 | _ => .bad
noncomputable def zb0 (g : List D → R D) (fs : DSt → R (List D)) : DSt → R D := fun σ => (fs σ).bind fun ds => (g ds).noerr
theorem zeM {α : Type} {r : R α} {Q : α → Prop} {E' : D → Prop} (h : RW r.noerr Q E') : ∃ a, r = .ok a ∧ Q a := by
 cases r with
 | ok a => exact ⟨a, rfl, h⟩
 | err e => exact (show False from h).elim
 | bad => exact (show False from h).elim
section
variable {X : Cx} {E : XK} {k : Nat} {x : Str} {m : List D → R D} {p pos : Pos} {e : Expr} {es : List Expr} {fs : DSt → R (List D)}
theorem zpi (C : XC X E k) (F : zal X.prog X.w X.K X.mg X.base k x m) (ha : DA X E (e :: es) fs) (hg : Gl X x := by rfl) (hdb : (x == ("__debug__" : Str)) = false := by decide)
  (he : starEach (e :: es) X.env = (false, eval e X.env) :: starEach es X.env := by rfl) (hpl : (backTo pos (starEach es X.env)).any (·.1) = false := by rfl) : DE X E (.Call (.Name x p) (e :: es) [] pos) (zah m fs) := by
 obtain ⟨f, fd, ps, h1, h2, h3, h4⟩ := F.ex
 refine PE.mono' (zoE h1 C.room hg h2 h3 h4 .nil C.pass ha hdb he hpl) fun σ H Q ⟨G, σd, ok, q⟩ => ?_
 refine ⟨G, σd, ok, q.of_bind.mono (fun ds hds z vs G' H' s r => ?_) fun _ z => z⟩
 show spD X.K X.mg m (vs ++ []) H' Q E
 rw [List.append_nil]
 exact ⟨G', ds, s.e, r, z.mono (fun _ _ z => z.step s) fun _ z => z.step s⟩
theorem zgh {id : String} {r : List V → Hp → VK → Prop} {g : List D → R D} (hc : zcF X (.builtin id) r) (hd : zfu X.K X.mg r g) (hm : X.mg x = none) (hv : bootBuiltins x = some (.builtin id)) (ha : DA X E (e :: es) fs) (hg : Gl X x := by rfl) (hn : x ≠ "__name__" := by decide) (hdb : (x == ("__debug__" : Str)) = false := by decide)
  (he : starEach (e :: es) X.env = (false, eval e X.env) :: starEach es X.env := by rfl) (hpl : (backTo pos (starEach es X.env)).any (·.1) = false := by rfl) : DE X E (.Call (.Name x p) (e :: es) [] pos) (zb0 g fs) := by
 refine PE.mono' (zmd hc hg hm hv ha hn hdb he hpl) fun σ H Q ⟨G, σd, ok, q⟩ => ?_
 refine ⟨G, σd, ok, q.of_bind.mono (fun ds _ z vs G' H' s r => ?_) fun _ z => z⟩
 obtain ⟨d, e1, z⟩ := zeM z
 exact hd G' H' ds vs Q s.e r (by rw [e1]; exact z.step s)
theorem zsA {T : String} {r : List V → Hp → VK → Prop} {g : List D → R D} (hc : zcF X (.type T) r) (hd : zfu X.K X.mg r g) (hm : X.mg x = none) (ha : DA X E (e :: es) fs) (hv : bootBuiltins x = some (.type T) := by rfl) (hg : Gl X x := by rfl) (hn : x ≠ "__name__" := by decide) (hdb : (x == ("__debug__" : Str)) = false := by decide)
  (he : starEach (e :: es) X.env = (false, eval e X.env) :: starEach es X.env := by rfl) (hpl : (backTo pos (starEach es X.env)).any (·.1) = false := by rfl) : DE X E (.Call (.Name x p) (e :: es) [] pos) (zb0 g fs) := by
 refine PE.mono' (zhd hc hg hm hv ha hn hdb he hpl) fun σ H Q ⟨G, σd, ok, q⟩ => ?_
 refine ⟨G, σd, ok, q.of_bind.mono (fun ds _ z vs G' H' s r => ?_) fun _ z => z⟩
 obtain ⟨d, e1, z⟩ := zeM z
 exact hd G' H' ds vs Q s.e r (by rw [e1]; exact z.step s)
end
noncomputable def setAll {α : Type} : List (Option α) → List Nat → List α → List (Option α)
 | σ, k :: ks, v :: vs => setAll (σ.set k (some v)) ks vs
 | σ, _, _ => σ
theorem ziK {α : Type} : ∀ (ks : List Nat) (σ : List (Option α)) (vs : List α), (setAll σ ks vs).length = σ.length
 | [], _, _ => by unfold setAll; rfl
 | _ :: _, _, [] => by unfold setAll; rfl
 | _ :: ks, σ, _ :: vs => by unfold setAll; rw [ziK ks]; simp
theorem zkn {α : Type} {j : Nat} : ∀ (ks : List Nat) (σ : List (Option α)) (vs : List α), j ∉ ks → (setAll σ ks vs)[j]? = σ[j]?
 | [], _, _, _ => by unfold setAll; rfl
 | _ :: _, _, [], _ => by unfold setAll; rfl
 | k :: ks, σ, _ :: vs, h => by
  unfold setAll
  rw [zkn ks _ vs fun z => h (List.mem_cons_of_mem _ z), List.getElem?_set_ne (fun z => h (by rw [← z]; exact List.mem_cons_self))]
noncomputable def tG (K : PySem.W.Frag) (mg : Str → Option Value) (ks : List Nat) (gp : D → R (List D)) : TG := fun v σ H Q => ∃ G d, zaD G H ∧ Rep K mg G d v ∧ RW (gp d) (fun us => ∀ ws, Reps K mg G us ws → Q (setAll σ ks ws) H) (fun _ => False)
noncomputable def DG (X : Cx) (tg : Expr) (ks : List Nat) (gp : D → R (List D)) : Prop := PG X tg (tG X.K X.mg ks gp)
noncomputable def zar : D → R (List D) := fun d => .ok [d]
noncomputable def zea (n : Nat) : D → R (List D)
 | .tup ds => bif ds.length == n then .ok ds else .bad
 | .lst ds => bif ds.length == n then .ok ds else .bad
 | _ => .bad
section
variable {X : Cx} {pos : Pos}
theorem PG.mono' {tg : Expr} {t t' : TG} (h : PG X tg t) (m : ∀ v σ H Q, t' v σ H Q → t v σ H Q) : PG X tg t' := fun pins s σ H v u Q I r q => h pins s σ H v u Q I r (m v σ H Q q)
theorem PG.or {tg : Expr} {t t' : TG} (h : PG X tg t) (h' : PG X tg t') : PG X tg (fun v σ H Q => t v σ H Q ∨ t' v σ H Q) := fun pins s σ H v u Q I r q => by
 rcases q with q | q
 ·exact h pins s σ H v u Q I r q
 ·exact h' pins s σ H v u Q I r q
theorem zap (i : Nat) {x : Str} (hN : X.N.Nodup) (hi : X.N[i]? = some x := by rfl) (hx : Loc X.env.scope x := by first | exact Or.inl rfl | exact Or.inr rfl) (hf : X.fn x = true ∨ X.env.scope.names.lookup x = some .local := by first | exact .inl rfl | exact .inr rfl | assumption) : DG X (.Name x pos) [i] zar :=
 PG.mono' (zfk hN hi hx hf) fun v σ H Q ⟨G, d, e, r, q⟩ => by
  have q' := (show ∀ ws, Reps X.K X.mg G [d] ws → Q (setAll σ [i] ws) H from q) [v] (Reps.cons r Reps.nil)
  exact q'
noncomputable def zpj : List Nat → TGs
 | [] => gNil
 | i :: r => zvv (zj0 i) (zpj r)
theorem zhr : ∀ (ks : List Nat) (vs : List V) (σ : St) (H : Hp) (Q : St → Hp → Prop), vs.length = ks.length → Q (setAll σ ks vs) H → zpj ks vs σ H Q
 | [], [], _, _, _, _, q => ⟨rfl, q⟩
 | i :: r, v :: vs, σ, H, Q, hl, q => ⟨v, vs, rfl, zhr r vs _ H Q (by simpa using hl) q⟩
theorem zpk {es : List Expr} {k : Nat} (ks : List Nat) (n : Nat) (hc : X.calm = true) (h : PGs X es (zpj ks)) (hk : ks.length = n := by rfl)
  (hn : (assignEach es X.env).length = n := by rfl) (hst : (assignEach es X.env).findIdx? (·.1) = none := by rfl) : DG X (.Tuple es k pos) ks (zea n) := by
 refine PG.mono' (PG.or (zvw hc h hn hst) (zvS hc h hn hst)) fun v σ H Q ⟨G, d, e, r, q⟩ => ?_
 cases d with
 | tup ds =>
  obtain ⟨a, vs, rfl, h1, h2⟩ := r
  by_cases hd : ds.length = n
  ·have q' : ∀ ws, Reps X.K X.mg G ds ws → Q (setAll σ ks ws) H := by
    simp only [zea, hd, beq_self_eq_true, cond_true] at q; exact q
   exact .inl ⟨a, vs, rfl, zaD.sqT e h1, by rw [← h2.length]; exact hd, zhr ks vs σ H Q (by rw [← h2.length, hd, hk]) (q' vs h2)⟩
  ·have : (ds.length == n) = false := by simpa using hd
   simp only [zea, this, cond_false] at q; exact q.elim
 | lst ds =>
  obtain ⟨a, vs, rfl, h1, h2⟩ := r
  by_cases hd : ds.length = n
  ·have q' : ∀ ws, Reps X.K X.mg G ds ws → Q (setAll σ ks ws) H := by
    simp only [zea, hd, beq_self_eq_true, cond_true] at q; exact q
   exact .inr ⟨a, vs, rfl, e.seq h1, by rw [← h2.length]; exact hd, zhr ks vs σ H Q (by rw [← h2.length, hd, hk]) (q' vs h2)⟩
  ·have : (ds.length == n) = false := by simpa using hd
   simp only [zea, this, cond_false] at q; exact q.elim
 | _ => exact (show False from q).elim
end
theorem Ok0.setAll {K : PySem.W.Frag} {mg : Str → Option Value} {G H : Hp} : ∀ {ks : List Nat} {us : List D} {ws : List V} {σd : DSt} {σ : St}, Ok0 K mg σd σ G H → Reps K mg G us ws → Ok0 K mg (setAll σd ks us) (setAll σ ks ws) G H
 | [], _, _, _, _, o, _ => by unfold DL.setAll; exact o
 | _ :: _, [], _, _, _, o, h => by cases h; unfold DL.setAll; exact o
 | k :: ks, _ :: _, _, _, _, o, ⟨v, r, h1, h2, h3⟩ => by subst h1; unfold DL.setAll; exact Ok0.setAll (o.set h2) h3
structure zhs (K : PySem.W.Frag) (mg : Str → Option Value) (J : It) (G : Hp) (ds : List D) : Prop where
 stop : ∀ H, zaD G H → J.stop ds.length H
 turn : ∀ (H : Hp) (i : Nat) (d : D), zaD G H → ds[i]? = some d → J.go i H ∧ ∀ x H', J.yld i H x H' → ∀ G1, zaD G G1 → zaD G1 H → ∃ G2, zbH G1 H G2 H' ∧ Rep K mg G2 d x
noncomputable def tI (K : PySem.W.Frag) (mg : Str → Option Value) (E : XK) (f : DSt → R (List D)) : TI := fun σ H R => ∃ G σd, Ok0 K mg σd σ G H ∧ RW (f σd) (fun ds => ∀ J G' H', zbH G H G' H' → zhs K mg J G' ds → R J H') (zaN K mg E G H)
noncomputable def DI (X : Cx) (E : XK) (tg iter : Expr) (f : DSt → R (List D)) : Prop := PI X tg iter (tI X.K X.mg E f)
section
variable {X : Cx} {E : XK} {tg : Expr}
theorem PI.mono' {iter : Expr} {t t' : TI} (h : PI X tg iter t) (m : ∀ σ H R, t' σ H R → t σ H R) : PI X tg iter t' := fun pins s σ H R I q => h pins s σ H R I (m σ H R q)
theorem zhs.list {K : PySem.W.Frag} {mg : Str → Option Value} {G : Hp} {a : Addr} {vs : List V} {ds : List D} (h : SqL K G a vs) (r : Reps K mg G ds vs) : zhs K mg (Itl K a) G ds := by
 refine ⟨fun H e => by rw [r.length]; exact (lgo (e.seq h)).1, fun H i d e hd => ?_⟩
 have hi : i < vs.length := by rw [← r.length]; exact (List.getElem?_eq_some_iff.mp hd).1
 obtain ⟨g1, g2⟩ := (lgo (e.seq h)).2 i hi
 refine ⟨g1, fun x H' y G1 e1 e2 => ?_⟩
 obtain ⟨rfl, hx⟩ := g2 x H' y
 obtain ⟨v, h1, h2⟩ := r.get hd
 rw [hx] at h1; cases h1
 exact ⟨G1, .refl e2, h2.mono e1⟩
theorem zhs.tup {K : PySem.W.Frag} {mg : Str → Option Value} {G : Hp} {a : Addr} {vs : List V} {ds : List D} (h : SqT K G a vs) (r : Reps K mg G ds vs) : zhs K mg (Itt K a) G ds := by
 refine ⟨fun H e => by rw [r.length]; exact (tgo (zaD.sqT e h)).1, fun H i d e hd => ?_⟩
 have hi : i < vs.length := by rw [← r.length]; exact (List.getElem?_eq_some_iff.mp hd).1
 obtain ⟨g1, g2⟩ := (tgo (zaD.sqT e h)).2 i hi
 refine ⟨g1, fun x H' y G1 e1 e2 => ?_⟩
 obtain ⟨rfl, hx⟩ := g2 x H' y
 obtain ⟨v, h1, h2⟩ := r.get hd
 rw [hx] at h1; cases h1
 exact ⟨G1, .refl e2, h2.mono e1⟩
noncomputable def zgi (lo : Int) (n : Nat) : List D := (List.range n).map fun (i : Nat) => D.int (lo + (i : Int))
theorem zhs.rng {K : PySem.W.Frag} {mg : Str → Option Value} {G : Hp} (lo : Int) (n : Nat) : zhs K mg (Itr lo n) G (zgi lo n) := by
 have hl : (zgi lo n).length = n := by simp [zgi]
 refine ⟨fun H e => by rw [hl]; exact Nat.le_refl _, fun H i d e hd => ?_⟩
 have hi : i < n := by have := (List.getElem?_eq_some_iff.mp hd).1; omega
 refine ⟨hi, fun x H' y G1 e1 e2 => ?_⟩
 obtain ⟨rfl, rfl⟩ := y
 have : d = .int (lo + (i : Int)) := by simp [zgi, hi] at hd; exact hd.symm
 subst this
 exact ⟨G1, .refl e2, rfl⟩
noncomputable def zpl : D → R (List D)
 | .tup ds => .ok ds
 | .lst ds => .ok ds
 | _ => .bad
noncomputable def zgj (f : DSt → R D) : DSt → R (List D) := fun σ => (f σ).bind zpl
theorem zv8 {l : Expr} {f : DSt → R D} (hl : DE X E l f) : DI X E tg l (zgj f) := by
 have hL : PI X tg l (zvz X.K (tE X.K X.mg E f)) := ztI hl
 have hT : PI X tg l (iTup X.K (tE X.K X.mg E f)) := zvA hl
 intro pins s σ H R I ⟨G, σd, ok, q⟩
 cases hf : f σd with
 | bad => unfold zgj at q; rw [hf] at q; exact (show False from q).elim
 | err e =>
  unfold zgj at q; rw [hf] at q
  refine hL pins s σ H R I ⟨G, σd, ok, ?_⟩
  rw [hf]; exact q
 | ok d =>
  unfold zgj at q; rw [hf] at q
  cases d with
  | lst ds =>
   have q' : ∀ J G' H', zbH G H G' H' → zhs X.K X.mg J G' ds → R J H' := q
   refine hL pins s σ H R I ⟨G, σd, ok, ?_⟩
   rw [hf]
   rintro v G' H' st ⟨a, vs, rfl, h1, h2⟩
   exact ⟨a, rfl, ⟨vs, st.e.seq h1⟩, q' _ G' H' st (.list h1 h2)⟩
  | tup ds =>
   have q' : ∀ J G' H', zbH G H G' H' → zhs X.K X.mg J G' ds → R J H' := q
   refine hT pins s σ H R I ⟨G, σd, ok, ?_⟩
   rw [hf]
   rintro v G' H' st ⟨a, vs, rfl, h1, h2⟩
   exact ⟨a, rfl, ⟨vs, zaD.sqT st.e h1⟩, q' _ G' H' st (.tup h1 h2)⟩
  | _ => exact (show False from q).elim
noncomputable def rOk (i : Int) : Bool := Nat.blt i.natAbs 1073741824
theorem zpm {i : Int} (h : rOk i = true) : -(2 ^ 30) ≤ i ∧ i < 2 ^ 30 := by
 unfold rOk at h
 rw [Nat.blt_eq] at h
 omega
noncomputable def zgk : List D → R (List D)
 | [.int j] => bif rOk j then .ok (zgi 0 j.toNat) else .bad
 | _ => .bad
noncomputable def zlC : List D → R (List D)
 | [.int i, .int j] => bif rOk i && rOk j then .ok (zgi i (j - i).toNat) else .bad
 | _ => .bad
noncomputable def zb1 (g : List D → R (List D)) (fs : DSt → R (List D)) : DSt → R (List D) := fun σ => (fs σ).bind g
variable {fs : DSt → R (List D)} {a b c : Expr} {p pos : Pos}
theorem zpn (hm : X.mg "range" = none) (ha : DA X E [a] fs) (hg : Gl X "range" := by rfl) (hs : starEach [a] X.env = [(false, eval a X.env)] := by rfl) : DI X E tg (.Call (.Name "range" p) [a] [] pos) (zb1 zgk fs) := by
 refine PI.mono' (zow hg hm ha hs) fun σ H R ⟨G, σd, ok, q⟩ => ?_
 refine ⟨G, σd, ok, q.of_bind.mono (fun ds _ z vs G' H' s r => ?_) fun _ z => z⟩
 match ds, z, r with
 | [.int j], z, r =>
  obtain rfl := Reps.of_ints (ns := [j]) r
  cases hj : rOk j with
  | false => simp only [zgk, hj, cond_false] at z; exact z.elim
  | true =>
   simp only [zgk, hj, cond_true] at z
   have := zpm hj
   exact ⟨j, rfl, by omega, by omega, z _ G' H' s (.rng 0 _)⟩
theorem zpo (hm : X.mg "range" = none) (ha : DA X E [a, b] fs) (hg : Gl X "range" := by rfl) (hs : starEach [a, b] X.env = [(false, eval a X.env), (false, eval b X.env)] := by rfl) (hs2 : starEach [b] X.env = [(false, eval b X.env)] := by rfl) :
  DI X E tg (.Call (.Name "range" p) [a, b] [] pos) (zb1 zlC fs) := by
 refine PI.mono' (zox hg hm ha hs hs2) fun σ H R ⟨G, σd, ok, q⟩ => ?_
 refine ⟨G, σd, ok, q.of_bind.mono (fun ds _ z vs G' H' s r => ?_) fun _ z => z⟩
 match ds, z, r with
 | [.int i, .int j], z, r =>
  obtain rfl := Reps.of_ints (ns := [i, j]) r
  cases hj : (rOk i && rOk j) with
  | false => simp only [zlC, hj, cond_false] at z; exact z.elim
  | true =>
   simp only [zlC, hj, cond_true] at z
   rw [Bool.and_eq_true] at hj
   have h1 := zpm hj.1
   have h2 := zpm hj.2
   exact ⟨i, j, rfl, ⟨by omega, by omega, by omega, by omega⟩, z _ G' H' s (.rng i _)⟩
end
noncomputable def lcD (ks : List Nat) (gp : D → R (List D)) (c : DSt → R Bool) (e : DSt → R D) (σ : DSt) : List D → R (List D)
 | [] => .ok []
 | d :: ds => (gp d).bind fun us => (c (setAll σ ks us)).bind fun k => bif k then (e (setAll σ ks us)).bind fun y => (lcD ks gp c e σ ds).bind fun ys => .ok (y :: ys) else lcD ks gp c e σ ds
noncomputable def most (n : Nat) : Bool := decide (n < sizeLine)
noncomputable def eLC (k : Nat) (ks : List Nat) (fi : DSt → R (List D)) (gp : D → R (List D)) (c : DSt → R Bool) (e : DSt → R D) : DSt → R (List D) := fun σ => (fi σ).bind fun ds => bif most ds.length then (lcD ks gp c e (List.replicate k none ++ σ) ds).noerr else .bad
noncomputable def za1 : DSt → R Bool := fun _ => .ok true
noncomputable def DTs (X : Cx) (E : XK) (cs : List Expr) (f : DSt → R Bool) : Prop := PTs X cs (tT X.K X.mg E f)
theorem PTs.mono' {X : Cx} {cs : List Expr} {t t' : TT} (h : PTs X cs t) (m : ∀ σ H Q, t' σ H Q → t σ H Q) : PTs X cs t' := fun pins s σ H Q I q => h pins s σ H Q I (m σ H Q q)
theorem zbi {X : Cx} {E : XK} : DTs X E [] za1 := PTs.mono' ztW fun σ H Q ⟨G, σd, ok, q⟩ => (show zft Q G H true from q) G H (.refl ok.ext)
theorem zf3 {X : Cx} {E : XK} {c : Expr} {f : DSt → R Bool} (h : DT X E c f) : DTs X E [c] f := ztX h
theorem RW.ok_of {α : Type} {r : R α} {a : α} {Q : α → Prop} {E : D → Prop} (e : r = .ok a) (h : Q a) : RW r Q E := by rw [e]; exact h
theorem zju {α β : Type} {r : R α} {k : α → R β} {b : β} (h : r.bind k = .ok b) : ∃ a, r = .ok a ∧ k a = .ok b := by
 cases r with
 | ok a => exact ⟨a, rfl, h⟩
 | err e => cases h
 | bad => cases h
section
variable {X : Cx} {E : XK} {tg elt iter : Expr} {ifs : List Expr} {scope : Scope} {pos : Pos} {NY : List Str} {k : Nat} {ks : List Nat} {fi : DSt → R (List D)} {gp : D → R (List D)} {fc : DSt → R Bool} {fe : DSt → R D}
theorem zko {k : Nat} {ks : List Nat} {σ : St} (h : ks.all (fun i => decide (i < k)) = true) (ws : List V) : ztY (List.replicate k none ++ σ) (setAll (List.replicate k none ++ σ) ks ws) := by
 refine ⟨ziK _ _ _, fun j v e => ?_⟩
 rw [zkn _ _ _ fun hj => ?_]
 ·exact e
 ·have hk : j < k := of_decide_eq_true (List.all_eq_true.mp h j hj)
  rw [List.getElem?_append_left (by simpa using hk), List.getElem?_replicate, if_pos hk] at e
  cases e
theorem zpp {te : TE} {tc : TT} (hk : ks.all (fun i => decide (i < k)) = true) {σ : St} {H : Hp} {Q : VK}
  (h : tFr X.K X.mg E (eLC k ks fi gp fc fe) σ H Q) : tLC k (tI X.K X.mg E fi) (tG X.K X.mg ks gp) (tT X.K X.mg E0 fc) (tE X.K X.mg E0 fe) σ H Q := by
 obtain ⟨G, σd, ok, q⟩ := h
 refine ⟨G, σd, ok, q.of_bind.mono (fun ds _ z J G1 H1 s1 it => ?_) fun _ z => z⟩
 cases hm : most ds.length with
 | false => rw [hm] at z; exact (show False from z).elim
 | true =>
  rw [hm] at z
  obtain ⟨tot, ht, z⟩ := zeM (show RW (lcD ks gp fc fe (List.replicate k none ++ σd) ds).noerr _ _ from z)
  have hlt : ds.length < sizeLine := of_decide_eq_true hm
  have ok1 := ok.step s1
  refine ⟨fun i m ys H' => m = ds.length - i ∧ i ≤ ds.length ∧ ∃ G' yd zbs, zbH G1 H1 G' H' ∧ Reps X.K X.mg G' yd ys ∧ yd.length ≤ i ∧ lcD ks gp fc fe (List.replicate k none ++ σd) (ds.drop i) = .ok zbs ∧ tot = yd ++ zbs,
   ⟨ds.length, by simp, Nat.zero_le _, G1, [], tot, .refl ok1.ext, Reps.nil, Nat.zero_le _, ht, rfl⟩, ?_⟩
  rintro i m ys H' ⟨rfl, hi, G', yd, zbs, s, r, hyl, hr, rfl⟩
  refine ⟨by rw [← r.length]; omega, ?_⟩
  by_cases hlt2 : i < ds.length
  ·right
   obtain ⟨d, hd⟩ : ∃ d, ds[i]? = some d := ⟨ds[i], by simp [hlt2]⟩
   obtain ⟨g1, g2⟩ := it.turn H' i d (s.g.trans s.e) hd
   have hdrop : ds.drop i = d :: ds.drop (i + 1) := by
    rw [List.drop_eq_getElem_cons hlt2]
    congr 1
    exact Option.some.inj ((List.getElem?_eq_getElem hlt2).symm.trans hd)
   rw [hdrop] at hr
   refine ⟨g1, fun ys' H'' => ∃ G' yd zbs, zbH G1 H1 G' H'' ∧ Reps X.K X.mg G' yd ys' ∧ yd.length ≤ i + 1 ∧ lcD ks gp fc fe (List.replicate k none ++ σd) (ds.drop (i + 1)) = .ok zbs ∧ _ = yd ++ zbs, fun ys' H'' h => ⟨ds.length - (i + 1), by omega, rfl, hlt2, h⟩, fun v H'' hy => ?_⟩
   obtain ⟨G2, s2, rv⟩ := g2 v H'' hy G' s.g s.e
   unfold lcD at hr
   obtain ⟨us, e1, hr⟩ := zju hr
   obtain ⟨kk, e2, hr⟩ := zju hr
   have s12 := s.trans s2
   have okN : Ok0 X.K X.mg (List.replicate k none ++ σd) (List.replicate k none ++ σ) G2 H'' := (ok1.step s12).nones k
   refine ⟨G2, d, s2.e, rv, RW.ok_of e1 fun ws rws => ⟨zko hk ws, ?_⟩⟩
   have okS := okN.setAll (ks := ks) rws
   refine ⟨G2, _, okS, RW.ok_of e2 fun G3 H3 s3 => ?_⟩
   cases kk with
   | false =>
    rw [if_neg Bool.false_ne_true]
    exact ⟨G3, yd, zbs, s12.trans s3, r.mono (s2.g.trans s3.g), by omega, hr, rfl⟩
   | true =>
    rw [if_pos rfl]
    obtain ⟨y, e3, hr⟩ := zju (show (fe (setAll (List.replicate k none ++ σd) ks us)).bind _ = _ from hr)
    obtain ⟨ys2, e4, hr⟩ := zju hr
    cases hr
    refine ⟨G3, _, okS.step s3, RW.ok_of e3 fun w G4 H4 s4 r4 => ?_⟩
    exact ⟨G4, yd ++ [y], ys2, (s12.trans s3).trans s4, (r.mono ((s2.g.trans s3.g).trans s4.g)).append (Reps.cons r4 Reps.nil), by simp; omega, e4, by simp⟩
  ·left
   have hi2 : i = ds.length := by omega
   subst hi2
   refine ⟨it.stop H' (s.g.trans s.e), fun Dd hD => ?_⟩
   rw [List.drop_length] at hr
   have hre : zbs = [] := by unfold lcD at hr; cases hr; rfl
   subst hre
   rw [List.append_nil] at z
   have st := (s1.trans s)
   exact z Dd ys G' _ (st.trans (.hid st.e hD)) (st.h.free hD) zav (st.e.free hD) r
theorem zeg (C : X.calm = true) (lc : LC X k scope NY) (hk : ks.all (fun i => decide (i < k)) = true) (hi : DI X E tg iter fi)
  (hb : ∀ (s₀ : Shared) (H₀ : Hp) (C : Addr) (ex : List Addr), NY.Nodup → DG (zec X scope NY s₀ H₀ C ex) tg ks gp ∧ DTs (zec X scope NY s₀ H₀ C ex) E0 ifs fc ∧ DE (zec X scope NY s₀ H₀ C ex) E0 elt fe)
  (hs : ∀ x, foldedSetIterable iter X.env x = pure x := by intro _; rfl) : DF X E (.ListComp elt [⟨tg, iter, ifs, 0⟩] scope pos) (eLC k ks fi gp fc fe) :=
 PE.mono' (zxZ (g := tG X.K X.mg ks gp) (tc := tT X.K X.mg E0 fc) (te := tE X.K X.mg E0 fe) C lc hi (fun s0 H0 Ca ex nd => hb s0 H0 Ca ex nd) hs) fun _ _ _ h => zpp (te := tE X.K X.mg E0 fe) (tc := tT X.K X.mg E0 fc) hk h
end
end DL
end
section
set_option Elab.async false
set_option linter.all false
set_option maxRecDepth 100000
namespace DL
open PySem L2
mutual
noncomputable def imm : D → Bool
 | .lst _ => false
 | .dct _ _ => false
 | .tup ds => imms ds
 | .exc _ as => imms as
 | .non => true
 | .bl _ => true
 | .int _ => true
 | .str _ => true
 | .ty _ => true
 | .cls _ => true
noncomputable def imms : List D → Bool
 | [] => true
 | d :: ds => imm d && imms ds
end
noncomputable def zpq (G G' : Hp) : Prop := ∀ a o, G a = some o → (∀ xs, o ≠ .lst xs) → G' a = some o
section
variable {K : PySem.W.Frag} {mg : Str → Option Value} {G G' H H' H0 : Hp}
theorem zpq.sqT {a : Addr} {xs : List V} (e : zpq G G') (h : SqT K G a xs) : SqT K G' a xs := by
 rcases h with (h | ⟨o, h⟩) | h
 ·exact .inl (.inl (e _ _ h fun xs z => by cases z))
 ·exact .inl (.inr ⟨o, e _ _ h fun xs z => by cases z⟩)
 ·exact .inr h
mutual
theorem Rep.imm (e : zpq G G') : ∀ {d : D} {v : V}, imm d = true → Rep K mg G d v → Rep K mg G' d v
 | .non, _, _, h => h
 | .bl _, _, _, h => h
 | .int _, _, _, h => h
 | .str _, _, _, h => h
 | .ty _, _, _, h => h
 | .cls _, _, _, h => h
 | .tup _, _, i, ⟨a, vs, h1, h2, h3⟩ => ⟨a, vs, h1, e.sqT h2, Reps.imm e (by unfold DL.imm at i; exact i) h3⟩
 | .lst _, _, i, _ => by unfold DL.imm at i; cases i
 | .dct _ _, _, i, _ => by unfold DL.imm at i; cases i
 | .exc _ _, _, i, ⟨x, C, dct, vs, h1, h2, h3, h4, h5⟩ => ⟨x, C, dct, vs, h1, e _ _ h2 fun xs z => (by unfold zvT at z; cases z), h3, by
   rcases h4 with h | ⟨dx, v, q1, q2, q3⟩
   ·exact .inl h
   ·exact .inr ⟨dx, v, q1, q2, e _ _ q3 fun xs z => by cases z⟩, Reps.imm e (by unfold DL.imm at i; exact i) h5⟩
theorem Reps.imm (e : zpq G G') : ∀ {ds : List D} {vs : List V}, imms ds = true → Reps K mg G ds vs → Reps K mg G' ds vs
 | [], _, _, h => h
 | _ :: _, _, i, ⟨v, r, h1, h2, h3⟩ => by
  unfold imms at i
  rw [Bool.and_eq_true] at i
  exact ⟨v, r, h1, Rep.imm e i.1 h2, Reps.imm e i.2 h3⟩
end
end
structure Ok (K : PySem.W.Frag) (mg : Str → Option Value) (H0 : Hp) (own : List Nat) (σd : DSt) (σ : St) (G H : Hp) : Prop where
 ext : zaD G H
 len : σd.length = σ.length
 val : ∀ (i : Nat) (d : D), i ∉ own → σd[i]? = some (some d) → ∃ v, σ[i]? = some (some v) ∧ Rep K mg G d v
 mine : ∀ (i : Nat) (d : D), i ∈ own → σd[i]? = some (some d) → ∃ a ds vs, σ[i]? = some (some (.ref a)) ∧ d = .lst ds ∧ H a = some (.lst vs) ∧ G a = none ∧ H0 a = none ∧ Reps K mg G ds vs
 dj : ∀ (i j : Nat) (a : Addr) (d d' : D), i ∈ own → j ∈ own → σd[i]? = some (some d) → σd[j]? = some (some d') → σ[i]? = some (some (.ref a)) → σ[j]? = some (some (.ref a)) → i = j
noncomputable def zgU (own : List Nat) : Nat → DSt → DSt
 | _, [] => []
 | i, d :: ds => (bif own.contains i then none else d) :: zgU own (i + 1) ds
noncomputable def mask (own : List Nat) (σ : DSt) : DSt := zgU own 0 σ
theorem zkp {own : List Nat} : ∀ (σ : DSt) (k i : Nat) (d : D), (zgU own k σ)[i]? = some (some d) → k + i ∉ own ∧ σ[i]? = some (some d)
 | [], _, _, _, h => by unfold zgU at h; simp at h
 | x :: σ, k, 0, d, h => by
  unfold zgU at h
  simp only [List.getElem?_cons_zero, Option.some.injEq] at h
  cases hc : own.contains k with
  | true => rw [hc] at h; cases h
  | false =>
   rw [hc] at h
   have h' : x = some d := h
   subst h'
   exact ⟨by simpa using hc, rfl⟩
 | x :: σ, k, i + 1, d, h => by
  unfold zgU at h
  have := zkp σ (k + 1) i d (by simpa using h)
  rw [show k + (i + 1) = k + 1 + i by omega]
  exact ⟨this.1, by simpa using this.2⟩
theorem zkq {own : List Nat} : ∀ (σ : DSt) (k : Nat), (zgU own k σ).length = σ.length
 | [], _ => rfl
 | _ :: σ, k => by unfold zgU; simp [zkq σ]
noncomputable def zrQ (own : List Nat) (σd : DSt) (σ : St) (b : Addr) : Prop := ∃ i d, i ∈ own ∧ σd[i]? = some (some d) ∧ σ[i]? = some (some (.ref b))
open Classical in
noncomputable def zon (own : List Nat) (σd : DSt) (σ : St) (G H : Hp) : Hp := fun b => if zrQ own σd σ b then H b else G b
open Classical in
noncomputable def znV (own : List Nat) (σd : DSt) (σ : St) (G : Hp) : Hp := fun b => if zrQ own σd σ b then none else G b
section
variable {K : PySem.W.Frag} {mg : Str → Option Value} {G G' G0 H H' H0 : Hp} {own : List Nat} {σd : DSt} {σ : St}
theorem Ok.masked (o : Ok K mg H0 own σd σ G H) : Ok0 K mg (mask own σd) σ G H :=
 ⟨o.ext, by unfold mask; rw [zkq]; exact o.len, fun i d h => by
  have := zkp σd 0 i d h
  rw [Nat.zero_add] at this
  exact o.val i d this.1 this.2⟩
theorem Ok.zero (o : Ok0 K mg σd σ G H) : Ok K mg H0 [] σd σ G H :=
 ⟨o.ext, o.len, fun i d _ h => o.val i d h, fun i d h => absurd h (by simp), fun i j a d d' h => absurd h (by simp)⟩
theorem Ok.step (o : Ok K mg H0 own σd σ G H) (s : zbH G H G' H') : Ok K mg H0 own σd σ G' H' :=
 ⟨s.e, o.len, fun i d hi h => let ⟨v, h1, h2⟩ := o.val i d hi h; ⟨v, h1, h2.mono s.g⟩, fun i d hi h => by
  obtain ⟨a, ds, vs, h1, h2, h3, h4, h5, h6⟩ := o.mine i d hi h
  exact ⟨a, ds, vs, h1, h2, s.h _ _ h3, s.c _ _ h3 h4, h5, h6.mono s.g⟩, o.dj⟩
theorem Ok.notOwn (o : Ok K mg H0 own σd σ G H) {b : Addr} {u : HO} (h : G b = some u) : ¬ zrQ own σd σ b := by
 rintro ⟨i, d, h1, h2, h3⟩
 obtain ⟨a, ds, vs, q1, q2, q3, q4, _⟩ := o.mine i d h1 h2
 rw [q1] at h3
 cases h3
 rw [q4] at h; cases h
theorem Ok.ownLst (o : Ok K mg H0 own σd σ G H) {b : Addr} (h : zrQ own σd σ b) : (∃ vs, H b = some (.lst vs)) ∧ G b = none ∧ H0 b = none := by
 obtain ⟨i, d, h1, h2, h3⟩ := h
 obtain ⟨a, ds, vs, q1, q2, q3, q4, q5, _⟩ := o.mine i d h1 h2
 rw [q1] at h3
 cases h3
 exact ⟨⟨vs, q3⟩, q4, q5⟩
theorem Ok.pub (o : Ok K mg H0 own σd σ G H) : Ok0 K mg σd σ (zon own σd σ G H) H ∧ zaD G (zon own σd σ G H) := by
 have sg : zaD G (zon own σd σ G H) := fun b u h => by unfold zon; rw [if_neg (o.notOwn h)]; exact h
 refine ⟨⟨fun b u h => ?_, o.len, fun i d h => ?_⟩, sg⟩
 ·unfold zon at h
  split at h
  ·exact h
  ·exact o.ext b u h
 ·by_cases hi : i ∈ own
  ·obtain ⟨a, ds, vs, q1, rfl, q3, q4, q5, q6⟩ := o.mine i d hi h
   refine ⟨_, q1, a, vs, rfl, SqL.of ?_, q6.mono sg⟩
   unfold zon
   rw [if_pos ⟨i, _, hi, h, q1⟩]; exact q3
  ·obtain ⟨v, h1, h2⟩ := o.val i d hi h
   exact ⟨v, h1, h2.mono sg⟩
theorem Ok.pubStep (o : Ok K mg H0 own σd σ G H) (s0 : zbH G0 H0 G H) : zbH G0 H0 (zon own σd σ G H) H := by
 refine ⟨s0.g.trans o.pub.2, s0.h, o.pub.1.ext, fun b u h1 h2 => ?_⟩
 unfold zon
 rw [if_neg fun z => by rw [(o.ownLst z).2.2] at h1; cases h1]
 exact s0.c b u h1 h2
theorem Ok.drop (o : Ok K mg H0 own σd σ G H) (s : zaD H H') : Ok K mg H0 own σd σ G H' :=
 o.step (.heap o.ext s)
theorem Ok.hide (o : Ok K mg H0 own σd σ G H) (s : zbH (zon own σd σ G H) H G' H') : zbH G H (znV own σd σ G') H' ∧ zpq G' (znV own σd σ G') := by
 refine ⟨⟨fun b u h => ?_, s.h, fun b u h => ?_, fun b u h1 h2 => ?_⟩, fun b u h1 h2 => ?_⟩
 ·unfold znV
  rw [if_neg (o.notOwn h)]
  exact s.g b u (o.pub.2 b u h)
 ·unfold znV at h
  split at h
  ·cases h
  ·exact s.e b u h
 ·unfold znV
  split
  ·rfl
  ·rename_i n
   refine s.c b u h1 ?_
   unfold zon
   rw [if_neg n]; exact h2
 ·unfold znV
  rw [if_neg fun z => ?_]
  ·exact h1
  ·obtain ⟨⟨vs, q⟩, _⟩ := o.ownLst z
   have : zon own σd σ G H b = some (.lst vs) := by unfold zon; rw [if_pos z]; exact q
   have := s.g b _ this
   rw [h1] at this; cases this
   exact h2 vs rfl
theorem zcu {α : Type} {l : List (Option α)} {i : Nat} {x d : α} (h : (l.set i (some x))[i]? = some (some d)) : d = x ∧ i < l.length := by
 have hl : i < l.length := by have := (List.getElem?_eq_some_iff.mp h).1; simpa using this
 rw [List.getElem?_set_self hl] at h
 cases h
 exact ⟨rfl, hl⟩
theorem Ok.set {i : Nat} {d : D} {v : V} (o : Ok K mg H0 own σd σ G H) (hi : i ∉ own) (h : Rep K mg G d v) : Ok K mg H0 own (σd.set i (some d)) (σ.set i (some v)) G H := by
 have ne : ∀ {j : Nat}, j ∈ own → j ≠ i := fun hj z => hi (z ▸ hj)
 refine ⟨o.ext, by simp [o.len], fun j e hj q => ?_, fun j e hj q => ?_, fun j k a d1 d2 h1 h2 h3 h4 h5 h6 => ?_⟩
 ·by_cases hji : j = i
  ·subst hji
   obtain ⟨rfl, hl⟩ := zcu q
   exact ⟨v, by rw [List.getElem?_set_self (by rw [← o.len]; exact hl)], h⟩
  ·rw [List.getElem?_set_ne (Ne.symm hji)] at q ⊢
   exact o.val j e hj q
 ·rw [List.getElem?_set_ne (Ne.symm (ne hj))] at q ⊢
  exact o.mine j e hj q
 ·rw [List.getElem?_set_ne (Ne.symm (ne h1))] at h3 h5
  rw [List.getElem?_set_ne (Ne.symm (ne h2))] at h4 h6
  exact o.dj j k a d1 d2 h1 h2 h3 h4 h5 h6
theorem Ok.setAll : ∀ {ks : List Nat} {us : List D} {ws : List V} {σd : DSt} {σ : St}, Ok K mg H0 own σd σ G H → (∀ k ∈ ks, k ∉ own) → Reps K mg G us ws → Ok K mg H0 own (DL.setAll σd ks us) (DL.setAll σ ks ws) G H
 | [], _, _, _, _, o, _, _ => by unfold DL.setAll; exact o
 | _ :: _, [], _, _, _, o, _, h => by cases h; unfold DL.setAll; exact o
 | k :: ks, _ :: _, _, _, _, o, hk, ⟨v, r, h1, h2, h3⟩ => by
  subst h1; unfold DL.setAll
  exact Ok.setAll (o.set (hk k List.mem_cons_self) h2) (fun j hj => hk j (List.mem_cons_of_mem _ hj)) h3
theorem Ok.new {i : Nat} {ds : List D} {vs : List V} {a : Addr} {own' : List Nat} (o : Ok K mg H0 own σd σ G H) (s : zbH G H G' H') (n : H a = none) (e : H' a = some (.lst vs)) (g : G' a = none) (n0 : H0 a = none) (r : Reps K mg G' ds vs)
  (hown : ∀ j, j ∈ own' ↔ j = i ∨ j ∈ own) : Ok K mg H0 own' (σd.set i (some (.lst ds))) (σ.set i (some (.ref a))) G' H' := by
 have o' := o.step s
 have away : ∀ {j : Nat} {d : D}, j ∈ own → j ≠ i → σd[j]? = some (some d) → σ[j]? = some (some (.ref a)) → False := fun {j d} hj _ hd hs => by
  obtain ⟨b, _, _, q1, _, q3, _⟩ := o.mine j d hj hd
  rw [q1] at hs; cases hs
  rw [n] at q3; cases q3
 refine ⟨o'.ext, by simp [o.len], fun j d hj q => ?_, fun j d hj q => ?_, fun j k b d1 d2 h1 h2 h3 h4 h5 h6 => ?_⟩
 ·have hji : j ≠ i := fun z => hj ((hown j).mpr (.inl z))
  rw [List.getElem?_set_ne (Ne.symm hji)] at q ⊢
  exact o'.val j d (fun z => hj ((hown j).mpr (.inr z))) q
 ·by_cases hji : j = i
  ·subst hji
   obtain ⟨rfl, hl⟩ := zcu q
   exact ⟨a, ds, vs, by rw [List.getElem?_set_self (by rw [← o.len]; exact hl)], rfl, e, g, n0, r⟩
  ·rw [List.getElem?_set_ne (Ne.symm hji)] at q ⊢
   exact o'.mine j d (((hown j).mp hj).resolve_left hji) q
 ·by_cases hji : j = i
  ·by_cases hki : k = i
   ·rw [hji, hki]
   ·subst hji
    obtain ⟨rfl, hl⟩ := zcu h3
    rw [List.getElem?_set_self (by rw [← o.len]; exact hl)] at h5
    cases h5
    rw [List.getElem?_set_ne (Ne.symm hki)] at h4 h6
    exact (away (((hown k).mp h2).resolve_left hki) hki h4 h6).elim
  ·by_cases hki : k = i
   ·subst hki
    obtain ⟨rfl, hl⟩ := zcu h4
    rw [List.getElem?_set_self (by rw [← o.len]; exact hl)] at h6
    cases h6
    rw [List.getElem?_set_ne (Ne.symm hji)] at h3 h5
    exact (away (((hown j).mp h1).resolve_left hji) hji h3 h5).elim
   ·rw [List.getElem?_set_ne (Ne.symm hji)] at h3 h5
    rw [List.getElem?_set_ne (Ne.symm hki)] at h4 h6
    exact o.dj j k b d1 d2 (((hown j).mp h1).resolve_left hji) (((hown k).mp h2).resolve_left hki) h3 h4 h5 h6
theorem Ok.write {i : Nat} {d : D} {ds : List D} {vs : List V} {a : Addr} (o : Ok K mg H0 own σd σ G H) (hi : i ∈ own) (hd : σd[i]? = some (some d)) (ha : σ[i]? = some (some (.ref a))) (r : Reps K mg G ds vs) :
  Ok K mg H0 own (σd.set i (some (.lst ds))) σ G (upd H a (.lst vs)) := by
 obtain ⟨b, ds0, vs0, q1, q2, q3, q4, q5, q6⟩ := o.mine i d hi hd
 rw [ha] at q1; cases q1
 have hl : i < σd.length := (List.getElem?_eq_some_iff.mp hd).1
 refine ⟨fun b u h => ?_, by simp [o.len], fun j e hj q => ?_, fun j e hj q => ?_, fun j k b d1 d2 h1 h2 h3 h4 h5 h6 => ?_⟩
 ·rw [zay (zat h q4)]; exact o.ext b u h
 ·have hji : j ≠ i := fun z => hj (z ▸ hi)
  rw [List.getElem?_set_ne (Ne.symm hji)] at q
  exact o.val j e hj q
 ·by_cases hji : j = i
  ·subst hji
   obtain ⟨rfl, _⟩ := zcu q
   exact ⟨a, ds, vs, ha, rfl, zav, q4, q5, r⟩
  ·rw [List.getElem?_set_ne (Ne.symm hji)] at q
   obtain ⟨c, es, ws, p1, p2, p3, p4⟩ := o.mine j e hj q
   have hc : c ≠ a := fun z => by subst z; exact hji (o.dj j i c e d hj hi q hd p1 ha)
   exact ⟨c, es, ws, p1, p2, by rw [zay hc]; exact p3, p4⟩
 ·have back : ∀ {j : Nat} {e : D}, (σd.set i (some (.lst ds)))[j]? = some (some e) → ∃ e', σd[j]? = some (some e') := fun {j e} q => by
   by_cases hji : j = i
   ·exact ⟨d, hji ▸ hd⟩
   ·rw [List.getElem?_set_ne (Ne.symm hji)] at q; exact ⟨e, q⟩
  obtain ⟨e1, h3⟩ := back h3
  obtain ⟨e2, h4⟩ := back h4
  exact o.dj j k b e1 e2 h1 h2 h3 h4 h5 h6
theorem zbH.write {a : Addr} {o u : HO} (s0 : zbH G0 H0 G H) (n : H0 a = none) (g : G a = none) : zbH G0 H0 G (upd H a u) :=
 ⟨s0.g, fun b v h => by rw [zay (zat h n)]; exact s0.h b v h, fun b v h => by rw [zay (zat h g)]; exact s0.e b v h, s0.c⟩
theorem Ok.release {i : Nat} {own' : List Nat} (o : Ok K mg H0 own σd σ G H) (s0 : zbH G0 H0 G H) (hi : i ∈ own) (hown : ∀ j, j ∈ own' ↔ j ≠ i ∧ j ∈ own) : ∃ G', Ok K mg H0 own' σd σ G' H ∧ zbH G0 H0 G' H ∧ zaD G G' := by
 by_cases hb : ∃ d, σd[i]? = some (some d)
 ·obtain ⟨d, hd⟩ := hb
  obtain ⟨a, ds, vs, q1, rfl, q3, q4, q5, q6⟩ := o.mine i d hi hd
  have sg : zaD G (upd G a (.lst vs)) := zcH q4
  have eh : zaD (upd G a (.lst vs)) H := fun b u h => by
   by_cases hb : b = a
   ·subst hb; rw [zav] at h; cases h; exact q3
   ·rw [zay hb] at h; exact o.ext b u h
  refine ⟨upd G a (.lst vs), ⟨eh, o.len, fun j e hj q => ?_, fun j e hj q => ?_, fun j k b d1 d2 h1 h2 h3 h4 h5 h6 => ?_⟩, ⟨s0.g.trans sg, s0.h, eh, fun b u h1 h2 => ?_⟩, sg⟩
  ·by_cases hji : j = i
   ·subst hji
    rw [hd] at q; cases q
    exact ⟨_, q1, a, vs, rfl, SqL.of zav, q6.mono sg⟩
   ·obtain ⟨v, h1, h2⟩ := o.val j e (fun z => hj ((hown j).mpr ⟨hji, z⟩)) q
    exact ⟨v, h1, h2.mono sg⟩
  ·obtain ⟨hji, hj'⟩ := (hown j).mp hj
   obtain ⟨c, es, ws, p1, p2, p3, p4, p5, p6⟩ := o.mine j e hj' q
   have hc : c ≠ a := fun z => by subst z; exact hji (o.dj j i c e _ hj' hi q hd p1 q1)
   exact ⟨c, es, ws, p1, p2, p3, by rw [zay hc]; exact p4, p5, p6.mono sg⟩
  ·exact o.dj j k b d1 d2 ((hown j).mp h1).2 ((hown k).mp h2).2 h3 h4 h5 h6
  ·rw [zay (zat h1 q5)]; exact s0.c b u h1 h2
 ·refine ⟨G, ⟨o.ext, o.len, fun j e hj q => ?_, fun j e hj q => o.mine j e ((hown j).mp hj).2 q, fun j k b d1 d2 h1 h2 => o.dj j k b d1 d2 ((hown j).mp h1).2 ((hown k).mp h2).2⟩, s0, zaD.refl _⟩
  have hji : j ≠ i := fun z => hb ⟨e, z ▸ q⟩
  exact o.val j e (fun z => hj ((hown j).mpr ⟨hji, z⟩)) q
end
inductive Out where
 | nx (σ : DSt) | rt (d : D) | bk (σ : DSt) | ct (σ : DSt) | rf (ds : List D)
section
variable (K : PySem.W.Frag) (mg : Str → Option Value) (E : XK)
noncomputable def zf4 (G0 H0 : Hp) (own' ol : List Nat) (Dn : zrb) (G : Hp) : Out → Prop
 | .nx σd' => ∀ σ' G' H', Ok K mg H0 own' σd' σ' G' H' → zbH G0 H0 G' H' → zaD G G' → Dn.nx σ' H'
 | .bk σd' => ∀ σ' G' H', Ok K mg H0 ol σd' σ' G' H' → zbH G0 H0 G' H' → zaD G G' → Dn.bk σ' H'
 | .ct σd' => ∀ σ' G' H', Ok K mg H0 ol σd' σ' G' H' → zbH G0 H0 G' H' → zaD G G' → Dn.ct σ' H'
 | .rt d => ∀ v G' H', zbH G0 H0 G' H' → Rep K mg G' d v → Dn.rt v H'
 | .rf ds => ∀ a vs G' H', zbH G0 H0 G' H' → H0 a = none → H' a = some (.lst vs) → G' a = none → Reps K mg G' ds vs → Dn.rt (.ref a) H'
noncomputable def tS (G0 H0 : Hp) (own own' ol : List Nat) (f : DSt → R Out) : TS := fun Dn σ H => ∃ G σd, Ok K mg H0 own σd σ G H ∧ zbH G0 H0 G H ∧ RW (f σd) (zf4 K mg G0 H0 own' ol Dn G) (zaN K mg E G0 H0)
end
theorem zf4.shift {K : PySem.W.Frag} {mg : Str → Option Value} {G0 H0 G G' : Hp} {own' ol : List Nat} {Dn : zrb} (s : zaD G G') {o : Out} (h : zf4 K mg G0 H0 own' ol Dn G o) : zf4 K mg G0 H0 own' ol Dn G' o := by
 cases o with
 | nx _ => exact fun a b c d e f => h a b c d e (s.trans f)
 | bk _ => exact fun a b c d e f => h a b c d e (s.trans f)
 | ct _ => exact fun a b c d e f => h a b c d e (s.trans f)
 | rt _ => exact h
 | rf _ => exact h
noncomputable def DS (X : Cx) (E : XK) (own own' ol : List Nat) (st : Stmt) (f : DSt → R Out) : Prop := ∀ G0, PS X st (tS X.K X.mg E G0 X.H₀ own own' ol f)
noncomputable def DSs (X : Cx) (E : XK) (own own' ol : List Nat) (st : List Stmt) (f : DSt → R Out) : Prop := ∀ G0, PSs X st (tS X.K X.mg E G0 X.H₀ own own' ol f)
noncomputable def zaE (f g : DSt → R Out) : DSt → R Out := fun σ => (f σ).bind fun o => match o with
 | .nx σ' => g σ'
 | o => .ok o
noncomputable def za7 : DSt → R Out := fun σ => .ok (.nx σ)
section
variable {X : Cx} {E : XK} {own own1 own2 own' ol : List Nat} {st : Stmt} {zbs : List Stmt} {f g : DSt → R Out} {pos : Pos}
theorem zas : DSs X E own own ol [] za7 := fun G0 => PSs.mono' ztE fun Dn σ H ⟨G, σd, ok, s0, q⟩ => (show zf4 X.K X.mg G0 X.H₀ own ol Dn G (.nx σd) from q) σ G H ok s0 (zaD.refl _)
theorem zac (h1 : DS X E own own1 ol st f) (h2 : DSs X E own1 own2 ol zbs g) : DSs X E own own2 ol (st :: zbs) (zaE f g) := fun G0 => PSs.mono' (zrc (h1 G0) (h2 G0)) fun Dn σ H ⟨G, σd, ok, s0, q⟩ => by
 refine ⟨G, σd, ok, s0, q.of_bind.mono (fun o _ z => ?_) fun _ z => z⟩
 cases o with
 | nx σ1 =>
  intro σ' G' H' ok' s' e'
  exact ⟨G', σ1, ok', s', (show RW (g σ1) _ _ from z).mono (fun o _ z => z.shift e') fun _ z => z⟩
 | rt d => exact z
 | rf d => exact z
 | bk d => exact z
 | ct d => exact z
theorem zae (h1 : DS X E own own1 ol st f) : DSs X E own own1 ol [st] f := fun G0 => ztF (h1 G0)
theorem zdr (i : Nat) (hi : own.contains i = true) (ho : own' = own.filter fun j => j != i) (h : DSs X E own' own2 ol zbs g) : DSs X E own own2 ol zbs g := fun G0 => PSs.mono' (h G0) fun Dn σ H ⟨G, σd, ok, s0, q⟩ => by
 obtain ⟨G', ok', s', e'⟩ := ok.release (i := i) (own' := own') s0 (by simpa using hi) fun j => by subst ho; simp [and_comm]
 exact ⟨G', σd, ok', s', q.mono (fun o _ z => z.shift e') fun _ z => z⟩
theorem ziL : DS X E own own' ol st zue := fun G0 => PS.mono' zrd fun Dn σ H ⟨G, σd, ok, s0, q⟩ => q
noncomputable def zbY (fe : DSt → R D) : DSt → R Out := fun σ => (fe σ).bind fun d => .ok (.rt d)
theorem zao {e : Expr} {fe : DSt → R D} (h : DE X E e fe) : DS X E own own' ol (.Return (some e) pos) (zbY fe) := fun G0 => PS.mono' (zou h) fun Dn σ H ⟨G, σd, ok, s0, q⟩ => by
 have s1 := ok.pubStep s0
 exact ⟨_, σd, ok.pub.1, q.of_bind.mono (fun d _ z v G' H' s r => (show zf4 X.K X.mg G0 X.H₀ own' ol Dn G (.rt d) from z) v G' H' (s1.trans s) r) fun _ z => z.step s1⟩
noncomputable def sIf (c : DSt → R Bool) (f g : DSt → R Out) : DSt → R Out := fun σ => (c σ).bind fun k => bif k then f σ else g σ
theorem zbl {c : Expr} {a b : List Stmt} {fc : DSt → R Bool} (hc : DT X E c fc) (ha : DSs X E own own' ol a f) (hb : DSs X E own own' ol b g) : DS X E own own' ol (.If c a b pos) (sIf fc f g) := fun G0 =>
 PS.mono' (zxE hc (ha G0) (hb G0)) fun Dn σ H ⟨G, σd, ok, s0, q⟩ => by
 have s1 := ok.pubStep s0
 refine ⟨_, σd, ok.pub.1, q.of_bind.mono (fun k _ z G' H' s => ?_) fun _ z => z.step s1⟩
 have ok' := ok.drop s.h
 have s' : zbH G0 X.H₀ G H' := s0.trans (.heap ok.ext s.h)
 cases k with
 | true => exact iteT ⟨G, σd, ok', s', z⟩
 | false => exact iteF ⟨G, σd, ok', s', z⟩
noncomputable def zpr (fe : DSt → R D) : DSt → R Out := fun σ => (fe σ).bind fun _ => .ok (.nx σ)
theorem zlD {e : Expr} {fe : DSt → R D} (h : DE X E e fe) (hs : swapsWith e none pos.line X.env = pure false := by rfl) : DS X E own own ol (.Expr e pos) (zpr fe) := fun G0 => PS.mono' (zlr h hs) fun Dn σ H ⟨G, σd, ok, s0, q⟩ => by
 have s1 := ok.pubStep s0
 refine ⟨_, σd, ok.pub.1, q.of_bind.mono (fun d _ z v G' H' s r => ?_) fun _ z => z.step s1⟩
 exact (show zf4 X.K X.mg G0 X.H₀ own ol Dn G (.nx σd) from z) σ G H' (ok.drop s.h) (s0.trans (.heap ok.ext s.h)) (zaD.refl _)
noncomputable def zlp (own : List Nat) (i : Nat) (fe : DSt → R D) : DSt → R Out := fun σ => (fe (mask own σ)).bind fun d => .ok (.nx (σ.set i (some d)))
noncomputable def zaC (i : Nat) (fe : DSt → R D) : DSt → R Out := fun σ => (fe σ).bind fun d => .ok (.nx (σ.set i (some d)))
noncomputable def zps (i : Nat) (fe : DSt → R D) : DSt → R Out := fun σ => (fe σ).bind fun d => bif imm d then .ok (.nx (σ.set i (some d))) else .bad
theorem zsB {own : List Nat} {i : Nat} (h : own.contains i = false) : i ∉ own := by simpa using h
theorem zjv (σ : DSt) : mask [] σ = σ := by
 have : ∀ (σ : DSt) (k : Nat), zgU [] k σ = σ := fun σ => by
  induction σ with
  | nil => intro k; rfl
  | cons d ds ih => intro k; unfold zgU; rw [ih]; rfl
 exact this σ 0
theorem zyk {te : TE} {fe : DSt → R D} {i : Nat} {G0 : Hp} (h : ∀ σ H Q, tE X.K X.mg E fe σ H Q → te σ H Q) (ho : own.contains i = false) {Dn : zrb} {σ : St} {H : Hp} (q : tS X.K X.mg E G0 X.H₀ own own ol (zlp own i fe) Dn σ H) : ztG te (zj0 i) Dn σ H := by
 obtain ⟨G, σd, ok, s0, q⟩ := q
 refine h σ H _ ⟨G, mask own σd, ok.masked, q.of_bind.mono (fun d _ z v G' H' s r => ?_) fun _ z => z.step s0⟩
 exact (show zf4 X.K X.mg G0 X.H₀ own ol Dn G (.nx (σd.set i (some d))) from z) _ G' H' ((ok.step s).set (zsB ho) r) (s0.trans s) s.g
theorem asgP {te : TE} {fe : DSt → R D} {i : Nat} {G0 : Hp} (h : ∀ σ H Q, tE X.K X.mg E fe σ H Q → te σ H Q) (ho : own.contains i = false) {Dn : zrb} {σ : St} {H : Hp} (q : tS X.K X.mg E G0 X.H₀ own own ol (zps i fe) Dn σ H) : ztG te (zj0 i) Dn σ H := by
 obtain ⟨G, σd, ok, s0, q⟩ := q
 have s1 := ok.pubStep s0
 refine h σ H _ ⟨_, σd, ok.pub.1, q.of_bind.mono (fun d _ z v G' H' s r => ?_) fun _ z => z.step s1⟩
 cases hd : imm d with
 | false => rw [hd] at z; exact (show False from z).elim
 | true =>
  rw [hd] at z
  obtain ⟨st, sT⟩ := ok.hide s
  exact (show zf4 X.K X.mg G0 X.H₀ own ol Dn G (.nx (σd.set i (some d))) from z) _ _ H' ((ok.step st).set (zsB ho) (r.imm sT hd)) (s0.trans st) st.g
noncomputable def znW (own : List Nat) (i : Nat) (fe : DSt → R (List D)) : DSt → R Out := fun σ => (fe (mask own σ)).bind fun ds => .ok (.nx (σ.set i (some (.lst ds))))
noncomputable def zf5 (own : List Nat) (i : Nat) : List Nat := if own.contains i then own else i :: own
theorem zlE {own : List Nat} {i j : Nat} : j ∈ zf5 own i ↔ j = i ∨ j ∈ own := by
 unfold zf5
 split
 ·rename_i h
  have hi : i ∈ own := by simpa using h
  exact ⟨.inr, fun h => h.elim (fun e => e ▸ hi) id⟩
 ·simp
theorem asgN {te : TE} {fe : DSt → R (List D)} {i : Nat} {G0 : Hp} (h : ∀ σ H Q, tFr X.K X.mg E fe σ H Q → te σ H Q) {Dn : zrb} {σ : St} {H : Hp} (q : tS X.K X.mg E G0 X.H₀ own (zf5 own i) ol (znW own i fe) Dn σ H) : ztG te (zj0 i) Dn σ H := by
 obtain ⟨G, σd, ok, s0, q⟩ := q
 refine h σ H _ ⟨G, mask own σd, ok.masked, q.of_bind.mono (fun ds _ z a vs G' H' s n e g r => ?_) fun _ z => z.step s0⟩
 exact (show zf4 X.K X.mg G0 X.H₀ (zf5 own i) ol Dn G (.nx (σd.set i (some (.lst ds)))) from z) _ G' H' (ok.new s n e g (s0.h.free n) r fun j => zlE) (s0.trans s) s.g
variable {i : Nat} {x : Str} {e : Expr} {pos' : Pos} {fe : DSt → R D} {fl : DSt → R (List D)}
theorem zmt (i : Nat) (hN : X.N.Nodup) (he : DE X E e fe) (ho : own.contains i = false := by rfl) (hi : X.N[i]? = some x := by rfl) (hx : Loc X.env.scope x := by first | exact Or.inl rfl | exact Or.inr rfl) (hs : swapsWith e (some (.Name x pos')) pos.line X.env = pure false := by rfl)
  (hf : X.fn x = true ∨ X.env.scope.names.lookup x = some .local := by first | exact .inl rfl | exact .inr rfl | assumption) : DS X E own own ol (.Assign [.Name x pos'] e pos) (zlp own i fe) := fun G0 =>
 PS.mono' (zma hN hi hx he hs hf) fun Dn σ H q => zyk (fun _ _ _ z => z) ho q
theorem zaj (i : Nat) (hN : X.N.Nodup) (he : DE X E e fe) (hi : X.N[i]? = some x := by rfl) (hx : Loc X.env.scope x := by first | exact Or.inl rfl | exact Or.inr rfl) (hs : swapsWith e (some (.Name x pos')) pos.line X.env = pure false := by rfl)
  (hf : X.fn x = true ∨ X.env.scope.names.lookup x = some .local := by first | exact .inl rfl | exact .inr rfl | assumption) : DS X E [] [] ol (.Assign [.Name x pos'] e pos) (zaC i fe) := fun G0 => by
 have : zaC i fe = zlp [] i fe := by funext σ; unfold zaC zlp; rw [zjv]
 rw [this]
 exact PS.mono' (zma hN hi hx he hs hf) fun Dn σ H q => zyk (fun _ _ _ z => z) rfl q
theorem zpt (i : Nat) (hN : X.N.Nodup) (he : DE X E e fe) (ho : own.contains i = false := by rfl) (hi : X.N[i]? = some x := by rfl) (hx : Loc X.env.scope x := by first | exact Or.inl rfl | exact Or.inr rfl) (hs : swapsWith e (some (.Name x pos')) pos.line X.env = pure false := by rfl)
  (hf : X.fn x = true ∨ X.env.scope.names.lookup x = some .local := by first | exact .inl rfl | exact .inr rfl | assumption) : DS X E own own ol (.Assign [.Name x pos'] e pos) (zps i fe) := fun G0 =>
 PS.mono' (zma hN hi hx he hs hf) fun Dn σ H q => asgP (fun _ _ _ z => z) ho q
theorem zgl (i : Nat) (hN : X.N.Nodup) (he : DF X E e fl) (hw : own' = zf5 own i := by rfl) (hi : X.N[i]? = some x := by rfl) (hx : Loc X.env.scope x := by first | exact Or.inl rfl | exact Or.inr rfl) (hs : swapsWith e (some (.Name x pos')) pos.line X.env = pure false := by rfl)
  (hf : X.fn x = true ∨ X.env.scope.names.lookup x = some .local := by first | exact .inl rfl | exact .inr rfl | assumption) : DS X E own own' ol (.Assign [.Name x pos'] e pos) (znW own i fl) := fun G0 => by
 subst hw; exact PS.mono' (zma hN hi hx he hs hf) fun Dn σ H q => asgN (fun _ _ _ z => z) q
theorem zv9 {te : TE} (h : ∀ σ H Q, tFr X.K X.mg E fl σ H Q → te σ H Q) : ∀ σ H Q, tE X.K X.mg E (fun σ => (fl σ).bind fun ds => .ok (.lst ds)) σ H Q → te σ H Q := fun σ H Q ⟨G, σd, ok, q⟩ => by
 refine h σ H Q ⟨G, σd, ok, q.of_bind.mono (fun ds _ q => ?_) fun _ z => z⟩
 intro a vs G' H' s n e g r
 have q' : zaq X.K X.mg Q G H (.lst ds) := q
 have sg : zaD G' (upd G' a (.lst vs)) := zcH g
 refine q' (.ref a) (upd G' a (.lst vs)) H' ⟨s.g.trans sg, s.h, fun b u p => ?_, fun b u p1 p2 => ?_⟩ ⟨a, vs, rfl, SqL.of zav, r.mono sg⟩
 ·by_cases hb : b = a
  ·subst hb; rw [zav] at p; cases p; exact e
  ·rw [zay hb] at p; exact s.e b u p
 ·have hb : b ≠ a := zat p1 n
  rw [zay hb]; exact s.c b u p1 p2
noncomputable def zdf (fl : DSt → R (List D)) : DSt → R D := fun σ => (fl σ).bind fun ds => .ok (.lst ds)
theorem DF.val (h : DF X E e fl) : DE X E e (zdf fl) := h.de
variable {tg elt iter : Expr} {ifs : List Expr} {scope : Scope} {NY : List Str} {k : Nat} {ks : List Nat} {fi : DSt → R (List D)} {gp : D → R (List D)} {fc : DSt → R Bool} {lpos : Pos}
theorem zsC (i : Nat) (C : X.calm = true) (hN : X.N.Nodup) (hi' : X.N[i]? = some x) (hy : X.env.kindOf x = some .local) (lc : LC X k scope NY) (hi : DI X E tg iter fi)
  (hb : ∀ (s₀ : Shared) (H₀ : Hp) (C : Addr) (ex : List Addr), NY.Nodup → DG (zec X scope NY s₀ H₀ C ex) tg ks gp ∧ DTs (zec X scope NY s₀ H₀ C ex) E0 ifs fc ∧ DE (zec X scope NY s₀ H₀ C ex) E0 elt fe)
  (hsw : swapsWith (.ListComp elt [⟨tg, iter, ifs, 0⟩] scope lpos) (some (.Name x pos')) pos.line X.env = pure true)
  (hs : ∀ x, foldedSetIterable iter X.env x = pure x) : PS X (.Assign [.Name x pos'] (.ListComp elt [⟨tg, iter, ifs, 0⟩] scope lpos) pos) (ztG (tLC k (tI X.K X.mg E fi) (tG X.K X.mg ks gp) (tT X.K X.mg E0 fc) (tE X.K X.mg E0 fe)) (zj0 i)) :=
 zx0 (g := tG X.K X.mg ks gp) (tc := tT X.K X.mg E0 fc) (te := tE X.K X.mg E0 fe) C hN hi' hy lc hi (fun s0 H0 Ca ex nd => hb s0 H0 Ca ex nd) hsw hs
theorem zeN (i : Nat) (C : X.calm = true) (hN : X.N.Nodup) (lc : LC X k scope NY) (hk : ks.all (fun i => decide (i < k)) = true) (hi : DI X E tg iter fi)
  (hb : ∀ (s₀ : Shared) (H₀ : Hp) (C : Addr) (ex : List Addr), NY.Nodup → DG (zec X scope NY s₀ H₀ C ex) tg ks gp ∧ DTs (zec X scope NY s₀ H₀ C ex) E0 ifs fc ∧ DE (zec X scope NY s₀ H₀ C ex) E0 elt fe)
  (ho : own.contains i = false := by rfl) (hi' : X.N[i]? = some x := by rfl) (hy : X.env.kindOf x = some .local := by rfl)
  (hsw : swapsWith (.ListComp elt [⟨tg, iter, ifs, 0⟩] scope lpos) (some (.Name x pos')) pos.line X.env = pure true := by rfl)
  (hs : ∀ x, foldedSetIterable iter X.env x = pure x := by intro _; rfl) : DS X E own own ol (.Assign [.Name x pos'] (.ListComp elt [⟨tg, iter, ifs, 0⟩] scope lpos) pos) (zlp own i (zdf (eLC k ks fi gp fc fe))) := fun G0 =>
 PS.mono' (zsC i C hN hi' hy lc hi hb hsw hs) fun Dn σ H q => zyk (zv9 fun _ _ _ h => zpp (te := tE X.K X.mg E0 fe) (tc := tT X.K X.mg E0 fc) hk h) ho q
theorem zrR (i : Nat) (C : X.calm = true) (hN : X.N.Nodup) (lc : LC X k scope NY) (hk : ks.all (fun i => decide (i < k)) = true) (hi : DI X E tg iter fi)
  (hb : ∀ (s₀ : Shared) (H₀ : Hp) (C : Addr) (ex : List Addr), NY.Nodup → DG (zec X scope NY s₀ H₀ C ex) tg ks gp ∧ DTs (zec X scope NY s₀ H₀ C ex) E0 ifs fc ∧ DE (zec X scope NY s₀ H₀ C ex) E0 elt fe)
  (hw : own' = zf5 own i := by rfl) (hi' : X.N[i]? = some x := by rfl) (hy : X.env.kindOf x = some .local := by rfl)
  (hsw : swapsWith (.ListComp elt [⟨tg, iter, ifs, 0⟩] scope lpos) (some (.Name x pos')) pos.line X.env = pure true := by rfl)
  (hs : ∀ x, foldedSetIterable iter X.env x = pure x := by intro _; rfl) : DS X E own own' ol (.Assign [.Name x pos'] (.ListComp elt [⟨tg, iter, ifs, 0⟩] scope lpos) pos) (znW own i (eLC k ks fi gp fc fe)) := fun G0 => by
 subst hw; exact PS.mono' (zsC i C hN hi' hy lc hi hb hsw hs) fun Dn σ H q => asgN (fun _ _ _ h => zpp (te := tE X.K X.mg E0 fe) (tc := tT X.K X.mg E0 fc) hk h) q
noncomputable def zuf (own : List Nat) (ks : List Nat) (gp : D → R (List D)) (fe : DSt → R D) : DSt → R Out := fun σ => (fe (mask own σ)).bind fun d => (gp d).noerr.bind fun us => .ok (.nx (setAll σ ks us))
theorem zsD (he : DE X E e fe) (hg : DG X tg ks gp) (ho : ks.all (fun i => !own.contains i) = true := by rfl) (hs : swapsWithSole [tg] e pos.line X.env = pure false := by rfl) (hw : swappedStores [tg] e X.env = pure none := by rfl)
  (h1 : (assignEach [tg] X.env).map (·.2) = [assign tg X.env] := by rfl) : DS X E own own ol (.Assign [tg] e pos) (zuf own ks gp fe) := fun G0 => PS.mono' (zso he hg hs hw h1) fun Dn σ H ⟨G, σd, ok, s0, q⟩ => by
 refine ⟨G, mask own σd, ok.masked, q.of_bind.mono (fun d _ z v G' H' s r => ?_) fun _ z => z.step s0⟩
 obtain ⟨us, e1, z⟩ := zeM z.of_bind
 refine ⟨G', d, s.e, r, RW.ok_of e1 fun ws rw' => ?_⟩
 refine (show zf4 X.K X.mg G0 X.H₀ own ol Dn G (.nx (setAll σd ks us)) from z) _ G' H' ((ok.step s).setAll (fun k hk => ?_) rw') (s0.trans s) s.g
 simpa using List.all_eq_true.mp ho k hk
noncomputable def sPar (own : List Nat) (i j : Nat) (fs : DSt → R (List D)) : DSt → R Out := fun σ => (fs (mask own σ)).bind fun ds => match ds with
 | [a, b] => .ok (.nx ((σ.set i (some a)).set j (some b)))
 | _ => .bad
noncomputable def zdv (σ : DSt) (i : Nat) : R (List D) := match σ[i]? with
 | some (some (.lst ds)) => .ok ds
 | _ => .bad
noncomputable def zug (own : List Nat) (i : Nat) (fe : DSt → R D) : DSt → R Out := fun σ => (zdv σ i).bind fun ds => (fe (mask own σ)).bind fun d => bif most ds.length then .ok (.nx (σ.set i (some (.lst (ds ++ [d]))))) else .bad
noncomputable def zyl (i : Nat) (fe : DSt → R D) : DSt → R Out := fun σ => (zdv σ i).bind fun ds => (fe σ).bind fun d => bif most ds.length && imm d then .ok (.nx (σ.set i (some (.lst (ds ++ [d]))))) else .bad
theorem zjw {σ : DSt} {i : Nat} {ds : List D} (h : zdv σ i = .ok ds) : σ[i]? = some (some (.lst ds)) := by
 unfold zdv at h
 split at h
 ·cases h; assumption
 ·cases h
theorem zjx {σ : DSt} {i : Nat} {e : D} : zdv σ i ≠ .err e := by
 unfold zdv
 split <;> simp
theorem zkr (i : Nat) {apos cpos : Pos} {np : Pos} (he : DE X E e fe) (ho : own.contains i = true := by rfl) (hN : X.N[i]? = some x := by rfl) (hv : Vis X.env.scope x := by first | exact Or.inl rfl | exact Or.inr (Or.inl rfl) | exact Or.inr (Or.inr rfl)) (hd : (x == ("__debug__" : Str)) = false := by decide)
  (hcd : (x == ("__classdict__" : Str)) = false := by decide)
  (hbase : attributeBase (.Name x np) "append" X.env (eval (.Name x np) X.env) = eval (.Name x np) X.env := by rfl)
  (hfew : ((backTo cpos (starEach [e] X.env)).all (fun x => !x.1) && (backToKw cpos (keywordEach [] X.env)).all (fun x => x.1.isSome) && decide ([e].length + ([] : List Keyword).length + (if ([] : List Keyword).isEmpty then 0 else 1) < 30)) = true := by rfl)
  (hline : (apos.endLine == cpos.line) = true := by rfl) (hs : starEach [e] X.env = (false, eval e X.env) :: starEach [] X.env := by rfl) (hplain : (backTo cpos (starEach [] X.env)).any (·.1) = false := by rfl)
  (hsw : swapsWith (.Call (.Attribute (.Name x np) "append" apos) [e] [] cpos) none pos.line X.env = pure false := by rfl) :
  DS X E own own ol (.Expr (.Call (.Attribute (.Name x np) "append" apos) [e] [] cpos) pos) (zug own i fe) := fun G0 =>
 PS.mono' (zlr (zvQ PySem.F.plainAttrs_list PySem.F.slot_list_append PySem.F.type_list_append zoK (pv i hN hv hd hcd) (zaJ he zbP hs) hbase hfew hline hs hplain) hsw) fun Dn σ H ⟨G, σd, ok, s0, q⟩ => by
 have q1 := q.of_bind
 cases hL : zdv σd i with
 | bad => rw [hL] at q1; exact q1.elim
 | err e => exact absurd hL zjx
 | ok ds =>
  rw [hL] at q1
  have q2 : RW ((fe (mask own σd)).bind fun d => bif most ds.length then R.ok (.nx (σd.set i (some (.lst (ds ++ [d]))))) else .bad) (zf4 X.K X.mg G0 X.H₀ own ol Dn G) (zaN X.K X.mg E G0 X.H₀) := q1
  have hd := zjw hL
  have hi : i ∈ own := by simpa using ho
  obtain ⟨a, ds', vs, p1, p2, p3, p4, p5, p6⟩ := ok.mine i _ hi hd
  cases p2
  refine ⟨_, p1, .inl ⟨rfl, _, SqL.of p3⟩, ?_⟩
  refine ⟨G, mask own σd, ok.masked, (show RW ((zaa fe zaf) (mask own σd)) _ _ from ?_)⟩
  unfold zaa
  have q3 := q2.of_bind
  cases hf : fe (mask own σd) with
  | bad => rw [hf] at q3; exact q3.elim
  | err e => rw [hf] at q3; exact (show zaN X.K X.mg E G0 X.H₀ e from q3).step s0
  | ok d =>
   rw [hf] at q3
   rintro ws G' H' s ⟨v, _, e1, r1, r2⟩
   subst e1
   cases r2
   cases hm : most ds.length with
   | false => rw [hm] at q3; exact (show False from q3).elim
   | true =>
    rw [hm] at q3
    have hlt : ds.length < sizeLine := of_decide_eq_true hm
    have ok' := ok.step s
    refine ⟨a, vs, v, rfl, rfl, s.h _ _ p3, by rw [← p6.length]; exact hlt, ?_⟩
    exact (show zf4 X.K X.mg G0 X.H₀ own ol Dn G (.nx (σd.set i (some (.lst (ds ++ [d]))))) from q3) σ G' _ (ok'.write hi hd p1 ((p6.mono s.g).append (Reps.cons r1 Reps.nil))) ((s0.trans s).write (o := .lst vs) p5 (s.c _ _ p3 p4)) s.g
end
noncomputable def zis (ks : List Nat) (gp : D → R (List D)) (fb : DSt → R Out) : List D → DSt → R Out
 | [], σ => .ok (.nx σ)
 | d :: ds, σ => (gp d).noerr.bind fun us => (fb (setAll σ ks us)).bind fun o => match o with
  | .nx σ' => zis ks gp fb ds σ'
  | .ct σ' => zis ks gp fb ds σ'
  | .bk σ' => .ok (.nx σ')
  | .rt d => .ok (.rt d)
  | .rf d => .ok (.rf d)
noncomputable def zir (own ks : List Nat) (gp : D → R (List D)) (fi : DSt → R (List D)) (fb : DSt → R Out) : DSt → R Out := fun σ => (fi (mask own σ)).bind fun ds => zis ks gp fb ds σ
structure XL (X : Cx) : Prop where
 own : PassesOwn (model X.prog X.w) X.A X.env X.xe
section
variable {X : Cx} {E : XK} {own ol ks : List Nat} {tg iter : Expr} {body : List Stmt} {gp : D → R (List D)} {fi : DSt → R (List D)} {fb : DSt → R Out} {pos : Pos}
theorem zbQ (L : XL X) (hc : X.calm = true) (hi : DI X E tg iter fi) (hg : DG X tg ks gp) (hb : DSs X E own own own body fb) (ho : ks.all (fun i => !own.contains i) = true := by rfl) (hs : ∀ x, foldedSetIterable iter X.env x = pure x := by intro _; rfl) :
  DS X E own own ol (.For tg iter body [] pos) (zir own ks gp fi fb) := fun G0 => PS.mono' (zvB L.own hc hi hg (hb G0) hs) fun Dn σ H ⟨G, σd, ok, s0, q⟩ => by
 refine ⟨G, mask own σd, ok.masked, q.of_bind.mono (fun ds _ z J G1 H1 s1 it => ?_) fun _ z => z.step s0⟩
 have hko : ∀ k ∈ ks, k ∉ own := fun k hk => by simpa using List.all_eq_true.mp ho k hk
 refine ⟨fun i m σ' H' => m = ds.length - i ∧ i ≤ ds.length ∧ ∃ G' σd', Ok X.K X.mg X.H₀ own σd' σ' G' H' ∧ zaD G1 G' ∧ zbH G0 X.H₀ G' H' ∧ RW (zis ks gp fb (ds.drop i) σd') (zf4 X.K X.mg G0 X.H₀ own ol Dn G1) (zaN X.K X.mg E G0 X.H₀),
  ⟨ds.length, by simp, Nat.zero_le _, G1, σd, ok.step s1, zaD.refl _, s0.trans s1, z.mono (fun _ _ z => z.shift s1.g) fun _ z => z⟩, ?_⟩
 rintro i m σ' H' ⟨rfl, hi, G', σd', ok', e', s', w⟩
 by_cases hlt : i < ds.length
 ·right
  obtain ⟨d, hd⟩ : ∃ d, ds[i]? = some d := ⟨ds[i], by simp [hlt]⟩
  obtain ⟨g1, g2⟩ := it.turn H' i d (e'.trans ok'.ext) hd
  have hdrop : ds.drop i = d :: ds.drop (i + 1) := by
   rw [List.drop_eq_getElem_cons hlt]
   congr 1
   exact Option.some.inj ((List.getElem?_eq_getElem hlt).symm.trans hd)
  rw [hdrop] at w
  refine ⟨g1, fun σ2 H2 => i + 1 ≤ ds.length ∧ ∃ G' σd', Ok X.K X.mg X.H₀ own σd' σ2 G' H2 ∧ zaD G1 G' ∧ zbH G0 X.H₀ G' H2 ∧ RW (zis ks gp fb (ds.drop (i + 1)) σd') (zf4 X.K X.mg G0 X.H₀ own ol Dn G1) (zaN X.K X.mg E G0 X.H₀),
   fun σ2 H2 ⟨h1, h2⟩ => ⟨ds.length - (i + 1), by omega, rfl, h1, h2⟩, fun x H2 hy => ?_⟩
  obtain ⟨G2, s2, r2⟩ := g2 x H2 hy G' e' ok'.ext
  unfold zis at w
  obtain ⟨us, e1, w⟩ := zeM w.of_bind
  refine ⟨G2, d, s2.e, r2, RW.ok_of e1 fun ws rws => ?_⟩
  have ok2 := (ok'.step s2).setAll hko rws
  refine ⟨G2, _, ok2, s'.trans s2, w.of_bind.mono (fun o _ z => ?_) fun _ z => z⟩
  cases o with
  | nx σ3 => exact fun σ4 G4 H4 ok4 s4 e4 => ⟨hlt, G4, σ3, ok4, (e'.trans s2.g).trans e4, s4, z⟩
  | ct σ3 => exact fun σ4 G4 H4 ok4 s4 e4 => ⟨hlt, G4, σ3, ok4, (e'.trans s2.g).trans e4, s4, z⟩
  | bk σ3 => exact fun σ4 G4 H4 ok4 s4 e4 => (show zf4 X.K X.mg G0 X.H₀ own ol Dn G1 (.nx σ3) from z) σ4 G4 H4 ok4 s4 ((e'.trans s2.g).trans e4)
  | rt d => exact z
  | rf d => exact z
 ·left
  have hi2 : i = ds.length := by omega
  subst hi2
  rw [List.drop_length] at w
  refine ⟨it.stop H' (e'.trans ok'.ext), ?_⟩
  unfold zis at w
  exact (show zf4 X.K X.mg G0 X.H₀ own ol Dn G1 (.nx σd') from w) σ' G' H' ok' s' e'
noncomputable def zaQ (c : DSt → R Bool) (fb : DSt → R Out) : Nat → DSt → R Out
 | 0, _ => .bad
 | n + 1, σ => (c σ).bind fun k => bif k then (fb σ).bind fun o => match o with
   | .nx σ' => zaQ c fb n σ'
   | .ct σ' => zaQ c fb n σ'
   | .bk σ' => .ok (.nx σ')
   | .rt d => .ok (.rt d)
   | .rf d => .ok (.rf d)
  else .ok (.nx σ)
open Classical in
noncomputable def za8 (c : DSt → R Bool) (fb : DSt → R Out) : DSt → R Out := fun σ => if h : ∃ n, zaQ c fb n σ ≠ .bad then zaQ c fb (Classical.choose h) σ else .bad
theorem zdL {c : DSt → R Bool} {fb : DSt → R Out} : ∀ (n : Nat) (σ : DSt) (r : R Out), zaQ c fb n σ = r → r ≠ .bad → ∀ k, zaQ c fb (n + k) σ = r
 | 0, σ, r, h, hr, k => absurd h.symm hr
 | n + 1, σ, r, h, hr, k => by
  rw [show n + 1 + k = (n + k) + 1 by omega]
  unfold zaQ at h ⊢
  cases hc : c σ with
  | bad => rw [hc] at h; exact absurd h.symm hr
  | err e => rw [hc] at h; exact h
  | ok b =>
   rw [hc] at h
   cases b with
   | false => exact h
   | true =>
    have h' : (fb σ).bind (fun o => match o with
     | .nx σ' => zaQ c fb n σ'
     | .ct σ' => zaQ c fb n σ'
     | .bk σ' => .ok (.nx σ')
     | .rt d => .ok (.rt d)
     | .rf d => .ok (.rf d)) = r := h
    show (fb σ).bind (fun o => match o with
     | .nx σ' => zaQ c fb (n + k) σ'
     | .ct σ' => zaQ c fb (n + k) σ'
     | .bk σ' => .ok (.nx σ')
     | .rt d => .ok (.rt d)
     | .rf d => .ok (.rf d)) = r
    cases hf : fb σ with
    | bad => rw [hf] at h'; exact absurd h'.symm hr
    | err e => rw [hf] at h'; exact h'
    | ok o =>
     rw [hf] at h'
     cases o with
     | nx σ' => exact zdL n σ' r h' hr k
     | ct σ' => exact zdL n σ' r h' hr k
     | bk σ' => exact h'
     | rt d => exact h'
     | rf d => exact h'
theorem zb2 {c : DSt → R Bool} {fb : DSt → R Out} {n : Nat} {σ : DSt} {r : R Out} (h : zaQ c fb n σ = r) (hr : r ≠ .bad) : za8 c fb σ = r := by
 unfold za8
 have hx : ∃ n, zaQ c fb n σ ≠ .bad := ⟨n, by rw [h]; exact hr⟩
 rw [dif_pos hx]
 have h1 := Classical.choose_spec hx
 have a := zdL _ σ _ rfl h1 n
 have b := zdL _ σ _ h hr (Classical.choose hx)
 rw [Nat.add_comm] at b
 rw [← a, b]
theorem zht (c : DSt → R Bool) (fb : DSt → R Out) (σ : DSt) : za8 c fb σ = (c σ).bind fun k => bif k then (fb σ).bind fun o => match o with
   | .nx σ' => za8 c fb σ'
   | .ct σ' => za8 c fb σ'
   | .bk σ' => .ok (.nx σ')
   | .rt d => .ok (.rt d)
   | .rf d => .ok (.rf d)
  else .ok (.nx σ) := by
 cases hc : c σ with
 | bad =>
  unfold za8
  rw [dif_neg]
  ·rfl
  ·rintro ⟨n, h⟩
   cases n with
   | zero => exact h rfl
   | succ n => unfold zaQ at h; rw [hc] at h; exact h rfl
 | err e => exact zb2 (n := 1) (by unfold zaQ; rw [hc]; rfl) (by simp [R.bind])
 | ok b =>
  cases b with
  | false => exact zb2 (n := 1) (by unfold zaQ; rw [hc]; rfl) (by simp [R.bind])
  | true =>
   show za8 c fb σ = (fb σ).bind _
   cases hf : fb σ with
   | bad =>
    unfold za8
    rw [dif_neg]
    ·rfl
    ·rintro ⟨n, h⟩
     cases n with
     | zero => exact h rfl
     | succ n => unfold zaQ at h; rw [hc] at h; simp only [R.bind, cond_true] at h; rw [hf] at h; exact h rfl
   | err e => exact zb2 (n := 1) (by unfold zaQ; rw [hc]; show (fb σ).bind _ = _; rw [hf]; rfl) (by simp [R.bind])
   | ok o =>
    have go : ∀ σ', (∀ n, zaQ c fb (n + 1) σ = zaQ c fb n σ') → za8 c fb σ = za8 c fb σ' := fun σ' hn => by
     by_cases hx : ∃ n, zaQ c fb n σ' ≠ .bad
     ·obtain ⟨n, h⟩ := hx
      rw [zb2 (n := n) rfl h, zb2 (n := n + 1) (hn n) h]
     ·have : za8 c fb σ' = .bad := by unfold za8; rw [dif_neg hx]
      rw [this]
      unfold za8
      rw [dif_neg]
      rintro ⟨n, h⟩
      cases n with
      | zero => exact h rfl
      | succ n => rw [hn n] at h; exact hx ⟨n, h⟩
    cases o with
    | nx σ' => exact go σ' fun n => by unfold zaQ; rw [hc]; show (fb σ).bind _ = _; rw [hf]; cases n <;> rfl
    | ct σ' => exact go σ' fun n => by unfold zaQ; rw [hc]; show (fb σ).bind _ = _; rw [hf]; cases n <;> rfl
    | bk σ' => exact zb2 (n := 1) (by unfold zaQ; rw [hc]; show (fb σ).bind _ = _; rw [hf]; rfl) (by simp [R.bind])
    | rt d => exact zb2 (n := 1) (by unfold zaQ; rw [hc]; show (fb σ).bind _ = _; rw [hf]; rfl) (by simp [R.bind])
    | rf d => exact zb2 (n := 1) (by unfold zaQ; rw [hc]; show (fb σ).bind _ = _; rw [hf]; rfl) (by simp [R.bind])
theorem zjy {c : Expr} {fc : DSt → R Bool} (L : XL X) (hc : DT X E c fc) (hb : DSs X E own own own body fb) : DS X E own own ol (.While c body [] pos) (za8 fc fb) := fun G0 => PS.mono' (zre L.own hc (hb G0)) fun Dn σ H ⟨G, σd, ok, s0, q⟩ => by
 have hx : ∃ n, zaQ fc fb n σd ≠ .bad := by
  by_cases hx : ∃ n, zaQ fc fb n σd ≠ .bad
  ·exact hx
  ·unfold za8 at q; rw [dif_neg hx] at q; exact (show False from q).elim
 obtain ⟨n, hn⟩ := hx
 rw [zb2 rfl hn] at q
 refine ⟨fun m σ' H' => ∃ G' σd', Ok X.K X.mg X.H₀ own σd' σ' G' H' ∧ zaD G G' ∧ zbH G0 X.H₀ G' H' ∧ RW (zaQ fc fb m σd') (zf4 X.K X.mg G0 X.H₀ own ol Dn G) (zaN X.K X.mg E G0 X.H₀), ⟨n, G, σd, ok, zaD.refl _, s0, q⟩, ?_⟩
 rintro m σ1 H1 ⟨G1, σd1, ok1, e1, s1, w⟩
 cases m with
 | zero => exact (show False from w).elim
 | succ m =>
  unfold zaQ at w
  have sp := ok1.pubStep s1
  refine ⟨_, σd1, ok1.pub.1, w.of_bind.mono (fun k _ z G' H' s => ?_) fun _ z => z.step sp⟩
  have ok' := ok1.drop s.h
  have s' : zbH G0 X.H₀ G1 H' := s1.trans (.heap ok1.ext s.h)
  cases k with
  | true =>
   refine iteT ?_
   refine ⟨fun σ2 H2 => ∃ G' σd', Ok X.K X.mg X.H₀ own σd' σ2 G' H2 ∧ zaD G G' ∧ zbH G0 X.H₀ G' H2 ∧ RW (zaQ fc fb m σd') (zf4 X.K X.mg G0 X.H₀ own ol Dn G) (zaN X.K X.mg E G0 X.H₀), fun σ2 H2 h => ⟨m, Nat.lt_succ_self _, h⟩, ?_⟩
   refine ⟨G1, σd1, ok', s', (show RW ((fb σd1).bind _) _ _ from z).of_bind.mono (fun o _ z => ?_) fun _ z => z⟩
   cases o with
   | nx σ3 => exact fun σ4 G4 H4 ok4 s4 e4 => ⟨G4, σ3, ok4, e1.trans e4, s4, z⟩
   | ct σ3 => exact fun σ4 G4 H4 ok4 s4 e4 => ⟨G4, σ3, ok4, e1.trans e4, s4, z⟩
   | bk σ3 => exact fun σ4 G4 H4 ok4 s4 e4 => (show zf4 X.K X.mg G0 X.H₀ own ol Dn G (.nx σ3) from z) σ4 G4 H4 ok4 s4 (e1.trans e4)
   | rt d => exact z
   | rf d => exact z
  | false =>
   refine iteF ?_
   exact (show zf4 X.K X.mg G0 X.H₀ own ol Dn G (.nx σd1) from z) σ1 G1 H' ok' s' e1
end
noncomputable def zcC (n : Nat) (ds : List D) : DSt := ds.map some ++ List.replicate (n - ds.length) none
noncomputable def fin : R Out → R D
 | .ok (.rt d) => .ok d
 | .ok (.rf ds) => .ok (.lst ds)
 | .ok (.nx _) => .ok .non
 | .ok _ => .bad
 | .err e => .err e
 | .bad => .bad
noncomputable def fnM (n nN : Nat) (body : DSt → R Out) : List D → R D := fun ds => bif ds.length == n then fin (body (zcC nN ds)) else .bad
theorem Reps.startOk {K : PySem.W.Frag} {mg : Str → Option Value} {G H : Hp} (e : zaD G H) : ∀ {ds : List D} {vs : List V} (k : Nat), Reps K mg G ds vs → Ok0 K mg (ds.map some ++ List.replicate k none) (vs.map some ++ List.replicate k none) G H
 | [], _, k, h => by
  cases h
  have := Ok0.nones (K := K) (mg := mg) (G := G) (H := H) (σd := []) (σ := []) ⟨e, rfl, fun i d q => by simp at q⟩ k
  simpa using this
 | d :: ds, _, k, ⟨v, r, h1, h2, h3⟩ => by
  subst h1
  exact (Reps.startOk e k h3).cons (x := some d) (y := some v) fun d' q => by cases q; exact ⟨v, rfl, h2⟩
section
variable {P : Program} {w : World} {K : PySem.W.Frag} {mg : Str → Option Value} {base : Heap}
theorem zal.mk' {x qual : Str} {st : Stmt} {f : Addr} {fd : FuncData} {N ps : List Str} {k n nN : Nat} {own' : List Nat} {body : DSt → R Out} (F : Fun K x qual st f fd) (S : zak N ps (zab st)) (hm : mg x = some (.ref f)) (b : zaG K fd ps [])
  (hn : ps.length = n) (hN : N.length = nN)
  (hb : ∀ (X : Cx) (E : XK), (∃ cdv A outer s H, X = zjh (CXe P w) P w K mg base N qual (zab st) f cdv A outer s H E) → XC X E k → XL X → DSs X E [] own' [] (zag st) body) : zal P w K mg base (k + 1) x (fnM n nN body) := by
 refine ⟨f, fd, ps, F.okX S (fun vs H Q E h => ?_) (fun cdv A outer s H vs Q E hr hsp => ?_), hm, F.kp, b⟩
 ·obtain ⟨G, ds, e, r, q⟩ := h
  by_cases hd : ds.length = n
  ·rw [← r.length, hd, hn]
  ·have : (ds.length == n) = false := by simpa using hd
   unfold fnM at q
   rw [this] at q
   exact (show False from q).elim
 ·obtain ⟨G, ds, e, r, q⟩ := hsp
  have hd : ds.length = n := by
   by_cases hd : ds.length = n
   ·exact hd
   ·have : (ds.length == n) = false := by simpa using hd
    unfold fnM at q
    rw [this] at q
    exact (show False from q).elim
  unfold fnM at q
  rw [show (ds.length == n) = true by simpa using hd] at q
  have q' : RW (fin (body (zcC nN ds))) (zaq K mg Q G H) (zaN K mg E G H) := q
  refine ⟨_, hb _ E ⟨cdv, A, outer, s, H, rfl⟩ ⟨rfl, hr, ztZ⟩ ⟨PassesOwn.leaving⟩ G, G, zcC nN ds, ?_, .refl e, ?_⟩
  ·have := Reps.startOk e (N.length - vs.length) r
   unfold L2.start zcC
   rw [← hN, r.length]
   exact .zero this
  ·cases hbd : body (zcC nN ds) with
   | bad => rw [hbd] at q'; exact q'
   | err e => rw [hbd] at q'; exact q'
   | ok o =>
    rw [hbd] at q'
    cases o with
    | rt d => exact fun v G' H' s r => (show zaq K mg Q G H d from q') v G' H' s r
    | rf es =>
     intro a vs G' H' s n e g r
     have q2 : zaq K mg Q G H (.lst es) := q'
     have sg : zaD G' (upd G' a (.lst vs)) := zcH g
     refine q2 (.ref a) (upd G' a (.lst vs)) H' ⟨s.g.trans sg, s.h, fun b u p => ?_, fun b u p1 p2 => ?_⟩ ⟨a, vs, rfl, SqL.of zav, r.mono sg⟩
     ·by_cases hb : b = a
      ·subst hb; rw [zav] at p; cases p; exact e
      ·rw [zay hb] at p; exact s.e b u p
     ·have hb : b ≠ a := zat p1 n
      rw [zay hb]; exact s.c b u p1 p2
    | nx σ => exact fun σ' G' H' ok s _ => (show zaq K mg Q G H .non from q') .non G' H' s rfl
    | bk σ => exact (show False from q').elim
    | ct σ => exact (show False from q').elim
end
theorem XC.lc {X : Cx} {E : XK} {k : Nat} (C : XC X E k) (scope : Scope) (NY : List Str) (s0 : Shared) (H0 : Hp) (Ca : Addr) (ex : List Addr) : XC (zec X scope NY s0 H0 Ca ex) E0 k := ⟨C.calm, C.room, zx2⟩
end DL
end
section
set_option Elab.async false
set_option linter.all false
set_option maxRecDepth 100000
namespace DL
open PySem L2
mutual
noncomputable def eqD : D → D → Bool
 | .non, .non => true
 | .bl a, .bl b => a == b
 | .int a, .int b => a == b
 | .str a, .str b => a == b
 | .bl a, .int b => (if a then (1 : Int) else 0) == b
 | .int a, .bl b => a == (if b then (1 : Int) else 0)
 | .tup xs, .tup ys => eqDs xs ys
 | .lst xs, .lst ys => eqDs xs ys
 | _, _ => false
noncomputable def eqDs : List D → List D → Bool
 | [], [] => true
 | x :: xs, y :: ys => eqD x y && eqDs xs ys
 | _, _ => false
end
noncomputable def zdt : Nat → D → Bool
 | _, .non => true
 | _, .bl _ => true
 | _, .int _ => true
 | _, .str _ => true
 | n + 1, .tup xs => xs.all (zdt n)
 | n + 1, .lst xs => xs.all (zdt n)
 | _, _ => false
theorem zeO : ∀ (xs ys : List D), ((List.range (min xs.length ys.length)).all (fun j => eqD (xs.getD j .non) (ys.getD j .non)) && xs.length == ys.length) = eqDs xs ys
 | [], [] => by unfold eqDs; rfl
 | [], _ :: _ => by unfold eqDs; simp
 | _ :: _, [] => by unfold eqDs; simp
 | x :: xs, y :: ys => by
  unfold eqDs
  rw [← zeO xs ys]
  simp only [List.length_cons, Nat.succ_min_succ, List.range_succ_eq_map, List.all_cons, List.getD_cons_zero, List.all_map, Bool.and_assoc]
  congr 2
  rw [Bool.eq_iff_iff]; simp
theorem zjz : ∀ (n : Nat) (d : D), zdt n d = true → eqD d d = true := by
 intro n
 induction n with
 | zero => intro d h; cases d <;> first | (simp [zdt] at h; done) | (unfold eqD; simp; done)
 | succ n ih =>
  have hl : ∀ xs : List D, xs.all (zdt n) = true → eqDs xs xs = true := fun xs => by
   induction xs with
   | nil => intro _; unfold eqDs; rfl
   | cons x xs ihx =>
    intro h
    rw [List.all_cons, Bool.and_eq_true] at h
    unfold eqDs
    rw [ih x h.1, ihx h.2]; rfl
  intro d h
  cases d with
  | tup xs => unfold eqD; exact hl xs (by unfold zdt at h; exact h)
  | lst xs => unfold eqD; exact hl xs (by unfold zdt at h; exact h)
  | _ => first | (simp [zdt] at h; done) | (unfold eqD; simp; done)
noncomputable def vOf : D → Option V
 | .non => some .non
 | .bl b => some (.bl b)
 | .int i => some (.int i)
 | .str x => some (.str x)
 | _ => none
theorem zb3 {K : PySem.W.Frag} {mg : Str → Option Value} {G : Hp} {d : D} {v x : V} (h : vOf d = some v) (r : Rep K mg G d x) : x = v ∧ zlt v = true := by
 cases d <;> first | (simp [vOf] at h; done) | (simp only [vOf, Option.some.injEq] at h; subst h; simp only [Rep] at r; exact ⟨r, rfl⟩)
theorem zrS {d d' : D} {v v' : V} (h : vOf d = some v) (h' : vOf d' = some v') : eqD d d' = eqV v v' := by
 cases d <;> first | (simp [vOf] at h; done) | (simp only [vOf, Option.some.injEq] at h; subst h; cases d' <;> first | (simp [vOf] at h'; done) | (simp only [vOf, Option.some.injEq] at h'; subst h'; unfold eqD eqV; first | rfl | simp))
theorem zpu {d d' : D} {v : V} (h : vOf d = some v) (h' : vOf d' = some v) : d = d' := by
 cases d <;> first | (simp [vOf] at h; done) | (simp only [vOf, Option.some.injEq] at h; subst h; cases d' <;> first | (simp [vOf] at h'; done) | (simp only [vOf, Option.some.injEq] at h'; cases h'; rfl))
theorem za9 {n : Nat} {d : D} (h : zdt n d = true) : (∃ v, vOf d = some v) ∨ (∃ m xs, n = m + 1 ∧ d = .tup xs ∧ xs.all (zdt m) = true) ∨ (∃ m xs, n = m + 1 ∧ d = .lst xs ∧ xs.all (zdt m) = true) := by
 cases d with
 | tup xs => cases n with
  | zero => simp [zdt] at h
  | succ m => exact .inr (.inl ⟨m, xs, rfl, rfl, by unfold zdt at h; exact h⟩)
 | lst xs => cases n with
  | zero => simp [zdt] at h
  | succ m => exact .inr (.inr ⟨m, xs, rfl, rfl, by unfold zdt at h; exact h⟩)
 | non => exact .inl ⟨_, rfl⟩
 | bl b => exact .inl ⟨_, rfl⟩
 | int i => exact .inl ⟨_, rfl⟩
 | str x => exact .inl ⟨_, rfl⟩
 | _ => simp [zdt] at h
section
variable {X : Cx} {pins : List (Addr × Obj)} {σ : St} {G H : Hp} {s : Shared}
theorem zmu (I : Inv X pins σ H s) {a : Addr} {xs ys : List V} (h1 : SqT X.K H a xs) (h2 : SqL X.K H a ys) : False := by
 obtain ⟨_, _, ⟨o, e, c, _⟩, _⟩ := I.tuple h1
 obtain ⟨_, _, ⟨o', _, e', c', _⟩, _⟩ := I.list h2
 rw [e] at e'; cases e'
 rw [c] at c'
 exact absurd c' (by simp)
theorem zeP {v : V} {a : Addr} (h : zlt v = true) : v ≠ .ref a := by rintro rfl; cases h
theorem zlF (I : Inv X pins σ H s) (e : zaD G H) : ∀ (n : Nat) {d d' : D} {v : V}, zdt n d = true → zdt n d' = true → Rep X.K X.mg G d v → Rep X.K X.mg G d' v → d = d' := by
 intro n
 induction n with
 | zero =>
  intro d d' v h h' r r'
  rcases za9 h with ⟨w, hw⟩ | ⟨_, _, z, _⟩ | ⟨_, _, z, _⟩ <;> try omega
  rcases za9 h' with ⟨w', hw'⟩ | ⟨_, _, z, _⟩ | ⟨_, _, z, _⟩ <;> try omega
  have e1 := (zb3 hw r).1
  have e2 := (zb3 hw' r').1
  rw [← e1] at hw; rw [← e2] at hw'
  exact zpu hw hw'
 | succ n ih =>
  have hl : ∀ (xs ys : List D) (vs : List V), xs.all (zdt n) = true → ys.all (zdt n) = true → Reps X.K X.mg G xs vs → Reps X.K X.mg G ys vs → xs = ys := by
   intro xs
   induction xs with
   | nil =>
    intro ys vs _ _ r r'
    cases r
    cases ys with
    | nil => rfl
    | cons y ys => obtain ⟨_, _, z, _⟩ := r'; cases z
   | cons x xs ihx =>
    intro ys vs h h' r r'
    obtain ⟨v, t, rfl, r1, r2⟩ := r
    cases ys with
    | nil => cases r'
    | cons y ys =>
     obtain ⟨v', t', z, r1', r2'⟩ := r'
     cases z
     rw [List.all_cons, Bool.and_eq_true] at h h'
     rw [ih h.1 h'.1 r1 r1', ihx ys _ h.2 h'.2 r2 r2']
  intro d d' v h h' r r'
  rcases za9 h with ⟨w, hw⟩ | ⟨m, xs, hm, rfl, hx⟩ | ⟨m, xs, hm, rfl, hx⟩
  ·rcases za9 h' with ⟨w', hw'⟩ | ⟨m', ys, hm', rfl, hy⟩ | ⟨m', ys, hm', rfl, hy⟩
   ·have e1 := (zb3 hw r).1
    have e2 := (zb3 hw' r').1
    rw [← e1] at hw; rw [← e2] at hw'
    exact zpu hw hw'
   ·obtain ⟨e1, e2⟩ := zb3 hw r
    obtain ⟨a, vs, z, _⟩ := r'
    exact absurd (e1.symm.trans z) (zeP e2)
   ·obtain ⟨e1, e2⟩ := zb3 hw r
    obtain ⟨a, vs, z, _⟩ := r'
    exact absurd (e1.symm.trans z) (zeP e2)
  ·obtain rfl : n = m := by omega
   obtain ⟨a, vs, rfl, q1, q2⟩ := r
   rcases za9 h' with ⟨w', hw'⟩ | ⟨m', ys, hm', rfl, hy⟩ | ⟨m', ys, hm', rfl, hy⟩
   ·obtain ⟨e1, e2⟩ := zb3 hw' r'
    exact absurd e1.symm (zeP e2)
   ·obtain rfl : n = m' := by omega
    obtain ⟨a', vs', z, q1', q2'⟩ := r'
    cases z
    have := I.tuple_inj (zaD.sqT e q1) (zaD.sqT e q1')
    subst this
    rw [hl xs ys _ hx hy q2 q2']
   ·obtain ⟨a', vs', z, q1', q2'⟩ := r'
    cases z
    exact (zmu I (zaD.sqT e q1) (e.seq q1')).elim
  ·obtain rfl : n = m := by omega
   obtain ⟨a, vs, rfl, q1, q2⟩ := r
   rcases za9 h' with ⟨w', hw'⟩ | ⟨m', ys, hm', rfl, hy⟩ | ⟨m', ys, hm', rfl, hy⟩
   ·obtain ⟨e1, e2⟩ := zb3 hw' r'
    exact absurd e1.symm (zeP e2)
   ·obtain ⟨a', vs', z, q1', q2'⟩ := r'
    cases z
    exact (zmu I (zaD.sqT e q1') (e.seq q1)).elim
   ·obtain rfl : n = m' := by omega
    obtain ⟨a', vs', z, q1', q2'⟩ := r'
    cases z
    have := I.list_inj (e.seq q1) (e.seq q1')
    subst this
    rw [hl xs ys _ hx hy q2 q2']
theorem zwa {α : Type} {us : List α} {j : Nat} (h : j < us.toArray.size) : us.toArray[j] = us[j]'(by simpa using h) := by simp
theorem zpv {α : Type} {xs : List α} {d : α} {j : Nat} (h : j < xs.length) : xs.getD j d = xs[j] := by simp [List.getD, h]
open SeqAt in
theorem zg4 {A : Around} {n : Nat} (ih : ∀ {d d' : D} {x x' : V} {u u' : Value}, zdt n d = true → zdt n d' = true → Rep X.K X.mg G d x → zbC x u → Rep X.K X.mg G d' x' → zbC x' u' → EqAt A s u u' (eqD d d'))
  {xs ys : List D} {vs ws : List V} {us us' : List Value} (h : xs.all (zdt n) = true) (h' : ys.all (zdt n) = true) (r : Reps X.K X.mg G xs vs) (q : zbA vs us) (r' : Reps X.K X.mg G ys ws) (q' : zbA ws us') :
  ∀ j (h1 : j < us.toArray.size) (h2 : j < us'.toArray.size), EqAt A s us.toArray[j] us'.toArray[j] (eqD (xs.getD j .non) (ys.getD j .non)) := by
 intro j h1 h2
 have l1 : j < vs.length := by rw [q.length]; simpa using h1
 have l2 : j < ws.length := by rw [q'.length]; simpa using h2
 have l3 : j < xs.length := by rw [r.length]; exact l1
 have l4 : j < ys.length := by rw [r'.length]; exact l2
 obtain ⟨v, e1, e2⟩ := r.get (i := j) (d := xs[j]) (by simp [l3])
 obtain ⟨w, e3, e4⟩ := r'.get (i := j) (d := ys[j]) (by simp [l4])
 obtain ⟨u, e5, e6⟩ := q.get e1
 obtain ⟨u', e7, e8⟩ := q'.get e3
 have z1 : us.toArray[j] = u := by rw [zwa h1]; exact (List.getElem?_eq_some_iff.mp e5).2
 have z2 : us'.toArray[j] = u' := by rw [zwa h2]; exact (List.getElem?_eq_some_iff.mp e7).2
 rw [z1, z2, zpv l3, zpv l4]
 exact ih (List.all_eq_true.mp h _ (List.getElem_mem l3)) (List.all_eq_true.mp h' _ (List.getElem_mem l4)) e2 e6 e4 e8
theorem in1_units (A : Around) : A.in1.units = A.units + 1 := rfl
open SeqAt in
theorem zwb {A : Around} {x x' : V} {u u' : Value} (q : zbC x u) (q' : zbC x' u') (f : zlt x = true) (f' : zlt x' = true) : RcAt A s u u' (eqV x x') ∧ RcNeAt A s u u' (!eqV x x') := by
 cases x with
 | non =>
  cases (show u = Value.none from q)
  cases x' with
  | non => cases (show u' = Value.none from q'); exact ⟨RcAt.none_none, RcNeAt.none_none⟩
  | bl b => cases (show u' = Value.bool b from q'); exact ⟨RcAt.none_bool b, RcNeAt.none_bool b⟩
  | int b => obtain ⟨tb, rfl⟩ := (show ∃ t, u' = Value.int b t from q'); exact ⟨RcAt.none_int b tb, RcNeAt.none_int b tb⟩
  | str b => obtain ⟨tb, rfl⟩ := (show ∃ t, u' = Value.str b t from q'); exact ⟨RcAt.none_str b tb, RcNeAt.none_str b tb⟩
  | _ => cases f'
 | bl a =>
  cases (show u = Value.bool a from q)
  cases x' with
  | non => cases (show u' = Value.none from q'); exact ⟨RcAt.bool_none a, RcNeAt.bool_none a⟩
  | bl b => cases (show u' = Value.bool b from q'); exact ⟨RcAt.bool_bool a b, RcNeAt.bool_bool a b⟩
  | int b => obtain ⟨tb, rfl⟩ := (show ∃ t, u' = Value.int b t from q'); exact ⟨RcAt.bool_int a b tb, RcNeAt.bool_int a b tb⟩
  | str b => obtain ⟨tb, rfl⟩ := (show ∃ t, u' = Value.str b t from q'); exact ⟨RcAt.bool_str a b tb, RcNeAt.bool_str a b tb⟩
  | _ => cases f'
 | int a =>
  obtain ⟨ta, rfl⟩ := (show ∃ t, u = Value.int a t from q)
  cases x' with
  | non => cases (show u' = Value.none from q'); exact ⟨RcAt.int_none a ta, RcNeAt.int_none a ta⟩
  | bl b => cases (show u' = Value.bool b from q'); exact ⟨RcAt.int_bool a ta b, RcNeAt.int_bool a ta b⟩
  | int b => obtain ⟨tb, rfl⟩ := (show ∃ t, u' = Value.int b t from q'); exact ⟨RcAt.int_int a ta b tb, RcNeAt.int_int a ta b tb⟩
  | str b => obtain ⟨tb, rfl⟩ := (show ∃ t, u' = Value.str b t from q'); exact ⟨RcAt.int_str a ta b tb, RcNeAt.int_str a ta b tb⟩
  | _ => cases f'
 | str a =>
  obtain ⟨ta, rfl⟩ := (show ∃ t, u = Value.str a t from q)
  cases x' with
  | non => cases (show u' = Value.none from q'); exact ⟨RcAt.str_none a ta, RcNeAt.str_none a ta⟩
  | bl b => cases (show u' = Value.bool b from q'); exact ⟨RcAt.str_bool a ta b, RcNeAt.str_bool a ta b⟩
  | int b => obtain ⟨tb, rfl⟩ := (show ∃ t, u' = Value.int b t from q'); exact ⟨RcAt.str_int a ta b tb, RcNeAt.str_int a ta b tb⟩
  | str b => obtain ⟨tb, rfl⟩ := (show ∃ t, u' = Value.str b t from q'); exact ⟨RcAt.str_str a ta b tb, RcNeAt.str_str a ta b tb⟩
  | _ => cases f'
 | _ => cases f
open SeqAt in
theorem zdg {A : Around} {x : V} {u : Value} {b : Addr} {items : Array Value} (fx : zlt x = true) (q : zbC x u) (hA : A.units < cLine) (h : s.heap.IsTuple b items ∨ s.heap.IsList b items) : EqAt A s u (.ref b) false ∧ EqAt A s (.ref b) u false ∧ RcAt A s u (.ref b) false ∧ RcAt A s (.ref b) u false ∧ RcNeAt A s u (.ref b) true ∧ RcNeAt A s (.ref b) u true := by
 cases x with
 | non =>
  obtain rfl : u = Value.none := q
  rcases h with h | h
  ·exact ⟨EqAt.none_tuple h hA, EqAt.tuple_none h hA, RcAt.none_tuple h hA, RcAt.tuple_none h hA, RcNeAt.none_tuple h hA, RcNeAt.tuple_none h hA⟩
  ·exact ⟨EqAt.none_list h hA, EqAt.list_none h hA, RcAt.none_list h hA, RcAt.list_none h hA, RcNeAt.none_list h hA, RcNeAt.list_none h hA⟩
 | bl a =>
  obtain rfl : u = Value.bool a := q
  rcases h with h | h
  ·exact ⟨EqAt.bool_tuple _ h hA, EqAt.tuple_bool _ h hA, RcAt.bool_tuple _ h hA, RcAt.tuple_bool _ h hA, RcNeAt.bool_tuple _ h hA, RcNeAt.tuple_bool _ h hA⟩
  ·exact ⟨EqAt.bool_list _ h hA, EqAt.list_bool _ h hA, RcAt.bool_list _ h hA, RcAt.list_bool _ h hA, RcNeAt.bool_list _ h hA, RcNeAt.list_bool _ h hA⟩
 | int a =>
  obtain ⟨t, rfl⟩ : ∃ t, u = Value.int a t := q
  rcases h with h | h
  ·exact ⟨EqAt.int_tuple _ _ h hA, EqAt.tuple_int _ _ h hA, RcAt.int_tuple _ _ h hA, RcAt.tuple_int _ _ h hA, RcNeAt.int_tuple _ _ h hA, RcNeAt.tuple_int _ _ h hA⟩
  ·exact ⟨EqAt.int_list _ _ h hA, EqAt.list_int _ _ h hA, RcAt.int_list _ _ h hA, RcAt.list_int _ _ h hA, RcNeAt.int_list _ _ h hA, RcNeAt.list_int _ _ h hA⟩
 | str a =>
  obtain ⟨t, rfl⟩ : ∃ t, u = Value.str a t := q
  rcases h with h | h
  ·exact ⟨EqAt.str_tuple _ _ h hA, EqAt.tuple_str _ _ h hA, RcAt.str_tuple _ _ h hA, RcAt.tuple_str _ _ h hA, RcNeAt.str_tuple _ _ h hA, RcNeAt.tuple_str _ _ h hA⟩
  ·exact ⟨EqAt.str_list _ _ h hA, EqAt.list_str _ _ h hA, RcAt.str_list _ _ h hA, RcAt.list_str _ _ h hA, RcNeAt.str_list _ _ h hA, RcNeAt.list_str _ _ h hA⟩
 | _ => cases fx
theorem zfv {xs ys : List D} : eqD (.tup xs) (.tup ys) = eqDs xs ys ∧ eqD (.lst xs) (.lst ys) = eqDs xs ys ∧ eqD (.tup xs) (.lst ys) = false ∧ eqD (.lst xs) (.tup ys) = false := by
 refine ⟨?_, ?_, ?_, ?_⟩ <;> (unfold eqD; rfl)
theorem zdM {d : D} {v : V} {ys : List D} (h : vOf d = some v) : eqD d (.tup ys) = false ∧ eqD d (.lst ys) = false ∧ eqD (.tup ys) d = false ∧ eqD (.lst ys) d = false := by
 cases d <;> first | (simp [vOf] at h; done) | (refine ⟨?_, ?_, ?_, ?_⟩ <;> (unfold eqD; rfl))
set_option maxHeartbeats 4000000 in
open SeqAt in
theorem zpw (I : Inv X pins σ H s) (e : zaD G H) : ∀ (n : Nat) {A : Around} {d d' : D} {x x' : V} {u u' : Value}, A.units + n < cLine → zdt n d = true → zdt n d' = true → Rep X.K X.mg G d x → zbC x u → Rep X.K X.mg G d' x' → zbC x' u' →
  EqAt A s u u' (eqD d d') ∧ RcAt A s u u' (eqD d d') ∧ RcNeAt A s u u' (!eqD d d') := by
 have ff : ∀ {A : Around} {d d' : D} {v v' x x' : V} {u u' : Value}, vOf d = some v → vOf d' = some v' → Rep X.K X.mg G d x → zbC x u → Rep X.K X.mg G d' x' → zbC x' u' → EqAt A s u u' (eqD d d') ∧ RcAt A s u u' (eqD d d') ∧ RcNeAt A s u u' (!eqD d d') := by
  intro A d d' v v' x x' u u' hv hv' r q r' q'
  obtain ⟨rfl, f1⟩ := zb3 hv r
  obtain ⟨rfl, f2⟩ := zb3 hv' r'
  rw [zrS hv hv']
  exact ⟨zvO q q' f1 f2, zwb q q' f1 f2⟩
 have seq : ∀ {d : D} {m : Nat} {xs : List D} {x : V} {u : Value}, d = .tup xs ∨ d = .lst xs → Rep X.K X.mg G d x → zbC x u → ∃ b items, u = .ref b ∧ (s.heap.IsTuple b items ∨ s.heap.IsList b items) := by
  intro d m xs x u hd r q
  rcases hd with rfl | rfl
  ·obtain ⟨a, vs, rfl, q1, q2⟩ := r
   obtain ⟨us, v1, t1, _⟩ := I.tuple (zaD.sqT e q1)
   exact ⟨a, _, q, .inl t1⟩
  ·obtain ⟨a, vs, rfl, q1, q2⟩ := r
   obtain ⟨us, v1, t1, _⟩ := I.list (e.seq q1)
   exact ⟨a, _, q, .inr t1.isList⟩
 intro n
 induction n with
 | zero =>
  intro A d d' x x' u u' hu h h' r q r' q'
  rcases za9 h with ⟨w, hw⟩ | ⟨_, _, z, _⟩ | ⟨_, _, z, _⟩ <;> try omega
  rcases za9 h' with ⟨w', hw'⟩ | ⟨_, _, z, _⟩ | ⟨_, _, z, _⟩ <;> try omega
  exact ff hw hw' r q r' q'
 | succ n ih =>
  intro A d d' x x' u u' hu h h' r q r' q'
  have hA : A.units < cLine := by omega
  have ih' : ∀ {d d' : D} {x x' : V} {u u' : Value}, zdt n d = true → zdt n d' = true → Rep X.K X.mg G d x → zbC x u → Rep X.K X.mg G d' x' → zbC x' u' → EqAt A.in1 s u u' (eqD d d') :=
   fun a b c d e f => (ih (A := A.in1) (by rw [in1_units]; omega) a b c d e f).1
  rcases za9 h with ⟨w, hw⟩ | ⟨m, xs, hm, rfl, hx⟩ | ⟨m, xs, hm, rfl, hx⟩
  ·rcases za9 h' with ⟨w', hw'⟩ | ⟨m', ys, hm', rfl, hy⟩ | ⟨m', ys, hm', rfl, hy⟩
   ·exact ff hw hw' r q r' q'
   ·obtain ⟨rfl, f1⟩ := zb3 hw r
    obtain ⟨b, items, rfl, hb⟩ := seq (m := m') (.inl rfl) r' q'
    obtain ⟨z1, _, z3, _, z5, _⟩ := zdg f1 q hA hb
    rw [(zdM hw).1]; exact ⟨z1, z3, z5⟩
   ·obtain ⟨rfl, f1⟩ := zb3 hw r
    obtain ⟨b, items, rfl, hb⟩ := seq (m := m') (.inr rfl) r' q'
    obtain ⟨z1, _, z3, _, z5, _⟩ := zdg f1 q hA hb
    rw [(zdM hw).2.1]; exact ⟨z1, z3, z5⟩
  ·obtain rfl : n = m := by omega
   rcases za9 h' with ⟨w', hw'⟩ | ⟨m', ys, hm', rfl, hy⟩ | ⟨m', ys, hm', rfl, hy⟩
   ·obtain ⟨rfl, f1⟩ := zb3 hw' r'
    obtain ⟨b, items, rfl, hb⟩ := seq (m := n) (.inl rfl) r q
    obtain ⟨_, z2, _, z4, _, z6⟩ := zdg f1 q' hA hb
    rw [(zdM hw').2.2.1]; exact ⟨z2, z4, z6⟩
   ·obtain rfl : n = m' := by omega
    have hr := r; have hr' := r'
    obtain ⟨a, vs, rfl, q1, q2⟩ := r
    obtain rfl : u = Value.ref a := q
    obtain ⟨us, v1, t1, _⟩ := I.tuple (zaD.sqT e q1)
    obtain ⟨b, ws, rfl, q1', q2'⟩ := r'
    obtain rfl : u' = Value.ref b := q'
    obtain ⟨us', v1', t1', _⟩ := I.tuple (zaD.sqT e q1')
    have t1 : s.heap.IsTuple a us.toArray := t1
    have t1' : s.heap.IsTuple b us'.toArray := t1'
    have z := RcAt.tuples t1 t1' hA (zg4 ih' hx hy q2 v1 q2' v1')
    have zn := RcNeAt.tuples t1 t1' hA (zg4 ih' hx hy q2 v1 q2' v1')
    have hz : ((List.range (min us.toArray.size us'.toArray.size)).all (fun j => eqD (xs.getD j .non) (ys.getD j .non)) && us.toArray.size == us'.toArray.size) = eqD (.tup xs) (.tup ys) := by
     rw [zfv.1, ← zeO]
     simp only [List.size_toArray, ← v1.length, ← v1'.length, ← q2.length, ← q2'.length]
    rw [hz] at z zn
    refine ⟨?_, z, zn⟩
    by_cases hab : a = b
    ·subst hab
     have ed := zlF I e (n + 1) h h' hr hr'
     rw [ed, zjz _ _ h']; exact EqAt.same _
    ·exact EqAt.of_refs hab z
   ·obtain ⟨a, vs, rfl, q1, q2⟩ := r
    obtain rfl : u = Value.ref a := q
    obtain ⟨us, v1, t1, _⟩ := I.tuple (zaD.sqT e q1)
    obtain ⟨b, ws, rfl, q1', q2'⟩ := r'
    obtain rfl : u' = Value.ref b := q'
    obtain ⟨us', v1', t1', _⟩ := I.list (e.seq q1')
    have t1 : s.heap.IsTuple a us.toArray := t1
    rw [zfv.2.2.1]
    exact ⟨EqAt.tuple_list t1 t1'.isList hA, RcAt.tuple_list t1 t1'.isList hA, RcNeAt.tuple_list t1 t1'.isList hA⟩
  ·obtain rfl : n = m := by omega
   rcases za9 h' with ⟨w', hw'⟩ | ⟨m', ys, hm', rfl, hy⟩ | ⟨m', ys, hm', rfl, hy⟩
   ·obtain ⟨rfl, f1⟩ := zb3 hw' r'
    obtain ⟨b, items, rfl, hb⟩ := seq (m := n) (.inr rfl) r q
    obtain ⟨_, z2, _, z4, _, z6⟩ := zdg f1 q' hA hb
    rw [(zdM hw').2.2.2]; exact ⟨z2, z4, z6⟩
   ·obtain ⟨a, vs, rfl, q1, q2⟩ := r
    obtain rfl : u = Value.ref a := q
    obtain ⟨us, v1, t1, _⟩ := I.list (e.seq q1)
    obtain ⟨b, ws, rfl, q1', q2'⟩ := r'
    obtain rfl : u' = Value.ref b := q'
    obtain ⟨us', v1', t1', _⟩ := I.tuple (zaD.sqT e q1')
    have t1' : s.heap.IsTuple b us'.toArray := t1'
    rw [zfv.2.2.2]
    exact ⟨EqAt.list_tuple t1.isList t1' hA, RcAt.list_tuple t1.isList t1' hA, RcNeAt.list_tuple t1.isList t1' hA⟩
   ·obtain rfl : n = m' := by omega
    have hr := r; have hr' := r'
    obtain ⟨a, vs, rfl, q1, q2⟩ := r
    obtain rfl : u = Value.ref a := q
    obtain ⟨us, v1, t1, _⟩ := I.list (e.seq q1)
    obtain ⟨b, ws, rfl, q1', q2'⟩ := r'
    obtain rfl : u' = Value.ref b := q'
    obtain ⟨us', v1', t1', _⟩ := I.list (e.seq q1')
    have both : RcAt A s (.ref a) (.ref b) (eqD (.lst xs) (.lst ys)) ∧ RcNeAt A s (.ref a) (.ref b) (!eqD (.lst xs) (.lst ys)) := by
     by_cases hl : us.toArray.size = us'.toArray.size
     ·have z := RcAt.lists t1.isList t1'.isList hl hA (zg4 ih' hx hy q2 v1 q2' v1')
      have zn := RcNeAt.lists t1.isList t1'.isList hl hA (zg4 ih' hx hy q2 v1 q2' v1')
      have hz : (List.range us.toArray.size).all (fun j => eqD (xs.getD j .non) (ys.getD j .non)) = eqD (.lst xs) (.lst ys) := by
       have hl' : xs.length = ys.length := by rw [q2.length, q2'.length, v1.length, v1'.length]; simpa using hl
       rw [zfv.2.1, ← zeO, hl', Nat.min_self, List.size_toArray, ← v1.length, ← q2.length, hl']
       simp
      rw [hz] at z zn
      exact ⟨z, zn⟩
     ·have z := RcAt.lists_lengths t1.isList t1'.isList (by simpa using hl) hA
      have zn := RcNeAt.lists_lengths t1.isList t1'.isList (by simpa using hl) hA
      have hz : eqD (.lst xs) (.lst ys) = false := by
       have hl' : ¬ xs.length = ys.length := by rw [q2.length, q2'.length, v1.length, v1'.length]; simpa using hl
       rw [zfv.2.1, ← zeO]
       simp [hl']
      rw [hz]
      exact ⟨z, zn⟩
    refine ⟨?_, both⟩
    by_cases hab : a = b
    ·subst hab
     have ed := zlF I e (n + 1) h h' hr hr'
     rw [ed, zjz _ _ h']; exact EqAt.same _
    ·exact EqAt.of_refs hab both.1
end
end DL
end
section
set_option Elab.async false
set_option linter.all false
set_option maxRecDepth 100000
namespace DL
open PySem L2 PyProof.Rows
noncomputable def B (n : Nat) (i : Int) : Prop := i.natAbs < 2 ^ n
theorem B.mono {m n : Nat} {i : Int} (h : B m i) (l : m ≤ n) : B n i := Nat.lt_of_lt_of_le h (Nat.pow_le_pow_right (by decide) l)
theorem B.mul {m n : Nat} {i j : Int} (a : B m i) (b : B n j) : B (m + n) (i * j) := by
 unfold B at *
 rw [Int.natAbs_mul, Nat.pow_add]
 exact Nat.mul_lt_mul'' a b
theorem B.add {m n : Nat} {i j : Int} (a : B m i) (b : B n j) : B (max m n + 1) (i + j) := by
 have a' := a.mono (Nat.le_max_left m n)
 have b' := b.mono (Nat.le_max_right m n)
 unfold B at *
 rw [Nat.pow_succ]
 omega
theorem B.sub {m n : Nat} {i j : Int} (a : B m i) (b : B n j) : B (max m n + 1) (i - j) := by
 have a' := a.mono (Nat.le_max_left m n)
 have b' := b.mono (Nat.le_max_right m n)
 unfold B at *
 rw [Nat.pow_succ]
 omega
theorem B.of {n : Nat} {i : Int} {k : Nat} (h : i.natAbs ≤ k) (hk : k < 2 ^ n := by decide +kernel) : B n i := Nat.lt_of_le_of_lt h hk
theorem B.log {n : Nat} {i : Int} (h : B n i) (hn : 0 < n) : i.natAbs.log2 < n := znN hn h
noncomputable def zlG (i : Int) : Bool := decide (i.natAbs.log2 < 60000000)
theorem zpx {n : Nat} {i : Int} (h : B n i) (hn : n ≤ 60000000 := by decide) : zlG i = true := by
 refine decide_eq_true ?_
 cases n with
 | zero =>
  have : i.natAbs = 0 := by unfold B at h; omega
  rw [this]; decide
 | succ k => exact Nat.lt_of_lt_of_le (h.log (Nat.succ_pos _)) hn
theorem zuh {i j : Int} (a : zlG i = true) (b : zlG j = true) : IntMulOk i j := by
 have h1 : i.natAbs.log2 < 60000000 := of_decide_eq_true a
 have h2 : j.natAbs.log2 < 60000000 := of_decide_eq_true b
 have bits : ∀ k : Int, k.natAbs.log2 < 60000000 → Builtin.Int.intBits k ≤ 60000000 := fun k h => by
  unfold Builtin.Int.intBits
  split
  ·exact Nat.zero_le _
  ·omega
 have b1 := bits i h1
 have b2 := bits j h2
 unfold IntMulOk
 intro z
 simp only [Bool.and_eq_true, decide_eq_true_eq, Builtin.Int.intTooBig] at z
 have e := z.2
 have l : (bitsLine : Int) = 134217728 := by decide
 rw [l] at e
 omega
noncomputable def zpy (i : Int) : Bool := decide (i ≠ 0 ∧ i.natAbs.log2 < 9000)
theorem zlH {n : Nat} {i : Int} (h : B n i) (h0 : i ≠ 0) (hn : n ≤ 9000 := by decide) : zpy i = true := by
 refine decide_eq_true ⟨h0, ?_⟩
 cases n with
 | zero =>
  have : i.natAbs = 0 := by unfold B at h; omega
  omega
 | succ k => exact Nat.lt_of_lt_of_le (h.log (Nat.succ_pos _)) hn
noncomputable def zym (i j : Int) : Bool := decide (0 ≤ j ∧ j ≤ 1000000 ∧ i.natAbs < 2 ^ 64)
section
variable {X : Cx} {K : PySem.W.Frag} {mg : Str → Option Value}
noncomputable def gI (C : Int → Int → Bool) (h : Int → Int → Int) : D → D → R D
 | .int i, .int j => bif C i j then .ok (.int (h i j)) else .bad
 | _, _ => .bad
noncomputable def gB (h : Int → Int → Bool) : D → D → R D
 | .int i, .int j => .ok (.bl (h i j))
 | _, _ => .bad
theorem zu9 {C : Int → Int → Bool} {h : Int → Int → Int} : zf2 (gI C h) := by
 intro a b e
 cases a <;> cases b <;> simp only [gI] <;> first | (intro z; cases z) | (intro z; revert z; cases C _ _ <;> simp [cond])
theorem zxn {h : Int → Int → Bool} : zf2 (gB h) := by
 intro a b e
 cases a <;> cases b <;> simp only [gB] <;> (intro z; cases z)
theorem zva {C : Int → Int → Bool} {C' : Int → Int → Prop} {h : Int → Int → Int} (hc : ∀ i j, C i j = true → C' i j) : OpD K mg (rI C' fun i j => .int (h i j)) (gI C h) := by
 intro G H a b x y Q e ra rb q
 cases a with
 | int i => cases b with
  | int j =>
   cases ra; cases rb
   cases hC : C i j with
   | false => simp only [gI, hC, cond_false] at q; exact q.elim
   | true =>
    simp only [gI, hC, cond_true] at q
    exact ⟨i, j, rfl, rfl, hc i j hC, zaq.now q e rfl⟩
  | _ => exact (show False from q).elim
 | _ => exact (show False from q).elim
theorem zxo {h : Int → Int → Bool} : OpD K mg (rI0 fun i j => .bl (h i j)) (gB h) := by
 intro G H a b x y Q e ra rb q
 cases a with
 | int i => cases b with
  | int j => cases ra; cases rb; exact ⟨i, j, rfl, rfl, zaq.now q e rfl⟩
  | _ => exact (show False from q).elim
 | _ => exact (show False from q).elim
theorem zui : OpR X (binaryOp .Mult) (rI (fun i j => zlG i = true ∧ zlG j = true) fun i j => .int (i * j)) := opI fun _ _ _ _ _ _ _ hc q => mul_int q (zuh hc.1 hc.2)
theorem zrT : OpR X (binaryOp .FloorDiv) (rI (fun _ j => zpy j = true) fun i j => .int (i.fdiv j)) := opI fun i j _ _ _ _ _ hc q => by
 have h := of_decide_eq_true (p := j ≠ 0 ∧ j.natAbs.log2 < 9000) hc
 exact floordiv_int h.1 q (.inl (PyProof.noPylong_of_log2 h.2))
noncomputable def zwc (K : PySem.W.Frag) : R2 := fun x y H Q => ∃ l b xs zs, x = .ref l ∧ y = .ref b ∧ SqL K H l xs ∧ SqL K H b zs ∧ xs.length + zs.length ≤ sizeLine ∧ ∀ p, H p = none → Q (.ref p) (upd H p (.lst (xs ++ zs)))
theorem zuj : OpR X (binaryOp .Add) (zwc X.K) := by
 intro pins s σ H x y v u Q I rx ry h
 obtain ⟨l, b, xs, zs, rfl, rfl, hH, hB, hz, q⟩ := h
 cases rx
 cases ry
 obtain ⟨its, r, pl, _⟩ := I.list hH
 obtain ⟨its2, r2, pl2, _⟩ := I.list hB
 obtain ⟨⟨cls, dd, data, sl⟩, ho, hc, n, hd⟩ := id pl.isList
 obtain ⟨⟨cls2, dd2, data2, sl2⟩, ho2, hc2, n2, hd2⟩ := id pl2.isList
 simp only at hc hd hc2 hd2
 subst hc hd hc2 hd2
 refine concat_meets ⟨_, ho, rfl⟩ ⟨_, ho2, rfl⟩ noFill_list_add seq_list_add PySem.F.slot_list_add PySem.F.entry_list_add (PySem.F.args_list_add_2 _ _) (list_addW l b its.toArray its2.toArray n n2 dd dd2 sl sl2 (by rw [List.size_toArray, List.size_toArray, ← r.length, ← r2.length]; exact hz)) ⟨ho, ho2, ?_⟩
 have ea : its.toArray ++ its2.toArray = (its ++ its2).toArray := by simp
 rw [ea]
 exact ⟨.ref _, _, I.lnew (t' := s.toks) (r.append r2) (by rw [List.length_append]; exact hz), rfl, q _ I.fresh⟩
noncomputable def zlI (n : Nat) : Bool := decide (n ≤ sizeLine)
noncomputable def zbR : D → D → R D
 | .int i, .int j => .ok (.int (i + j))
 | .str x, .str y => bif zlI (x.length + y.length) then .ok (.str (x ++ y)) else .bad
 | .lst xs, .lst ys => bif zlI (xs.length + ys.length) then .ok (.lst (xs ++ ys)) else .bad
 | .tup xs, .tup ys => bif zlI (xs.length + ys.length) && !xs.isEmpty then .ok (.tup (xs ++ ys)) else .bad
 | _, _ => .bad
theorem zwd : zf2 zbR := by
 intro a b e
 cases a <;> cases b <;> simp only [zbR] <;> first | (intro z; cases z; done) | (generalize zlI _ = k; cases k <;> simp [cond] <;> (try (generalize List.isEmpty _ = k2; cases k2 <;> simp)))
noncomputable abbrev zyn (K : PySem.W.Frag) : R2 := fun x y H Q => rI0 (fun i j => .int (i + j)) x y H Q ∨ ((∃ i j, x = .str i ∧ y = .str j ∧ i.length + j.length ≤ sizeLine ∧ Q (.str (i ++ j)) H) ∨ (zwc K x y H Q ∨ zvM K x y H Q))
theorem zwe : OpD K mg (zyn K) zbR := by
 intro G H a b x y Q e ra rb q
 cases a with
 | int i => cases b with
  | int j => cases ra; cases rb; exact .inl ⟨i, j, rfl, rfl, zaq.now q e rfl⟩
  | _ => exact (show False from q).elim
 | str i => cases b with
  | str j =>
   cases ra; cases rb
   cases hC : zlI (i.length + j.length) with
   | false => simp only [zbR, hC, cond_false] at q; exact q.elim
   | true =>
    simp only [zbR, hC, cond_true] at q
    exact .inr (.inl ⟨i, j, rfl, rfl, of_decide_eq_true hC, zaq.now q e rfl⟩)
  | _ => exact (show False from q).elim
 | lst xs => cases b with
  | lst ys =>
   obtain ⟨p, vs, rfl, h1, h2⟩ := ra
   obtain ⟨p', ws, rfl, h1', h2'⟩ := rb
   cases hC : zlI (xs.length + ys.length) with
   | false => simp only [zbR, hC, cond_false] at q; exact q.elim
   | true =>
    simp only [zbR, hC, cond_true] at q
    refine .inr (.inr (.inl ⟨p, p', vs, ws, rfl, rfl, e.seq h1, e.seq h1', by rw [← h2.length, ← h2'.length]; exact of_decide_eq_true hC, fun l hl => ?_⟩))
    have s := zbH.pub (o := .lst (vs ++ ws)) e hl
    exact (show zaq K mg Q G H (.lst (xs ++ ys)) from q) _ _ _ s ⟨l, _, rfl, SqL.of zav, (h2.append h2').mono s.g⟩
  | _ => exact (show False from q).elim
 | tup xs => cases b with
  | tup ys =>
   obtain ⟨p, vs, rfl, h1, h2⟩ := ra
   obtain ⟨p', ws, rfl, h1', h2'⟩ := rb
   cases hC : (zlI (xs.length + ys.length) && !xs.isEmpty) with
   | false => simp only [zbR, hC, cond_false] at q; exact q.elim
   | true =>
    simp only [zbR, hC, cond_true] at q
    rw [Bool.and_eq_true] at hC
    have q' : zaq K mg Q G H (.tup (xs ++ ys)) := q
    refine .inr (.inr (.inr ⟨p, p', vs, ws, rfl, rfl, zaD.sqT e h1, zaD.sqT e h1', fun z => ?_, by rw [← h2.length, ← h2'.length]; exact of_decide_eq_true hC.1, fun z => ?_, fun z l hl => ?_⟩))
    ·subst z
     have := h2.length
     have hx : xs = [] := List.length_eq_zero_iff.mp this
     subst hx; simp at hC
    ·subst z
     have := h2'.length
     have hy : ys = [] := List.length_eq_zero_iff.mp this
     subst hy
     rw [List.append_nil] at q'
     exact q'.now e ⟨p, vs, rfl, h1, h2⟩
    ·have s := zbH.pub (o := .tup (vs ++ ws)) e hl
     exact q' _ _ _ s ⟨l, _, rfl, SqT.of zav, (h2.append h2').mono s.g⟩
  | _ => exact (show False from q).elim
 | _ => exact (show False from q).elim
noncomputable abbrev gSub : D → D → R D := gI (fun _ _ => true) fun i j => i - j
noncomputable abbrev zbJ : D → D → R D := gI (fun i j => zlG i && zlG j) fun i j => i * j
noncomputable abbrev zf6 : D → D → R D := gI (fun _ j => zpy j) fun i j => i.fdiv j
noncomputable abbrev zfn : D → D → R D := gI (fun _ j => decide (j ≠ 0)) fun i j => i.fmod j
noncomputable abbrev zyo : D → D → R D := gI zym fun i j => i ^ j.toNat
noncomputable abbrev zyp : D → D → R D := gI (fun _ j => decide (0 ≤ j)) fun i j => i / 2 ^ j.toNat
variable {E : XK} {a b c : Expr} {fa fb fc : DSt → R D} {pos : Pos}
theorem zwf (ha : DE X E a fa) (hb : DE X E b fb) : DE X E (.BinOp a .Add b pos) (eOp zbR fa fb) := zlz (zvC.or (znI.or (zuj.or ztR))) zwe zwd ha hb
theorem zwg (ha : DE X E a fa) (hb : DE X E b fb) : DE X E (.BinOp a .Sub b pos) (eOp gSub fa fb) :=
 zlz (r := rI (fun _ _ => True) fun i j => .int (i - j)) (opI fun _ _ _ _ _ _ _ _ q => sub_int q) (zva fun _ _ _ => trivial) zu9 ha hb
theorem zwh (ha : DE X E a fa) (hb : DE X E b fb) : DE X E (.BinOp a .Mult b pos) (eOp zbJ fa fb) := zlz zui (zva fun i j h => by simpa using h) zu9 ha hb
theorem zuk (ha : DE X E a fa) (hb : DE X E b fb) : DE X E (.BinOp a .FloorDiv b pos) (eOp zf6 fa fb) := zlz zrT (zva fun i j h => h) zu9 ha hb
theorem zwi (ha : DE X E a fa) (hb : DE X E b fb) : DE X E (.BinOp a .Mod b pos) (eOp zfn fa fb) := zlz ztJ (zva fun i j h => of_decide_eq_true h) zu9 ha hb
theorem zwj (ha : DE X E a fa) (hb : DE X E b fb) : DE X E (.BinOp a .Pow b pos) (eOp zyo fa fb) := zlz zvD (zva fun i j h => of_decide_eq_true (p := 0 ≤ j ∧ j ≤ 1000000 ∧ i.natAbs < 2 ^ 64) h) zu9 ha hb
theorem zwk (ha : DE X E a fa) (hb : DE X E b fb) : DE X E (.BinOp a .RShift b pos) (eOp zyp fa fb) := zlz zvE (zva fun i j h => of_decide_eq_true h) zu9 ha hb
noncomputable def zul : D → R D
 | .int i => .ok (.int (-i))
 | _ => .bad
theorem zwl (ha : DE X E a fa) : DE X E (.UnaryOp .USub a pos) (eUn zul fa) := by
 refine zyh zvF (fun G H d x Q e r q => ?_) (fun d e => ?_) ha
 ·cases d with
  | int i => cases r; exact ⟨i, rfl, zaq.now q e rfl⟩
  | _ => exact (show False from q).elim
 ·cases d <;> simp [zul]
structure zmv (X : Cx) (op : CmpOp) (g : D → D → R D) : Prop where
 ex : ∃ r, OpR X (compareOp op) r ∧ OpD X.K X.mg r g ∧ zf2 g
noncomputable abbrev gLt : D → D → R D := gB fun i j => decide (i < j)
noncomputable abbrev gLe : D → D → R D := gB fun i j => decide (i ≤ j)
noncomputable abbrev gGt : D → D → R D := gB fun i j => decide (j < i)
noncomputable abbrev gGe : D → D → R D := gB fun i j => decide (j ≤ i)
theorem zlJ : zmv X .Lt gLt := ⟨_, zxK, zxo, zxn⟩
theorem zum : zmv X .LtE gLe := ⟨_, zxL, zxo, zxn⟩
theorem zyq : zmv X .Gt gGt := ⟨_, zxM, zxo, zxn⟩
theorem zwm : zmv X .GtE gGe := ⟨_, zxN, zxo, zxn⟩
noncomputable def zoo (a b : D) : Bool := zdt 9 a && zdt 9 b
noncomputable def gEq (a b : D) : R D := bif zoo a b then .ok (.bl (eqD a b)) else .bad
noncomputable def gNe (a b : D) : R D := bif zoo a b then .ok (.bl (!eqD a b)) else .bad
noncomputable def rEqD (K : PySem.W.Frag) (mg : Str → Option Value) (neg : Bool) : R2 := fun x y H Q => ∃ G d d', zaD G H ∧ Rep K mg G d x ∧ Rep K mg G d' y ∧ zoo d d' = true ∧ Q (.bl (bif neg then !eqD d d' else eqD d d')) H
theorem zwn {k : Nat} (r : zhc k X.A) : OpR X (compareOp .Eq) (rEqD X.K X.mg false) := by
 intro pins s σ H x y v u Q I rx ry h
 obtain ⟨G, d, d', e, r1, r2, c, q⟩ := h
 unfold zoo at c
 rw [Bool.and_eq_true] at c
 have hu : X.A.units + 9 < cLine := by have := r.un; omega
 exact (zpw I e 9 hu c.1 c.2 r1 rx r2 ry).2.1 _ _ _ _ ⟨.bl _, H, I, rfl, q⟩
theorem zwo {k : Nat} (r : zhc k X.A) : OpR X (compareOp .NotEq) (rEqD X.K X.mg true) := by
 intro pins s σ H x y v u Q I rx ry h
 obtain ⟨G, d, d', e, r1, r2, c, q⟩ := h
 unfold zoo at c
 rw [Bool.and_eq_true] at c
 have hu : X.A.units + 9 < cLine := by have := r.un; omega
 exact (zpw I e 9 hu c.1 c.2 r1 rx r2 ry).2.2 _ _ _ _ ⟨.bl _, H, I, rfl, q⟩
theorem zyr {k : Nat} (C : XC X E k) : zmv X .Eq gEq := ⟨_, zwn C.room, fun G H a b x y Q e ra rb q => by
 unfold gEq at q
 cases hc : zoo a b with
 | false => rw [hc] at q; exact q.elim
 | true => rw [hc] at q; exact ⟨G, a, b, e, ra, rb, hc, zaq.now q e rfl⟩, fun a b e => by unfold gEq; cases zoo a b <;> simp [cond]⟩
theorem zys {k : Nat} (C : XC X E k) : zmv X .NotEq gNe := ⟨_, zwo C.room, fun G H a b x y Q e ra rb q => by
 unfold gNe at q
 cases hc : zoo a b with
 | false => rw [hc] at q; exact q.elim
 | true => rw [hc] at q; exact ⟨G, a, b, e, ra, rb, hc, zaq.now q e rfl⟩, fun a b e => by unfold gNe; cases zoo a b <;> simp [cond]⟩
noncomputable def zlK : D → Bool
 | .non => true
 | _ => false
noncomputable def gIs : D → D → R D
 | d, .non => .ok (.bl (zlK d))
 | .bl a, .bl b => .ok (.bl (a == b))
 | _, _ => .bad
noncomputable def zun : D → D → R D
 | d, .non => .ok (.bl (!zlK d))
 | .bl a, .bl b => .ok (.bl (a != b))
 | _, _ => .bad
theorem zks {G : Hp} {d : D} {x : V} (r : Rep K mg G d x) : decide (x = .non) = zlK d := by
 have nr : ∀ a : Addr, decide (V.ref a = V.non) = false := fun a => by simp
 cases d with
 | non => cases r; rfl
 | bl b => cases r; rfl
 | int i => cases r; rfl
 | str y => cases r; rfl
 | ty n => cases r; rfl
 | cls c => obtain ⟨C, rfl, _⟩ := r; exact nr _
 | tup xs => obtain ⟨a, vs, rfl, _⟩ := r; exact nr _
 | lst xs => obtain ⟨a, vs, rfl, _⟩ := r; exact nr _
 | dct ks xs => obtain ⟨a, vs, rfl, _⟩ := r; exact nr _
 | exc c as => obtain ⟨a, C, dct, vs, rfl, _⟩ := r; exact nr _
theorem zuo : zmv X .Is gIs := ⟨_, zvG.or zrp, fun G H a b x y Q e ra rb q => by
 cases b with
 | non => cases rb; exact .inl ⟨rfl, by rw [zks ra]; cases a <;> exact zaq.now q e rfl⟩
 | bl k => cases a with
  | bl k' => cases ra; cases rb; exact .inr ⟨k', k, rfl, rfl, zaq.now q e rfl⟩
  | _ => exact (show False from q).elim
 | _ => cases a <;> exact (show False from q).elim, fun a b e => by cases a <;> cases b <;> simp [gIs]⟩
theorem zmw : zmv X .IsNot zun := ⟨_, ztK.or zlu, fun G H a b x y Q e ra rb q => by
 cases b with
 | non => cases rb; exact .inl ⟨rfl, by rw [zks ra]; cases a <;> exact zaq.now q e rfl⟩
 | bl k => cases a with
  | bl k' => cases ra; cases rb; exact .inr ⟨k', k, rfl, rfl, zaq.now q e rfl⟩
  | _ => exact (show False from q).elim
 | _ => cases a <;> exact (show False from q).elim, fun a b e => by cases a <;> cases b <;> simp [zun]⟩
theorem zpz {op : CmpOp} {g : D → D → R D} (cf : zmv X op g) (ha : DE X E a fa) (hb : DE X E b fb) (hm : behindInMarks op b = false := by first | exact zaM _ (by decide) (by decide) | rfl) : DE X E (.Compare a [op] [b] pos) (eOp g fa fb) := by
 obtain ⟨r, h1, h2, h3⟩ := cf.ex
 exact zv3 h1 h2 h3 ha hb hm
theorem zcd {op : CmpOp} {g : D → D → R D} (cf : zmv X op g) (ha : DE X E a fa) (hb : DE X E b fb) (hm : behindInMarks op b = false := by first | exact zaM _ (by decide) (by decide) | rfl) : DT X E (.Compare a [op] [b] pos) (zax (eOp g fa fb)) := by
 obtain ⟨r, h1, h2, h3⟩ := cf.ex
 exact zv4 h1 h2 h3 ha hb hm
theorem zpA {op op' : CmpOp} {g g' : D → D → R D} (cf : zmv X op g) (cf' : zmv X op' g') (ha : DE X E a fa) (hb : DE X E b fb) (hc : DE X E c fc) (hm : lastMarks [op, op'] [b, c] = false := by with_unfolding_all rfl) : DT X E (.Compare a [op, op'] [b, c] pos) (zax (zkm g g' fa fb fc)) := by
 obtain ⟨r, h1, h2, h3⟩ := cf.ex
 obtain ⟨r', h1', h2', h3'⟩ := cf'.ex
 exact zrO h1 h2 h3 h1' h2' h3' ha hb hc hm
end
end DL
end
section
set_option Elab.async false
set_option linter.all false
set_option maxRecDepth 100000
namespace DL
open PySem L2 PyProof.Rows
section
variable {X : Cx} {E : XK} {K : PySem.W.Frag} {mg : Str → Option Value} {G H : Hp}
theorem zrU : bootBuiltins "all" = some (.builtin "all") := by rfl
theorem zrV : bootBuiltins "any" = some (.builtin "any") := by rfl
theorem zrW : bootBuiltins "isinstance" = some (.builtin "isinstance") := by rfl
theorem zsE : bootBuiltins "int" = some (.type "int") := by rfl
theorem zup : bootBuiltins "bool" = some (.type "bool") := by rfl
theorem zjA : bootBuiltins "tuple" = some (.type "tuple") := by rfl
theorem zpB : bootBuiltins "list" = some (.type "list") := by rfl
theorem Reps.one {d : D} {vs : List V} (h : Reps K mg G [d] vs) : ∃ v, vs = [v] ∧ Rep K mg G d v := by
 obtain ⟨v, r, rfl, h2, h3⟩ := h
 cases h3
 exact ⟨v, rfl, h2⟩
theorem Reps.two {d d' : D} {vs : List V} (h : Reps K mg G [d, d'] vs) : ∃ v w, vs = [v, w] ∧ Rep K mg G d v ∧ Rep K mg G d' w := by
 obtain ⟨v, r, rfl, h2, h3⟩ := h
 obtain ⟨w, rfl, h4⟩ := h3.one
 exact ⟨v, w, rfl, h2, h4⟩
noncomputable def g1 {α : Type} (g : D → R α) : List D → R α
 | [d] => g d
 | _ => .bad
noncomputable def g2 {α : Type} (g : D → D → R α) : List D → R α
 | [d, e] => g d e
 | _ => .bad
theorem cd1 {r : List V → Hp → VK → Prop} {g : D → R D} (h : ∀ (G H : Hp) (d : D) (v : V) (Q : VK), zaD G H → Rep K mg G d v → RW (g d) (zaq K mg Q G H) (fun _ => False) → r [v] H Q) : zfu K mg r (g1 g) := by
 intro G H ds vs Q e rp q
 match ds, rp, q with
 | [], rp, q => exact (show False from q).elim
 | [d], rp, q => obtain ⟨v, rfl, h1⟩ := rp.one; exact h G H d v Q e h1 q
 | _ :: _ :: _, rp, q => exact (show False from q).elim
theorem cd2 {r : List V → Hp → VK → Prop} {g : D → D → R D} (h : ∀ (G H : Hp) (d d' : D) (v v' : V) (Q : VK), zaD G H → Rep K mg G d v → Rep K mg G d' v' → RW (g d d') (zaq K mg Q G H) (fun _ => False) → r [v, v'] H Q) : zfu K mg r (g2 g) := by
 intro G H ds vs Q e rp q
 match ds, rp, q with
 | [], rp, q => exact (show False from q).elim
 | [d], rp, q => exact (show False from q).elim
 | [d, d'], rp, q => obtain ⟨v, w, rfl, h1, h2⟩ := rp.two; exact h G H d d' v w Q e h1 h2 q
 | _ :: _ :: _ :: _, rp, q => exact (show False from q).elim
variable {x : Str} {p pos : Pos} {e : Expr} {es : List Expr} {fs : DSt → R (List D)}
noncomputable def zyt : D → R D
 | .lst xs => .ok (.int xs.length)
 | .tup xs => .ok (.int xs.length)
 | .str y => bif zlI y.length then .ok (.int y.length) else .bad
 | _ => .bad
noncomputable abbrev zfw := g1 zyt
theorem zwp : zfu K mg (fun xs H Q => (∃ p ys, xs = [.ref p] ∧ (SqL K H p ys ∨ SqT K H p ys) ∧ Q (.int ys.length) H) ∨ (∃ z, xs = [.str z] ∧ z.length ≤ sizeLine ∧ Q (.int z.length) H)) zfw := cd1 fun G H d v Q e r q => by
 cases d with
 | lst xs =>
  obtain ⟨a, vs, rfl, h1, h2⟩ := r
  exact .inl ⟨a, vs, rfl, .inl (e.seq h1), by rw [← h2.length]; exact zaq.now q e rfl⟩
 | tup xs =>
  obtain ⟨a, vs, rfl, h1, h2⟩ := r
  exact .inl ⟨a, vs, rfl, .inr (zaD.sqT e h1), by rw [← h2.length]; exact zaq.now q e rfl⟩
 | str y =>
  cases r
  cases hC : zlI y.length with
  | false => simp only [zyt, hC, cond_false] at q; exact q.elim
  | true => simp only [zyt, hC, cond_true] at q; exact .inr ⟨y, rfl, of_decide_eq_true hC, zaq.now q e rfl⟩
 | _ => exact (show False from q).elim
theorem zwq (hm : X.mg "len" = none) (ha : DA X E (e :: es) fs) (hg : Gl X "len" := by rfl) (he : starEach (e :: es) X.env = (false, eval e X.env) :: starEach es X.env := by rfl) (hpl : (backTo pos (starEach es X.env)).any (·.1) = false := by rfl) : DE X E (.Call (.Name "len" p) (e :: es) [] pos) (zb0 zfw fs) :=
 zgh (zkb.or zkc) zwp hm PySem.boot_len ha hg (by decide) (by decide) he hpl
noncomputable def abs1 : D → R D
 | .int i => .ok (.int (i.natAbs : Int))
 | _ => .bad
noncomputable abbrev zrX := g1 abs1
theorem zwr : zfu K mg (fun xs H Q => ∃ i, xs = [.int i] ∧ Q (.int (if i < 0 then -i else i)) H) zrX := cd1 fun G H d v Q e r q => by
 cases d with
 | int i =>
  cases r
  have ea : (if i < 0 then -i else i) = (i.natAbs : Int) := by split <;> omega
  exact ⟨i, rfl, by rw [ea]; exact zaq.now q e rfl⟩
 | _ => exact (show False from q).elim
theorem zws (hm : X.mg "abs" = none) (ha : DA X E (e :: es) fs) (hg : Gl X "abs" := by rfl) (he : starEach (e :: es) X.env = (false, eval e X.env) :: starEach es X.env := by rfl) (hpl : (backTo pos (starEach es X.env)).any (·.1) = false := by rfl) : DE X E (.Call (.Name "abs" p) (e :: es) [] pos) (zb0 zrX fs) :=
 zgh zrh zwr hm PyProof.Rows.boot_abs ha hg (by decide) (by decide) he hpl
noncomputable def min2 : D → D → R D
 | .int i, .int j => .ok (.int (min i j))
 | _, _ => .bad
noncomputable def max2 : D → D → R D
 | .int i, .int j => .ok (.int (max i j))
 | _, _ => .bad
noncomputable abbrev zxp := g2 min2
noncomputable abbrev zxq := g2 max2
theorem zwt : zfu K mg (fun xs H Q => ∃ i j, xs = [.int i, .int j] ∧ Q (.int (if j < i then j else i)) H) zxp := cd2 fun G H d d' v v' Q e r r' q => by
 cases d with
 | int i => cases d' with
  | int j =>
   cases r; cases r'
   have ea : (if j < i then j else i) = min i j := by split <;> omega
   exact ⟨i, j, rfl, by rw [ea]; exact zaq.now q e rfl⟩
  | _ => exact (show False from q).elim
 | _ => exact (show False from q).elim
theorem zwu : zfu K mg (fun xs H Q => ∃ i j, xs = [.int i, .int j] ∧ Q (.int (if j > i then j else i)) H) zxq := cd2 fun G H d d' v v' Q e r r' q => by
 cases d with
 | int i => cases d' with
  | int j =>
   cases r; cases r'
   have ea : (if j > i then j else i) = max i j := by split <;> omega
   exact ⟨i, j, rfl, by rw [ea]; exact zaq.now q e rfl⟩
  | _ => exact (show False from q).elim
 | _ => exact (show False from q).elim
theorem zwv (hc : X.calm = true) (hm : X.mg "min" = none) (ha : DA X E (e :: es) fs) (hg : Gl X "min" := by rfl) (he : starEach (e :: es) X.env = (false, eval e X.env) :: starEach es X.env := by rfl) (hpl : (backTo pos (starEach es X.env)).any (·.1) = false := by rfl) : DE X E (.Call (.Name "min" p) (e :: es) [] pos) (zb0 zxp fs) :=
 zgh (zoB hc) zwt hm PyProof.Rows.boot_min ha hg (by decide) (by decide) he hpl
theorem zww (hc : X.calm = true) (hm : X.mg "max" = none) (ha : DA X E (e :: es) fs) (hg : Gl X "max" := by rfl) (he : starEach (e :: es) X.env = (false, eval e X.env) :: starEach es X.env := by rfl) (hpl : (backTo pos (starEach es X.env)).any (·.1) = false := by rfl) : DE X E (.Call (.Name "max" p) (e :: es) [] pos) (zb0 zxq fs) :=
 zgh (zoA hc) zwu hm PyProof.Rows.boot_max ha hg (by decide) (by decide) he hpl
noncomputable def zgm : List D → Option (List Int)
 | [] => some []
 | .int i :: r => (zgm r).map (i :: ·)
 | _ => none
noncomputable def zit : List D → Option (List Bool)
 | [] => some []
 | .bl b :: r => (zit r).map (b :: ·)
 | _ => none
theorem zhu : ∀ {ds : List D} {ns : List Int}, zgm ds = some ns → ds = ns.map D.int
 | [], ns, h => by simp only [zgm, Option.some.injEq] at h; subst h; rfl
 | .int i :: r, ns, h => by
  simp only [zgm, Option.map_eq_some_iff] at h
  obtain ⟨ms, h1, rfl⟩ := h
  rw [zhu h1]; rfl
theorem zjB : ∀ {ds : List D} {bs : List Bool}, zit ds = some bs → ds = bs.map D.bl
 | [], ns, h => by simp only [zit, Option.some.injEq] at h; subst h; rfl
 | .bl i :: r, ns, h => by
  simp only [zit, Option.map_eq_some_iff] at h
  obtain ⟨ms, h1, rfl⟩ := h
  rw [zjB h1]; rfl
theorem zkt : ∀ bs : List Bool, zit (bs.map D.bl) = some bs
 | [] => rfl
 | n :: r => by rw [List.map_cons]; unfold zit; rw [zkt r]; rfl
noncomputable def zyu : D → R D
 | .lst xs => match zgm xs with
  | some ns => .ok (.int ns.sum)
  | none => .bad
 | _ => .bad
noncomputable abbrev zuq := g1 zyu
theorem zwx : zfu K mg (fun xs H Q => ∃ (p : Addr) (ns : List Int), xs = [.ref p] ∧ SqL K H p (ns.map V.int) ∧ Q (.int ns.sum) H) zuq := cd1 fun G H d v Q e r q => by
 cases d with
 | lst xs =>
  obtain ⟨a, vs, rfl, h1, h2⟩ := r
  cases hn : zgm xs with
  | none => simp only [zyu, hn] at q; exact q.elim
  | some ns =>
   simp only [zyu, hn] at q
   rw [zhu hn] at h2
   rw [Reps.of_ints h2] at h1
   exact ⟨a, ns, rfl, e.seq h1, zaq.now q e rfl⟩
 | _ => exact (show False from q).elim
theorem zsF (hc : X.calm = true) (hm : X.mg "sum" = none) (ha : DA X E (e :: es) fs) (hg : Gl X "sum" := by rfl) (he : starEach (e :: es) X.env = (false, eval e X.env) :: starEach es X.env := by rfl) (hpl : (backTo pos (starEach es X.env)).any (·.1) = false := by rfl) : DE X E (.Call (.Name "sum" p) (e :: es) [] pos) (zb0 zuq fs) :=
 zgh (zrq hc) zwx hm PyProof.Rows.boot_sum ha hg (by decide) (by decide) he hpl
noncomputable def zwy : D → R D
 | .lst xs => match zit xs with
  | some bs => .ok (.bl (bs.all id))
  | none => .bad
 | _ => .bad
noncomputable def zyv : D → R D
 | .lst xs => match zit xs with
  | some bs => .ok (.bl (bs.any id))
  | none => .bad
 | _ => .bad
noncomputable abbrev zur := g1 zwy
noncomputable abbrev zwz := g1 zyv
theorem zwA : zfu K mg (fun xs H Q => ∃ (p : Addr) (bs : List Bool), xs = [.ref p] ∧ SqL K H p (bs.map V.bl) ∧ Q (.bl (bs.all id)) H) zur := cd1 fun G H d v Q e r q => by
 cases d with
 | lst xs =>
  obtain ⟨a, vs, rfl, h1, h2⟩ := r
  cases hn : zit xs with
  | none => simp only [zwy, hn] at q; exact q.elim
  | some ns =>
   simp only [zwy, hn] at q
   rw [zjB hn] at h2
   rw [Reps.of_bools h2] at h1
   exact ⟨a, ns, rfl, e.seq h1, zaq.now q e rfl⟩
 | _ => exact (show False from q).elim
theorem zwB : zfu K mg (fun xs H Q => ∃ (p : Addr) (bs : List Bool), xs = [.ref p] ∧ SqL K H p (bs.map V.bl) ∧ Q (.bl (bs.any id)) H) zwz := cd1 fun G H d v Q e r q => by
 cases d with
 | lst xs =>
  obtain ⟨a, vs, rfl, h1, h2⟩ := r
  cases hn : zit xs with
  | none => simp only [zyv, hn] at q; exact q.elim
  | some ns =>
   simp only [zyv, hn] at q
   rw [zjB hn] at h2
   rw [Reps.of_bools h2] at h1
   exact ⟨a, ns, rfl, e.seq h1, zaq.now q e rfl⟩
 | _ => exact (show False from q).elim
theorem zpC (hc : X.calm = true) (hm : X.mg "all" = none) (ha : DA X E (e :: es) fs) (hg : Gl X "all" := by rfl) (he : starEach (e :: es) X.env = (false, eval e X.env) :: starEach es X.env := by rfl) (hpl : (backTo pos (starEach es X.env)).any (·.1) = false := by rfl) : DE X E (.Call (.Name "all" p) (e :: es) [] pos) (zb0 zur fs) :=
 zgh (zrw hc) zwA hm zrU ha hg (by decide) (by decide) he hpl
theorem zwC (hc : X.calm = true) (hm : X.mg "any" = none) (ha : DA X E (e :: es) fs) (hg : Gl X "any" := by rfl) (he : starEach (e :: es) X.env = (false, eval e X.env) :: starEach es X.env := by rfl) (hpl : (backTo pos (starEach es X.env)).any (·.1) = false := by rfl) : DE X E (.Call (.Name "any" p) (e :: es) [] pos) (zb0 zwz fs) :=
 zgh (zrx hc) zwB hm zrV ha hg (by decide) (by decide) he hpl
noncomputable def int1 : D → R D
 | .int i => .ok (.int i)
 | .bl b => .ok (.int (if b then 1 else 0))
 | _ => .bad
noncomputable abbrev zxr := g1 int1
theorem zwD : zfu K mg (fun xs H Q => (∃ i, xs = [.int i] ∧ Q (.int i) H) ∨ ∃ k, xs = [.bl k] ∧ Q (.int (if k then 1 else 0)) H) zxr := cd1 fun G H d v Q e r q => by
 cases d with
 | int i => cases r; exact .inl ⟨i, rfl, zaq.now q e rfl⟩
 | bl b => cases r; exact .inr ⟨b, rfl, zaq.now q e rfl⟩
 | _ => exact (show False from q).elim
theorem zus (hm : X.mg "int" = none) (ha : DA X E (e :: es) fs) (hg : Gl X "int" := by rfl) (he : starEach (e :: es) X.env = (false, eval e X.env) :: starEach es X.env := by rfl) (hpl : (backTo pos (starEach es X.env)).any (·.1) = false := by rfl) : DE X E (.Call (.Name "int" p) (e :: es) [] pos) (zb0 zxr fs) :=
 zsA zoC zwD hm ha zsE hg (by decide) (by decide) he hpl
noncomputable def zwE : D → R D
 | .lst xs => .ok (.tup xs)
 | .tup xs => .ok (.tup xs)
 | _ => .bad
noncomputable abbrev zku := g1 zwE
theorem zrY : zfu K mg (fun xs H Q => ∃ p ys, xs = [.ref p] ∧ ((SqL K H p ys ∧ ∀ l, H l = none → Q (.ref l) (upd H l (.tup ys))) ∨ (SqT K H p ys ∧ Q (.ref p) H))) zku := cd1 fun G H d v Q e r q => by
 cases d with
 | lst xs =>
  obtain ⟨a, vs, rfl, h1, h2⟩ := r
  refine ⟨a, vs, rfl, .inl ⟨e.seq h1, fun l hl => ?_⟩⟩
  have s := zbH.pub (o := .tup vs) e hl
  exact (show zaq K mg Q G H (.tup xs) from q) _ _ _ s ⟨l, vs, rfl, SqT.of zav, h2.mono s.g⟩
 | tup xs =>
  obtain ⟨a, vs, rfl, h1, h2⟩ := r
  exact ⟨a, vs, rfl, .inr ⟨zaD.sqT e h1, (show zaq K mg Q G H (.tup xs) from q).now e ⟨a, vs, rfl, h1, h2⟩⟩⟩
 | _ => exact (show False from q).elim
theorem zjC (hm : X.mg "tuple" = none) (ha : DA X E (e :: es) fs) (hg : Gl X "tuple" := by rfl) (he : starEach (e :: es) X.env = (false, eval e X.env) :: starEach es X.env := by rfl) (hpl : (backTo pos (starEach es X.env)).any (·.1) = false := by rfl) : DE X E (.Call (.Name "tuple" p) (e :: es) [] pos) (zb0 zku fs) :=
 zsA zjj zrY hm ha zjA hg (by decide) (by decide) he hpl
noncomputable def znX (g : List D → R (List D)) (fs : DSt → R (List D)) : DSt → R (List D) := fun σ => (fs σ).bind fun ds => (g ds).noerr
noncomputable def zwF (K : PySem.W.Frag) (mg : Str → Option Value) (r : List V → Hp → VK → Prop) (g : List D → R (List D)) : Prop :=
 ∀ (G H : Hp) (ds : List D) (vs : List V) (Q : VK), zaD G H → Reps K mg G ds vs → RW (g ds) (zef K mg Q G H) (fun _ => False) → r vs H Q
theorem zwG {T : String} {r : List V → Hp → VK → Prop} {g : List D → R (List D)} (hc : zcF X (.type T) r) (hd : zwF X.K X.mg r g) (hm : X.mg x = none) (ha : DA X E (e :: es) fs) (hv : bootBuiltins x = some (.type T) := by rfl) (hg : Gl X x := by rfl) (hn : x ≠ "__name__" := by decide) (hdb : (x == ("__debug__" : Str)) = false := by decide)
  (he : starEach (e :: es) X.env = (false, eval e X.env) :: starEach es X.env := by rfl) (hpl : (backTo pos (starEach es X.env)).any (·.1) = false := by rfl) : DF X E (.Call (.Name x p) (e :: es) [] pos) (znX g fs) := by
 refine PE.mono' (zhd hc hg hm hv ha hn hdb he hpl) fun σ H Q ⟨G, σd, ok, q⟩ => ?_
 refine ⟨G, σd, ok, q.of_bind.mono (fun ds _ z vs G' H' s r => ?_) fun _ z => z⟩
 obtain ⟨d, e1, z⟩ := zeM z
 exact hd G' H' ds vs Q s.e r (by rw [e1]; exact z.step s)
noncomputable def zyw : D → R (List D)
 | .lst xs => .ok xs
 | .tup xs => .ok xs
 | _ => .bad
noncomputable abbrev zkv := g1 zyw
theorem zut : zwF K mg (fun xs H Q => ∃ p ys, xs = [.ref p] ∧ (SqL K H p ys ∨ SqT K H p ys) ∧ ∀ l, H l = none → Q (.ref l) (upd H l (.lst ys))) zkv := by
 intro G H ds vs Q e rp q
 have go : ∀ xs vs, Reps K mg G xs vs → zef K mg Q G H xs → ∀ l, H l = none → Q (.ref l) (upd H l (.lst vs)) := fun xs vs h z l hl => z l vs G _ (.hid e hl) hl zav (e.free hl) h
 match ds, rp, q with
 | [], rp, q => exact (show False from q).elim
 | [d], rp, q =>
  obtain ⟨v, rfl, r⟩ := rp.one
  cases d with
  | lst xs => obtain ⟨a, vs, rfl, h1, h2⟩ := r; exact ⟨a, vs, rfl, .inl (e.seq h1), go xs vs h2 q⟩
  | tup xs => obtain ⟨a, vs, rfl, h1, h2⟩ := r; exact ⟨a, vs, rfl, .inr (zaD.sqT e h1), go xs vs h2 q⟩
  | _ => exact (show False from q).elim
 | _ :: _ :: _, rp, q => exact (show False from q).elim
theorem zuu (hm : X.mg "list" = none) (ha : DA X E (e :: es) fs) (hg : Gl X "list" := by rfl) (he : starEach (e :: es) X.env = (false, eval e X.env) :: starEach es X.env := by rfl) (hpl : (backTo pos (starEach es X.env)).any (·.1) = false := by rfl) : DF X E (.Call (.Name "list" p) (e :: es) [] pos) (znX zkv fs) :=
 zwG zkd zut hm ha zpB hg (by decide) (by decide) he hpl
noncomputable def zpD : D → Option String
 | .non => some "NoneType"
 | .bl _ => some "bool"
 | .int _ => some "int"
 | .str _ => some "str"
 | .tup _ => some "tuple"
 | .lst _ => some "list"
 | .dct _ _ => some "dict"
 | _ => none
noncomputable def zwH (T : String) : Bool := ["int", "bool", "str", "tuple", "list", "dict"].contains T
noncomputable def zxs (t T : String) : Bool := t == T || (t == "bool" && T == "int")
theorem zhv (t T : String) (ht : ["NoneType", "bool", "int", "str", "tuple", "list", "dict"].contains t = true) (hT : zwH T = true) : PySem.W.kitOne K (.type t) (.type T) = some (zxs t T) := by
 simp only [List.contains_eq_mem, List.mem_cons, List.not_mem_nil, or_false, decide_eq_true_eq] at ht
 simp only [zwH, List.contains_eq_mem, List.mem_cons, List.not_mem_nil, or_false, decide_eq_true_eq] at hT
 rcases ht with rfl | rfl | rfl | rfl | rfl | rfl | rfl <;> rcases hT with rfl | rfl | rfl | rfl | rfl | rfl <;> rfl
end
end DL
end
section
set_option Elab.async false
set_option linter.all false
set_option maxRecDepth 100000
namespace DL
open PySem L2 PyProof.Rows
section
variable {X : Cx} {E : XK} {K : PySem.W.Frag} {mg : Str → Option Value} {G H : Hp}
variable {x : Str} {p pos : Pos} {e : Expr} {es : List Expr} {fs : DSt → R (List D)}
noncomputable def rIsi (K : PySem.W.Frag) (mg : Str → Option Value) : List V → Hp → VK → Prop := fun xs H Q => ∃ G d T v b, xs = [v, .ty T] ∧ zaD G H ∧ Rep K mg G d v ∧ (∃ t, zpD d = some t ∧ zwH T = true ∧ b = zxs t T) ∧ Q (.bl b) H
theorem zpE : zcF X (.builtin "isinstance") (rIsi X.K X.mg) := by
 intro pins s σ H xs us Q I r h
 obtain ⟨G, d, T, v, b, rfl, e, rp, ⟨t, ht, hT, rfl⟩, q⟩ := h
 obtain ⟨u, w', rfl, ru, rw'⟩ := zrg r
 cases (show w' = Value.type T from rw')
 have fin : ∀ tk, EP X pins σ Q (.bool (zxs t T)) { s with toks := tk } := fun tk => ⟨.bl _, H, I.tok tk, rfl, q⟩
 cases d with
 | non => cases ht; cases rp; cases (show u = Value.none from ru); exact PySem.W.kia_one PySem.W.kitx_none I.kIn True.intro (zhv _ _ rfl hT) (fun z => nomatch z) fin
 | bl y => cases ht; cases rp; cases (show u = Value.bool y from ru); exact PySem.W.kia_one PySem.W.kitx_bool I.kIn True.intro (zhv _ _ rfl hT) (fun z => nomatch z) fin
 | int i => cases ht; cases rp; obtain ⟨tk, rfl⟩ := (show ∃ tk, u = Value.int i tk from ru); exact PySem.W.kia_one PySem.W.kitx_int I.kIn True.intro (zhv _ _ rfl hT) (fun z => nomatch z) fin
 | str y => cases ht; cases rp; obtain ⟨tk, rfl⟩ := (show ∃ tk, u = Value.str y tk from ru); exact PySem.W.kia_one PySem.W.kitx_str I.kIn True.intro (zhv _ _ rfl hT) (fun z => nomatch z) fin
 | tup ds =>
  cases ht
  obtain ⟨a, vs, rfl, h1, h2⟩ := rp
  cases (show u = Value.ref a from ru)
  obtain ⟨_, _, ⟨o, h3, h4, _⟩, _⟩ := I.tuple (zaD.sqT e h1)
  exact PySem.W.kia_one PySem.W.kitx_tuple I.kIn ⟨o, h3, h4⟩ (zhv _ _ rfl hT) (fun z => nomatch z) fin
 | lst ds =>
  cases ht
  obtain ⟨a, vs, rfl, h1, h2⟩ := rp
  cases (show u = Value.ref a from ru)
  obtain ⟨_, _, ⟨o, n, h3, h4, _⟩, _⟩ := I.list (e.seq h1)
  exact PySem.W.kia_one PySem.W.kitx_list I.kIn ⟨o, h3, h4⟩ (zhv _ _ rfl hT) (fun z => nomatch z) fin
 | dct ks ds =>
  cases ht
  obtain ⟨a, vs, rfl, h1, _⟩ := rp
  cases (show u = Value.ref a from ru)
  obtain ⟨_, _, _, _, p⟩ := (show zdI X.prog X.w H s.heap a (.dK (ks.zip vs)) from (zaD.rd e h1).ok I.hok)
  obtain ⟨o, es, ep, h3, h4, _⟩ := p
  exact PySem.W.kia_one PySem.W.kitx_dict I.kIn ⟨o, h3, h4.1⟩ (zhv _ _ rfl hT) (fun z => nomatch z) fin
 | _ => cases ht
noncomputable abbrev zyx (K : PySem.W.Frag) : List V → Hp → VK → Prop := fun xs H Q => ∃ (a C : Addr) (c : V) (cv : Value) (b : Bool), xs = [.ref a, c] ∧ H a = some (zvT a C none) ∧ ((∃ D, c = .ref D ∧ cv = .ref D) ∨ ∃ T, c = .ty T ∧ cv = .type T) ∧ zu7 K C ∧ PySem.W.kitOne K (.ref C) cv = some b ∧ Q (.bl b) H
noncomputable def zg5 : D → D → R D
 | d, .ty T => match zpD d with
  | some t => bif zwH T then .ok (.bl (zxs t T)) else .bad
  | none => match d with
   | .exc _ [] => bif T == "ValueError" then .ok (.bl true) else .bad
   | _ => .bad
 | .exc c [], .cls d => match zsz c d with
  | some b => .ok (.bl b)
  | none => .bad
 | _, _ => .bad
theorem zwI : zfu K mg (fun xs H Q => rIsi K mg xs H Q ∨ zyx K xs H Q) (g2 zg5) := cd2 fun G H d d' v v' Q e r r' q => by
 have exc : ∀ {c as}, d = .exc c as → as = [] → ∃ a C, v = .ref a ∧ H a = some (zvT a C none) ∧ zq7 K mg c C := fun {c as} hd ha => by
  subst hd; subst ha
  obtain ⟨a, C, dct, vs, rfl, h2, h3, h4, h5⟩ := r
  cases h5
  rcases h4 with ⟨rfl, _⟩ | ⟨dx, w, _, z, _⟩
  ·exact ⟨a, C, rfl, e _ _ h2, h3⟩
  ·cases z
 cases d' with
 | ty T =>
  cases r'
  cases ht : zpD d with
  | some t =>
   cases hT : zwH T with
   | false => simp only [zg5, ht, hT, cond_false] at q; exact q.elim
   | true => simp only [zg5, ht, hT, cond_true] at q; exact .inl ⟨G, d, T, v, _, rfl, e, r, ⟨t, ht, hT, rfl⟩, zaq.now q e rfl⟩
  | none =>
   cases d with
   | exc c as =>
    cases as with
    | nil =>
     cases hT : T == "ValueError" with
     | false => simp only [zg5, ht, hT, cond_false] at q; exact q.elim
     | true =>
      simp only [zg5, ht, hT, cond_true] at q
      obtain ⟨a, C, rfl, h1, h2⟩ := exc rfl rfl
      have := eq_of_beq hT
      subst this
      exact .inr ⟨a, C, _, _, true, rfl, h1, .inr ⟨_, rfl, rfl⟩, h2.exc, h2.val, zaq.now q e rfl⟩
    | cons b bs => simp only [zg5, ht] at q; exact q.elim
   | _ => simp only [zg5, ht] at q; exact q.elim
 | cls c' =>
  cases d with
  | exc c as =>
   cases as with
   | nil =>
    obtain ⟨Dd, rfl, hD⟩ := r'
    cases hs : zsz c c' with
    | none => simp only [zg5, hs] at q; exact q.elim
    | some b =>
     simp only [zg5, hs] at q
     obtain ⟨a, C, rfl, h1, h2⟩ := exc rfl rfl
     exact .inr ⟨a, C, _, _, b, rfl, h1, .inl ⟨Dd, rfl, rfl⟩, h2.exc, h2.isi c' Dd b hs hD, zaq.now q e rfl⟩
   | cons b bs => exact (show False from q).elim
  | _ => exact (show False from q).elim
 | _ => cases d <;> first | exact (show False from q).elim | (rename_i as; cases as <;> exact (show False from q).elim)
theorem zkw (hm : X.mg "isinstance" = none) (ha : DA X E (e :: es) fs) (hg : Gl X "isinstance" := by rfl) (he : starEach (e :: es) X.env = (false, eval e X.env) :: starEach es X.env := by rfl) (hpl : (backTo pos (starEach es X.env)).any (·.1) = false := by rfl) : DE X E (.Call (.Name "isinstance" p) (e :: es) [] pos) (zb0 (g2 zg5) fs) :=
 zgh (zpE.or zoT) zwI hm zrW ha hg (by decide) (by decide) he hpl
noncomputable def tO (K : PySem.W.Frag) (mg : Str → Option Value) (E : XK) (f : DSt → R (Option Int)) : TO := fun σ H Q => ∃ G σd, Ok0 K mg σd σ G H ∧ RW (f σd) (fun o => ∀ G' H', zbH G H G' H' → Q o H') (zaN K mg E G H)
noncomputable def DO (X : Cx) (E : XK) (e : Option Expr) (f : DSt → R (Option Int)) : Prop := PO X e (tO X.K X.mg E f)
noncomputable def ze1 : DSt → R (Option Int) := fun _ => .ok none
noncomputable def asI : D → R (Option Int)
 | .int i => .ok (some i)
 | _ => .bad
noncomputable def zdc (f : DSt → R D) : DSt → R (Option Int) := fun σ => (f σ).bind asI
theorem PO.mono' {e : Option Expr} {t t' : TO} (h : PO X e t) (m : ∀ σ H Q, t' σ H Q → t σ H Q) : PO X e t' := fun pins s σ H Q I q => h pins s σ H Q I (m σ H Q q)
theorem zuv : DO X E none ze1 := PO.mono' ztP fun σ H Q ⟨G, σd, ok, q⟩ => (show ∀ G' H', zbH G H G' H' → Q none H' from q) G H (.refl ok.ext)
theorem zuw {f : DSt → R D} (h : DE X E e f) : DO X E (some e) (zdc f) := PO.mono' (ztQ h) fun σ H Q ⟨G, σd, ok, q⟩ => ⟨G, σd, ok, q.of_bind.mono (fun d _ z v G' H' s r => by
 cases d with
 | int i => cases r; exact ⟨i, rfl, (show ∀ G' H', zbH G H G' H' → Q (some i) H' from z) G' H' s⟩
 | _ => exact (show False from z).elim) fun _ z => z⟩
noncomputable def zq8 {α : Type} (xs : List α) (lo hi : Option Int) : List α := (xs.drop (HT.sIx xs.length 0 lo)).take (HT.sIx xs.length xs.length hi - HT.sIx xs.length 0 lo)
noncomputable def zpF {α : Type} (xs : List α) (lo hi : Option Int) : Bool := decide (HT.sIx xs.length 0 lo = 0 ∧ HT.sIx xs.length xs.length hi = xs.length)
noncomputable def gSl : D → Option Int → Option Int → R D
 | .lst xs, lo, hi => .ok (.lst (zq8 xs lo hi))
 | .tup xs, lo, hi => bif zpF xs lo hi then .bad else .ok (.tup (zq8 xs lo hi))
 | _, _, _ => .bad
noncomputable def eSl (fe : DSt → R D) (fl fh : DSt → R (Option Int)) : DSt → R D := fun σ => (fe σ).bind fun d => (fl σ).bind fun lo => (fh σ).bind fun hi => gSl d lo hi
theorem Reps.cut {ds : List D} {vs : List V} (h : Reps K mg G ds vs) (lo hi : Option Int) : Reps K mg G (zq8 ds lo hi) (zq6 vs lo hi) := by
 unfold zq8 zq6
 rw [h.length]
 exact (h.drop _).take _
theorem zyy {fe : DSt → R D} {lo hi : Option Expr} {fl fh : DSt → R (Option Int)} {p2 : Pos} (he : DE X E e fe) (hl : DO X E lo fl) (hh : DO X E hi fh) : DE X E (.Subscript e (.Slice lo hi none p2) pos) (eSl fe fl fh) := by
 refine PE.mono' (zrj (ztU.or zvL) he hl hh) fun σ H Q ⟨G, σd, ok, q⟩ => ?_
 refine zdq (P := zaq X.K X.mg Q) ok q fun d v G1 H1 s1 ok1 r1 q1 => ?_
 refine ⟨G1, σd, ok1, q1.of_bind.mono (fun l _ q2 G2 H2 s2 => ?_) fun _ z => z⟩
 refine ⟨G2, σd, ok1.step s2, q2.of_bind.mono (fun u _ q3 G3 H3 s3 => ?_) fun _ z => z.step s2⟩
 have s := (s1.trans s2).trans s3
 have r3 := r1.mono (s2.g.trans s3.g)
 cases d with
 | lst xs =>
  obtain ⟨a, vs, rfl, h1, h2⟩ := r3
  refine .inl ⟨a, vs, rfl, s3.e.seq h1, fun pp hp => ?_⟩
  have sp := zbH.pub (o := .lst (zq6 vs l u)) s3.e hp
  exact (show zaq X.K X.mg Q G H (.lst (zq8 xs l u)) from q3) _ _ _ (s.trans sp) ⟨pp, _, rfl, SqL.of zav, (h2.cut l u).mono sp.g⟩
 | tup xs =>
  obtain ⟨a, vs, rfl, h1, h2⟩ := r3
  cases hw : zpF xs l u with
  | true => simp only [gSl, hw, cond_true] at q3; exact q3.elim
  | false =>
   simp only [gSl, hw, cond_false] at q3
   refine .inr ⟨a, vs, rfl, zaD.sqT s3.e h1, by rw [← h2.length]; exact of_decide_eq_false hw, fun pp hp => ?_⟩
   have sp := zbH.pub (o := .tup (zq6 vs l u)) s3.e hp
   exact (show zaq X.K X.mg Q G H (.tup (zq8 xs l u)) from q3) _ _ _ (s.trans sp) ⟨pp, _, rfl, SqT.of zav, (h2.cut l u).mono sp.g⟩
 | _ => exact (show False from q3).elim
end
noncomputable def zsG (c : Str) (fs : DSt → R (List D)) : DSt → R Out := fun σ => (fs σ).bind fun ds => bif few ds.length then .err (.exc c []) else .bad
section
variable {P : Program} {w : World} {K : PySem.W.Frag} {mg : Str → Option Value} {base : Heap} {N : List Str} {qual : Str} {scope : Scope} {f : Addr} {cdv : Value} {A : Around} {outer : List Env} {s0 : Shared} {H0 : Hp} {E : XK} {own own' ol : List Nat}
theorem zrZ {x : Str} {C : Addr} {e0 : Expr} {zbs : List Expr} {np cpos pos : Pos} {fs : DSt → R (List D)} (q : PySem.W.excIn K C [.type "ValueError", .type "Exception", .type "BaseException", .type "object"] "ValueError.__new__" = true) (hx : zq7 K mg x C)
  (ha : DA (zjh (CXe P w) P w K mg base N qual scope f cdv A outer s0 H0 E) E (e0 :: zbs) fs) (hg : Gl (zjh (CXe P w) P w K mg base N qual scope f cdv A outer s0 H0 E) x := by rfl)
  (hdb : (x == ("__debug__" : Str)) = false := by decide)
  (he : starEach (e0 :: zbs) (envOfC qual scope s0.heap.objs.size f cdv) = (false, eval e0 (envOfC qual scope s0.heap.objs.size f cdv)) :: starEach zbs (envOfC qual scope s0.heap.objs.size f cdv) := by rfl)
  (hpl : (backTo cpos (starEach zbs (envOfC qual scope s0.heap.objs.size f cdv))).any (·.1) = false := by rfl) :
  DS (zjh (CXe P w) P w K mg base N qual scope f cdv A outer s0 H0 E) E own own' ol (.Raise (some (.Call (.Name x np) (e0 :: zbs) [] cpos)) none pos) (zsG x fs) := fun G0 =>
 PS.mono' (zrv q hg hx.here ha hdb he hpl) fun Dn σ H ⟨G, σd, ok, s1, z⟩ => by
 have sp := ok.pubStep s1
 refine ⟨_, σd, ok.pub.1, z.of_bind.mono (fun ds _ z vs G' H' s r => ?_) fun _ z => z.step sp⟩
 cases hf : few ds.length with
 | false => rw [hf] at z; exact (show False from z).elim
 | true =>
  rw [hf] at z
  refine ⟨by rw [← r.length]; exact zpg hf, ?_⟩
  exact (show zaN K mg E G0 H0 (.exc x []) from z) G' H' C none (sp.trans s) ⟨x, [], [], rfl, hx, .inl ⟨rfl, rfl⟩, Reps.nil⟩
end
noncomputable def zlL (c : Str) : DSt → R Out := fun _ => .err (.exc c [])
theorem zpG {P : Program} {w : World} {K : PySem.W.Frag} {mg : Str → Option Value} {base : Heap} {N : List Str} {qual : Str} {scope : Scope} {f : Addr} {cdv : Value} {A : Around} {outer : List Env} {s0 : Shared} {H0 : Hp} {E : XK} {own own' ol : List Nat} {x t : Str} {C : Addr} {np cpos pos tp : Pos} {j} (q : PySem.W.excIn K C [.type "ValueError", .type "Exception", .type "BaseException", .type "object"] "ValueError.__new__" = true) (hx : zq7 K mg x C)
  (hg : Gl (zjh (CXe P w) P w K mg base N qual scope f cdv A outer s0 H0 E) x := by rfl) (hdb : (x == ("__debug__" : Str)) = false := by decide) :
  DS (zjh (CXe P w) P w K mg base N qual scope f cdv A outer s0 H0 E) E own own' ol (.Raise (some (.Call (.Name x np) [.Constant (.str t) j tp] [] cpos)) none pos) (zlL x) :=
 zrZ (fs := zaa (eC (.str t)) zaf) q hx (zaJ zpa zbP) hg hdb
section
variable (K : PySem.W.Frag) (mg : Str → Option Value)
end
section
variable {X : Cx} {ol : List Nat} {k : Nat} {x y : Str} {m : List D → R D} {p pos cpos npos : Pos} {e : Expr} {es : List Expr} {fs : DSt → R (List D)} {f g : DSt → R Out}
noncomputable def zwJ (m : List D → R D) (fs : DSt → R (List D)) : DSt → R D := fun σ => (fs σ).noerr.bind m
noncomputable def sTry (i : Nat) (c : Str) (body hnd : DSt → R Out) : DSt → R Out := fun σ => match body σ with
 | .ok o => .ok o
 | .err (.exc cc as) => bif zsz cc c == some true then (hnd (σ.set i (some (.exc cc as)))).noerr.bind fun o => match o with
   | .nx σ' => .ok (.nx (σ'.set i none))
   | _ => .bad
  else .bad
 | _ => .bad
end
end DL
end
section
set_option Elab.async false
set_option linter.all false
set_option maxRecDepth 100000
namespace DL
open PySem L2 PyProof.Rows
theorem zaw {n nN : Nat} {b : DSt → R Out} {ds : List D} {σ : DSt} (hl : ds.length = n) (hs : zcC nN ds = σ) : fnM n nN b ds = fin (b σ) := by
 subst hl; subst hs; unfold fnM; rw [beq_self_eq_true]; rfl
theorem de_k {X : Cx} {E : XK} {x : Str} {d : D} {pos : Pos} (h : ∃ u v, X.mg x = some u ∧ zbC v u ∧ ∀ G, Rep X.K X.mg G d v) (hg : Gl X x := by rfl) (hd : (x == ("__debug__" : Str)) = false := by decide) : DE X E (.Name x pos) (eC d) := by
 obtain ⟨u, v, h1, h2, h3⟩ := h
 exact zud h1 h2 h3 hg hd
section
variable {K : PySem.W.Frag} {mg : Str → Option Value}
noncomputable def zjD (c d : Str) : Bool := c == d || d == "ChalkError"
noncomputable def zba (K : PySem.W.Frag) (mg : Str → Option Value) (C : Addr) (d : Str) (b : Bool) : Prop :=
 (∀ D, mg d = some (.ref D) → PySem.W.kitOne K (.ref C) (.ref D) = some b) ∧ (b = true → ∀ D, mg d = some (.ref D) → PySem.W.exmOne K (.ref C) (.ref D) = some true)
theorem zq7.mk' {c : Str} {C : Addr} (here : mg c = some (.ref C)) (exc : zu7 K C) (val : PySem.W.kitOne K (.ref C) (.type "ValueError") = some true) (rows : ∀ d ∈ zde, zba K mg C d (zjD c d)) : zq7 K mg c C := by
 have sub : ∀ d b, zsz c d = some b → d ∈ zde ∧ b = zjD c d := fun d b h => by
  unfold zsz at h
  cases hc : (zde.contains c && zde.contains d) with
  | false => rw [hc] at h; cases h
  | true =>
   rw [hc] at h
   have h' : some (c == d || d == "ChalkError") = some b := h
   rw [Bool.and_eq_true] at hc
   exact ⟨by simpa using hc.2, by cases h'; rfl⟩
 refine ⟨here, exc, fun d Dd b h hd => ?_, val, fun d Dd h hd => ?_⟩
 ·obtain ⟨h1, rfl⟩ := sub d b h
  exact (rows d h1).1 Dd hd
 ·obtain ⟨h1, h2⟩ := sub d true h
  exact (rows d h1).2 h2.symm Dd hd
theorem zwK {c : Str} {C : Addr} (r0 : zba K mg C "ChalkError" (zjD c "ChalkError")) (r1 : zba K mg C "NoPlace" (zjD c "NoPlace")) (r2 : zba K mg C "Same" (zjD c "Same")) (r3 : zba K mg C "NoFloor" (zjD c "NoFloor")) (r4 : zba K mg C "Endless" (zjD c "Endless"))
  (r5 : zba K mg C "NoDeed" (zjD c "NoDeed")) (r6 : zba K mg C "NoText" (zjD c "NoText")) (r7 : zba K mg C "NoName" (zjD c "NoName")) (r8 : zba K mg C "TooMany" (zjD c "TooMany")) (r9 : zba K mg C "NoChange" (zjD c "NoChange")) (r10 : zba K mg C "NoFrame" (zjD c "NoFrame"))
  (r11 : zba K mg C "NoValue" (zjD c "NoValue")) (r12 : zba K mg C "Unlike" (zjD c "Unlike")) (r13 : zba K mg C "NoRatio" (zjD c "NoRatio")) (r14 : zba K mg C "NoBow" (zjD c "NoBow")) (r15 : zba K mg C "NoRow" (zjD c "NoRow")) : ∀ d ∈ zde, zba K mg C d (zjD c d) := by
 intro d hd
 simp only [zde, List.mem_cons, List.not_mem_nil, or_false] at hd
 rcases hd with rfl | rfl | rfl | rfl | rfl | rfl | rfl | rfl | rfl | rfl | rfl | rfl | rfl | rfl | rfl | rfl <;> assumption
theorem zba.of {C D0 : Addr} {d : Str} {b : Bool} (h : mg d = some (.ref D0)) (t : PySem.W.kitOne K (.ref C) (.ref D0) = some b) (u : b = true → PySem.W.exmOne K (.ref C) (.ref D0) = some true) : zba K mg C d b :=
 ⟨fun D hD => by rw [h] at hD; cases hD; exact t, fun hb D hD => by rw [h] at hD; cases hD; exact u hb⟩
theorem zba.no {C : Addr} {d : Str} {b : Bool} (h : mg d = none) : zba K mg C d b := ⟨fun D hD => (by rw [h] at hD; cases hD), fun _ D hD => (by rw [h] at hD; cases hD)⟩
end
section
variable {P : Program} {w : World} {K : PySem.W.Frag} {mg : Str → Option Value} {base : Heap}
theorem zux {x qual : Str} {st : Stmt} {f : Addr} {fd : FuncData} {N ps : List Str} {k n nN : Nat} {own' : List Nat} {body : DSt → R Out} (F : Fun K x qual st f fd) (S : zak N ps (zab st))
  (hn : ps.length = n) (hN : N.length = nN)
  (hb : ∀ (X : Cx) (E : XK), (∃ cdv A outer s H, X = zjh (CXe P w) P w K mg base N qual (zab st) f cdv A outer s H E) → XC X E k → XL X → DSs X E [] own' [] (zag st) body) : ziE P w K mg base (CXe P w) (k + 1) f fd ps (spD K mg (fnM n nN body)) := by
 refine F.okX S (fun vs H Q E h => ?_) (fun cdv A outer s H vs Q E hr hsp => ?_)
 ·obtain ⟨G, ds, e, r, q⟩ := h
  by_cases hd : ds.length = n
  ·rw [← r.length, hd, hn]
  ·have : (ds.length == n) = false := by simpa using hd
   unfold fnM at q
   rw [this] at q
   exact (show False from q).elim
 ·obtain ⟨G, ds, e, r, q⟩ := hsp
  have hd : ds.length = n := by
   by_cases hd : ds.length = n
   ·exact hd
   ·have : (ds.length == n) = false := by simpa using hd
    unfold fnM at q
    rw [this] at q
    exact (show False from q).elim
  unfold fnM at q
  rw [show (ds.length == n) = true by simpa using hd] at q
  have q' : RW (fin (body (zcC nN ds))) (zaq K mg Q G H) (zaN K mg E G H) := q
  refine ⟨_, hb _ E ⟨cdv, A, outer, s, H, rfl⟩ ⟨rfl, hr, ztZ⟩ ⟨PassesOwn.leaving⟩ G, G, zcC nN ds, ?_, .refl e, ?_⟩
  ·have := Reps.startOk e (N.length - vs.length) r
   unfold L2.start zcC
   rw [← hN, r.length]
   exact .zero this
  ·cases hbd : body (zcC nN ds) with
   | bad => rw [hbd] at q'; exact q'
   | err e => rw [hbd] at q'; exact q'
   | ok o =>
    rw [hbd] at q'
    cases o with
    | rt d => exact fun v G' H' s r => (show zaq K mg Q G H d from q') v G' H' s r
    | rf es =>
     intro a vs G' H' s n e g r
     have q2 : zaq K mg Q G H (.lst es) := q'
     have sg : zaD G' (upd G' a (.lst vs)) := zcH g
     refine q2 (.ref a) (upd G' a (.lst vs)) H' ⟨s.g.trans sg, s.h, fun b u p => ?_, fun b u p1 p2 => ?_⟩ ⟨a, vs, rfl, SqL.of zav, r.mono sg⟩
     ·by_cases hb : b = a
      ·subst hb; rw [zav] at p; cases p; exact e
      ·rw [zay hb] at p; exact s.e b u p
     ·have hb : b ≠ a := zat p1 n
      rw [zay hb]; exact s.c b u p1 p2
    | nx σ => exact fun σ' G' H' ok s _ => (show zaq K mg Q G H .non from q') .non G' H' s rfl
    | bk σ => exact (show False from q').elim
    | ct σ => exact (show False from q').elim
noncomputable def zr0 (K : PySem.W.Frag) : Sp := fun vs H Q _ => ∃ (a : Addr) (ns : List Int), vs = [.ref a] ∧ SqL K H a (ns.map V.int) ∧ ns.length ≤ 63 ∧ ∀ H', Q (.bl true) H'
theorem zwL {k : Nat} {f : Addr} {fd : FuncData} {m : List D → R D} (F : ziE P w K mg base (CXe P w) k f fd ["_law_script"] (spD K mg m)) (hm : ∀ ns : List Int, ns.length ≤ 63 → m [.lst (ns.map .int)] = .ok (.bl true)) :
  ziE P w K mg base (CXe P w) k f fd ["_law_script"] (zr0 K) := F.imp fun vs H Q E h => by
 obtain ⟨a, ns, rfl, hS, hl, q⟩ := h
 refine ⟨H, [.lst (ns.map .int)], zaD.refl _, Reps.cons ⟨a, _, rfl, hS, Reps.ints ns⟩ Reps.nil, RW.ok_of (hm ns hl) fun v G' H' s r => ?_⟩
 cases r; exact q H'
end
theorem walkD {l : PySem.W.OpenLaw} {q : Program} {loose : List Str} {XP : (Str → Option Value) → Heap → Prop} {YP : World → Heap → Prop} {d : DefRec} {K : Params → PySem.W.Frag} (k : Nat) (hr : zhc k callerA) (hn : l.most = some 63) (hdf : d.params.defaults = [])
  (hY : ∀ (w : World) (h : Heap), YP w h → (K w.params).In h)
  (F : ∀ (w : World) (mg : Str → Option Value) (fa : Addr) (h : Heap), (K w.params).In h → h.Ns mainGlobals mg → mg d.name = some (.ref fa) →
   ∃ fd : FuncData, (∀ (s : Shared) (u : Value), BindsTo s fd ⟨[u], []⟩ [("_law_script", u)]) ∧ ∀ base : Heap, (K w.params).In base → base.Ns mainGlobals mg → ziE l.prog w (K w.params) mg base (CXe l.prog w) k fa fd ["_law_script"] (zr0 (K w.params))) :
  PySem.W.WalkO q loose XP YP l.row.toRowW d [] (fun f vs => PySem.call f vs) :=
 L2.walk_of (n := 63) (k := k) (x := "_law_script") (CX := fun w => CXe l.prog w) (sp := fun w => zr0 (K w.params)) hn (by decide) hdf hr hY F (fun _ _ a ns hl _ hS => ⟨a, ns, rfl, hS, hl, fun _ => rfl⟩) fun w H s e s' z => by
  obtain ⟨_, _, _, _, _, _, _, _, _, _, _, _, _, z⟩ := z
  exact z.elim
end DL
end
section
set_option Elab.async false
set_option linter.all false
set_option maxRecDepth 100000
namespace DL
open PySem L2
noncomputable def zr1 (r : R Out) (g : DSt → R Out) : R Out := r.bind fun o => match o with
 | .nx σ' => g σ'
 | o => .ok o
theorem zfx (f g : DSt → R Out) (σ : DSt) : zaE f g σ = zr1 (f σ) g := rfl
theorem zpI (σ : DSt) (g : DSt → R Out) : zr1 (.ok (.nx σ)) g = g σ := rfl
theorem zpJ (d : D) (g : DSt → R Out) : zr1 (.ok (.rt d)) g = .ok (.rt d) := rfl
theorem zpK (σ : DSt) (g : DSt → R Out) : zr1 (.ok (.bk σ)) g = .ok (.bk σ) := rfl
theorem zpL (σ : DSt) (g : DSt → R Out) : zr1 (.ok (.ct σ)) g = .ok (.ct σ) := rfl
theorem zmx (e : D) (g : DSt → R Out) : zr1 (.err e) g = .err e := rfl
theorem zkx (σ : DSt) : za7 σ = .ok (.nx σ) := rfl
theorem zky (d : D) (σ : DSt) : zad 0 (some d :: σ) = .ok d := rfl
theorem zkz (n : Nat) (x : Option D) (σ : DSt) : zad (n + 1) (x :: σ) = zad n σ := rfl
theorem zsH (d : D) (σ : DSt) : eC d σ = .ok d := rfl
noncomputable def opK (g : D → D → R D) (a b : R D) : R D := a.bind fun x => b.bind fun y => g x y
theorem zeh (g : D → D → R D) (fa fb : DSt → R D) (σ : DSt) : eOp g fa fb σ = opK g (fa σ) (fb σ) := rfl
theorem zhw (g : D → D → R D) (x y : D) : opK g (.ok x) (.ok y) = g x y := rfl
noncomputable def unK (g : D → R D) (a : R D) : R D := a.bind g
theorem zpM (g : D → R D) (fa : DSt → R D) (σ : DSt) : eUn g fa σ = unK g (fa σ) := rfl
theorem zsI (g : D → R D) (x : D) : unK g (.ok x) = g x := rfl
noncomputable def zuy (m : List D → R D) (a : R (List D)) : R D := a.bind m
theorem zkA (m : List D → R D) (fs : DSt → R (List D)) (σ : DSt) : zah m fs σ = zuy m (fs σ) := rfl
theorem zmy (m : List D → R D) (ds : List D) : zuy m (.ok ds) = m ds := rfl
theorem zkB (m : List D → R D) (e : D) : zuy m (.err e) = .err e := rfl
noncomputable def zsJ (m : List D → R D) (a : R (List D)) : R D := a.noerr.bind m
theorem ziM (m : List D → R D) (fs : DSt → R (List D)) (σ : DSt) : zwJ m fs σ = zsJ m (fs σ) := rfl
theorem zkC (m : List D → R D) (ds : List D) : zsJ m (.ok ds) = m ds := rfl
noncomputable def zyz (g : List D → R D) (a : R (List D)) : R D := a.bind fun ds => (g ds).noerr
theorem zmz (g : List D → R D) (fs : DSt → R (List D)) (σ : DSt) : zb0 g fs σ = zyz g (fs σ) := rfl
theorem zpN (g : List D → R D) (ds : List D) : zyz g (.ok ds) = (g ds).noerr := rfl
noncomputable def zwM (g : List D → R (List D)) (a : R (List D)) : R (List D) := a.bind fun ds => (g ds).noerr
theorem zkD (g : List D → R (List D)) (fs : DSt → R (List D)) (σ : DSt) : znX g fs σ = zwM g (fs σ) := rfl
theorem zmA (g : List D → R (List D)) (ds : List D) : zwM g (.ok ds) = (g ds).noerr := rfl
theorem zkE {α : Type} (a : α) : (R.ok a).noerr = .ok a := rfl
theorem zmB (σ : DSt) : zaf σ = .ok [] := rfl
noncomputable def zr2 (a : R D) (b : R (List D)) : R (List D) := a.bind fun x => b.bind fun xs => .ok (x :: xs)
theorem zkF (fa : DSt → R D) (fs : DSt → R (List D)) (σ : DSt) : zaa fa fs σ = zr2 (fa σ) (fs σ) := rfl
theorem zmC (x : D) (xs : List D) : zr2 (.ok x) (.ok xs) = .ok (x :: xs) := rfl
theorem zkG (e : D) (b : R (List D)) : zr2 (.err e) b = .err e := rfl
noncomputable def zr3 (a : R (List D)) : R D := a.bind fun ds => bif few ds.length then .ok (.tup ds) else .bad
theorem zmD (fs : DSt → R (List D)) (σ : DSt) : zfr fs σ = zr3 (fs σ) := rfl
theorem zsK : zr3 (.ok []) = .ok (.tup []) := rfl
theorem zsL (a : D) : zr3 (.ok [a]) = .ok (.tup [a]) := rfl
theorem zsM (a b : D) : zr3 (.ok [a, b]) = .ok (.tup [a, b]) := rfl
theorem zsN (a b c : D) : zr3 (.ok [a, b, c]) = .ok (.tup [a, b, c]) := rfl
theorem zsO (a b c d : D) : zr3 (.ok [a, b, c, d]) = .ok (.tup [a, b, c, d]) := rfl
theorem zsP (a b c d e : D) : zr3 (.ok [a, b, c, d, e]) = .ok (.tup [a, b, c, d, e]) := rfl
theorem zsQ (a b c d e f : D) : zr3 (.ok [a, b, c, d, e, f]) = .ok (.tup [a, b, c, d, e, f]) := rfl
theorem zsR (a b c d e f g h i : D) : zr3 (.ok [a, b, c, d, e, f, g, h, i]) = .ok (.tup [a, b, c, d, e, f, g, h, i]) := rfl
noncomputable def zr4 (a : R (List D)) : R (List D) := a.bind fun ds => bif few ds.length then .ok ds else .bad
theorem zmE (fs : DSt → R (List D)) (σ : DSt) : zhq fs σ = zr4 (fs σ) := rfl
theorem zsS : zr4 (.ok []) = .ok [] := rfl
theorem zsT (a : D) : zr4 (.ok [a]) = .ok [a] := rfl
theorem zsU (a b : D) : zr4 (.ok [a, b]) = .ok [a, b] := rfl
theorem zsV (a b c : D) : zr4 (.ok [a, b, c]) = .ok [a, b, c] := rfl
theorem zsW (a b c d : D) : zr4 (.ok [a, b, c, d]) = .ok [a, b, c, d] := rfl
theorem zsX (a b c d e : D) : zr4 (.ok [a, b, c, d, e]) = .ok [a, b, c, d, e] := rfl
theorem zsY (a b c d e f : D) : zr4 (.ok [a, b, c, d, e, f]) = .ok [a, b, c, d, e, f] := rfl
noncomputable def zpO (a : R (List D)) : R D := a.bind fun ds => .ok (.lst ds)
theorem zmF (fl : DSt → R (List D)) (σ : DSt) : zdf fl σ = zpO (fl σ) := rfl
theorem zjE (ds : List D) : zpO (.ok ds) = .ok (.lst ds) := rfl
noncomputable def zwN (a : R D) : R Bool := a.bind asB
theorem zkH (f : DSt → R D) (σ : DSt) : zax f σ = zwN (f σ) := rfl
theorem zmG (b : Bool) : zwN (.ok (.bl b)) = .ok b := rfl
noncomputable def zyA (a : R Bool) (fb : DSt → R Bool) (σ : DSt) : R Bool := a.bind fun k => bif k then fb σ else .ok false
theorem zmH (fa fb : DSt → R Bool) (σ : DSt) : zxm fa fb σ = zyA (fa σ) fb σ := rfl
theorem zsZ (fb : DSt → R Bool) (σ : DSt) : zyA (.ok true) fb σ = fb σ := rfl
theorem zs0 (fb : DSt → R Bool) (σ : DSt) : zyA (.ok false) fb σ = .ok false := rfl
noncomputable def orK (a : R Bool) (fb : DSt → R Bool) (σ : DSt) : R Bool := a.bind fun k => bif k then .ok true else fb σ
theorem zpP (fa fb : DSt → R Bool) (σ : DSt) : eOr fa fb σ = orK (fa σ) fb σ := rfl
theorem zwO (fb : DSt → R Bool) (σ : DSt) : orK (.ok true) fb σ = .ok true := rfl
theorem zwP (fb : DSt → R Bool) (σ : DSt) : orK (.ok false) fb σ = fb σ := rfl
noncomputable def notK (a : R Bool) : R Bool := a.bind fun k => .ok (!k)
theorem zmI (fa : DSt → R Bool) (σ : DSt) : zmr fa σ = notK (fa σ) := rfl
theorem zpQ (b : Bool) : notK (.ok b) = .ok (!b) := rfl
noncomputable def zuz (a : R D) (fb : DSt → R D) (σ : DSt) : R D := a.bind fun x => (asB x).bind fun k => bif k then fb σ else .ok (.bl false)
theorem zmJ (fa fb : DSt → R D) (σ : DSt) : zu8 fa fb σ = zuz (fa σ) fb σ := rfl
theorem zpR (fb : DSt → R D) (σ : DSt) : zuz (.ok (.bl true)) fb σ = fb σ := rfl
theorem zpS (fb : DSt → R D) (σ : DSt) : zuz (.ok (.bl false)) fb σ = .ok (.bl false) := rfl
noncomputable def zyB (a : R D) (fb : DSt → R D) (σ : DSt) : R D := a.bind fun x => (asB x).bind fun k => bif k then .ok (.bl true) else fb σ
theorem zpT (fa fb : DSt → R D) (σ : DSt) : vOr fa fb σ = zyB (fa σ) fb σ := rfl
theorem zs1 (fb : DSt → R D) (σ : DSt) : zyB (.ok (.bl true)) fb σ = .ok (.bl true) := rfl
theorem zs2 (fb : DSt → R D) (σ : DSt) : zyB (.ok (.bl false)) fb σ = fb σ := rfl
noncomputable def zwQ (a : R D) : R D := a.bind fun x => (asB x).bind fun k => .ok (.bl !k)
theorem zmK (fa : DSt → R D) (σ : DSt) : zyg fa σ = zwQ (fa σ) := rfl
theorem zmL (b : Bool) : zwQ (.ok (.bl b)) = .ok (.bl !b) := rfl
noncomputable def zyC (c : R Bool) (fa fb : DSt → R D) (σ : DSt) : R D := c.bind fun k => bif k then fa σ else fb σ
theorem zpU (c : DSt → R Bool) (fa fb : DSt → R D) (σ : DSt) : eIf c fa fb σ = zyC (c σ) fa fb σ := rfl
theorem zs3 (fa fb : DSt → R D) (σ : DSt) : zyC (.ok true) fa fb σ = fa σ := rfl
theorem zs4 (fa fb : DSt → R D) (σ : DSt) : zyC (.ok false) fa fb σ = fb σ := rfl
noncomputable def ifK (c : R Bool) (f g : DSt → R Out) (σ : DSt) : R Out := c.bind fun k => bif k then f σ else g σ
theorem zpV (c : DSt → R Bool) (f g : DSt → R Out) (σ : DSt) : sIf c f g σ = ifK (c σ) f g σ := rfl
theorem zwR (f g : DSt → R Out) (σ : DSt) : ifK (.ok true) f g σ = f σ := rfl
theorem zwS (f g : DSt → R Out) (σ : DSt) : ifK (.ok false) f g σ = g σ := rfl
noncomputable def zs5 (g g' : D → D → R D) (a b c : R D) : R D := a.bind fun x => b.bind fun y => (g x y).bind fun z => (asB z).bind fun k => bif k then c.bind fun w => g' y w else .ok (.bl false)
theorem ziN (g g' : D → D → R D) (fa fb fc : DSt → R D) (σ : DSt) : zkm g g' fa fb fc σ = zs5 g g' (fa σ) (fb σ) (fc σ) := rfl
theorem ziO (p q : Int → Int → Bool) (i j k : Int) : zs5 (gB p) (gB q) (.ok (.int i)) (.ok (.int j)) (.ok (.int k)) = .ok (.bl (p i j && q j k)) := by
 show (bif p i j then R.ok (D.bl (q j k)) else R.ok (D.bl false)) = _
 cases p i j <;> rfl
noncomputable def appK (i : Nat) (l : R (List D)) (a : R D) (σ : DSt) : R Out := l.bind fun ds => a.bind fun d => bif most ds.length then .ok (.nx (σ.set i (some (.lst (ds ++ [d]))))) else .bad
theorem zg6 (own : List Nat) (i : Nat) (fe : DSt → R D) (σ : DSt) : zug own i fe σ = appK i (zdv σ i) (fe (mask own σ)) σ := rfl
theorem zmM {n : Nat} (h : n ≤ 1000000) : most n = true := decide_eq_true (Nat.lt_of_le_of_lt h (by decide))
theorem zf7 (i : Nat) (ds : List D) (d : D) (σ : DSt) (h : ds.length ≤ 1000000) : appK i (.ok ds) (.ok d) σ = .ok (.nx (σ.set i (some (.lst (ds ++ [d]))))) := by
 show (bif most ds.length then _ else _) = _
 rw [zmM h]; rfl
noncomputable def zwT (i : Nat) (l : R (List D)) (a : R D) (σ : DSt) : R Out := l.bind fun ds => a.bind fun d => bif most ds.length && imm d then .ok (.nx (σ.set i (some (.lst (ds ++ [d]))))) else .bad
theorem zkI (i : Nat) (fe : DSt → R D) (σ : DSt) : zyl i fe σ = zwT i (zdv σ i) (fe σ) σ := rfl
theorem zr5 (i : Nat) (ds : List D) (d : D) (σ : DSt) (h : ds.length ≤ 1000000) (h' : imm d = true) : zwT i (.ok ds) (.ok d) σ = .ok (.nx (σ.set i (some (.lst (ds ++ [d]))))) := by
 show (bif most ds.length && imm d then _ else _) = _
 rw [zmM h, h']; rfl
theorem ziP (ds : List D) (σ : DSt) : zdv (some (.lst ds) :: σ) 0 = .ok ds := rfl
theorem ziQ (x : Option D) (σ : DSt) (n : Nat) : zdv (x :: σ) (n + 1) = zdv σ n := rfl
theorem zuA {i : Int} (h1 : -(10 ^ 100) ≤ i) (h2 : i ≤ 10 ^ 100) : zlG i = true := zpx (n := 400) (B.of (k := 10 ^ 100) (by omega))
theorem zuB {i : Int} (h1 : -(10 ^ 100) ≤ i) (h2 : i ≤ 10 ^ 100) (h : i ≠ 0) : zpy i = true := zlH (n := 400) (B.of (k := 10 ^ 100) (by omega)) h
noncomputable def zyD (a : R D) : R Out := a.bind fun d => .ok (.rt d)
theorem zmN (fe : DSt → R D) (σ : DSt) : zbY fe σ = zyD (fe σ) := rfl
theorem zpW (d : D) : zyD (.ok d) = .ok (.rt d) := rfl
theorem zmO (e : D) : zyD (.err e) = .err e := rfl
noncomputable def zuC (a : R D) (σ : DSt) : R Out := a.bind fun _ => .ok (.nx σ)
theorem zkJ (fe : DSt → R D) (σ : DSt) : zpr fe σ = zuC (fe σ) σ := rfl
theorem zmP (d : D) (σ : DSt) : zuC (.ok d) σ = .ok (.nx σ) := rfl
theorem zkK (e : D) (σ : DSt) : zuC (.err e) σ = .err e := rfl
noncomputable def zwU (i : Nat) (a : R D) (σ : DSt) : R Out := a.bind fun d => .ok (.nx (σ.set i (some d)))
theorem zhx (i : Nat) (fe : DSt → R D) (σ : DSt) : zaC i fe σ = zwU i (fe σ) σ := rfl
theorem zmQ (own : List Nat) (i : Nat) (fe : DSt → R D) (σ : DSt) : zlp own i fe σ = zwU i (fe (mask own σ)) σ := rfl
theorem zpX (i : Nat) (d : D) (σ : DSt) : zwU i (.ok d) σ = .ok (.nx (σ.set i (some d))) := rfl
theorem zmR (i : Nat) (e : D) (σ : DSt) : zwU i (.err e) σ = .err e := rfl
noncomputable def zwV (i : Nat) (a : R D) (σ : DSt) : R Out := a.bind fun d => bif imm d then .ok (.nx (σ.set i (some d))) else .bad
theorem zhy (i : Nat) (fe : DSt → R D) (σ : DSt) : zps i fe σ = zwV i (fe σ) σ := rfl
theorem zjF (i : Nat) (d : D) (σ : DSt) (h : imm d = true) : zwV i (.ok d) σ = .ok (.nx (σ.set i (some d))) := by
 show (bif imm d then _ else _) = _
 rw [h]; rfl
noncomputable def newK (i : Nat) (a : R (List D)) (σ : DSt) : R Out := a.bind fun ds => .ok (.nx (σ.set i (some (.lst ds))))
theorem zmS (own : List Nat) (i : Nat) (fe : DSt → R (List D)) (σ : DSt) : znW own i fe σ = newK i (fe (mask own σ)) σ := rfl
theorem zpY (i : Nat) (ds : List D) (σ : DSt) : newK i (.ok ds) σ = .ok (.nx (σ.set i (some (.lst ds)))) := rfl
noncomputable def zwW (ks : List Nat) (gp : D → R (List D)) (a : R D) (σ : DSt) : R Out := a.bind fun d => (gp d).noerr.bind fun us => .ok (.nx (setAll σ ks us))
theorem zmT (own ks : List Nat) (gp : D → R (List D)) (fe : DSt → R D) (σ : DSt) : zuf own ks gp fe σ = zwW ks gp (fe (mask own σ)) σ := rfl
theorem zpZ (i j : Nat) (a b : D) (σ : DSt) : zwW [i, j] (zea 2) (.ok (.tup [a, b])) σ = .ok (.nx ((σ.set i (some a)).set j (some b))) := rfl
theorem zp1 (i j : Nat) (a b : D) (σ : DSt) : zwW [i, j] (zea 2) (.ok (.lst [a, b])) σ = .ok (.nx ((σ.set i (some a)).set j (some b))) := rfl
theorem zp2 (i j k : Nat) (a b c : D) (σ : DSt) : zwW [i, j, k] (zea 3) (.ok (.tup [a, b, c])) σ = .ok (.nx (((σ.set i (some a)).set j (some b)).set k (some c))) := rfl
theorem zp3 (i j k : Nat) (a b c : D) (σ : DSt) : zwW [i, j, k] (zea 3) (.ok (.lst [a, b, c])) σ = .ok (.nx (((σ.set i (some a)).set j (some b)).set k (some c))) := rfl
noncomputable def parK (i j : Nat) (a : R (List D)) (σ : DSt) : R Out := a.bind fun ds => match ds with
 | [a, b] => .ok (.nx ((σ.set i (some a)).set j (some b)))
 | _ => .bad
theorem zmU (own : List Nat) (i j : Nat) (fs : DSt → R (List D)) (σ : DSt) : sPar own i j fs σ = parK i j (fs (mask own σ)) σ := rfl
theorem zp4 (i j : Nat) (a b : D) (σ : DSt) : parK i j (.ok [a, b]) σ = .ok (.nx ((σ.set i (some a)).set j (some b))) := rfl
noncomputable def zs6 (c : Str) (a : R (List D)) : R Out := a.bind fun ds => bif few ds.length then .err (.exc c []) else .bad
theorem ziR (c : Str) (fs : DSt → R (List D)) (σ : DSt) : zsG c fs σ = zs6 c (fs σ) := rfl
theorem zmV (c : Str) (a : D) : zs6 c (.ok [a]) = .err (.exc c []) := rfl
theorem zhz (c : Str) (σ : DSt) : zlL c σ = .err (.exc c []) := rfl
noncomputable def tryK (i : Nat) (c : Str) (r : R Out) (hnd : DSt → R Out) (σ : DSt) : R Out := match r with
 | .ok o => .ok o
 | .err (.exc cc as) => bif zsz cc c == some true then (hnd (σ.set i (some (.exc cc as)))).noerr.bind fun o => match o with
   | .nx σ' => .ok (.nx (σ'.set i none))
   | _ => .bad
  else .bad
 | _ => .bad
theorem zmW (i : Nat) (c : Str) (body hnd : DSt → R Out) (σ : DSt) : sTry i c body hnd σ = tryK i c (body σ) hnd σ := rfl
theorem zp5 (i : Nat) (c : Str) (o : Out) (hnd : DSt → R Out) (σ : DSt) : tryK i c (.ok o) hnd σ = .ok o := rfl
noncomputable def zyE (i : Nat) (r : R Out) : R Out := r.noerr.bind fun o => match o with
 | .nx σ' => .ok (.nx (σ'.set i none))
 | _ => .bad
theorem zmX (i : Nat) (σ : DSt) : zyE i (.ok (.nx σ)) = .ok (.nx (σ.set i none)) := rfl
theorem zs7 (d : D) : fin (.ok (.rt d)) = .ok d := rfl
theorem zs8 (σ : DSt) : fin (.ok (.nx σ)) = .ok .non := rfl
theorem zp6 (e : D) : fin (.err e) = .err e := rfl
theorem zp7 (i j : Int) : zbR (.int i) (.int j) = .ok (.int (i + j)) := rfl
theorem zp8 (i j : Int) : gSub (.int i) (.int j) = .ok (.int (i - j)) := rfl
theorem zan (i j : Int) (hi : zlG i = true) (hj : zlG j = true) : zbJ (.int i) (.int j) = .ok (.int (i * j)) := by
 show (bif zlG i && zlG j then _ else _) = _
 rw [hi, hj]; rfl
theorem zkL (i j : Int) (h : zpy j = true) (h0 : 0 < j) : zf6 (.int i) (.int j) = .ok (.int (i / j)) := by
 show (bif zpy j then R.ok (D.int (i.fdiv j)) else .bad) = _
 rw [h, Int.fdiv_eq_ediv_of_nonneg _ (Int.le_of_lt h0)]; rfl
theorem zdN (i j : Int) (h : zpy j = true) : zf6 (.int i) (.int j) = .ok (.int (i.fdiv j)) := by
 show (bif zpy j then _ else _) = _
 rw [h]; rfl
theorem zb4 (i j : Int) (h0 : 0 < j) : zfn (.int i) (.int j) = .ok (.int (i % j)) := by
 have : decide (j ≠ 0) = true := decide_eq_true (by omega)
 show (bif decide (j ≠ 0) then R.ok (D.int (i.fmod j)) else .bad) = _
 rw [this, Int.fmod_eq_emod_of_nonneg _ (Int.le_of_lt h0)]; rfl
theorem zuD (i j : Int) (h : zym i j = true) : zyo (.int i) (.int j) = .ok (.int (i ^ j.toNat)) := by
 show (bif zym i j then _ else _) = _
 rw [h]; rfl
theorem zuE (i j : Int) (h : 0 ≤ j) : zyp (.int i) (.int j) = .ok (.int (i / 2 ^ j.toNat)) := by
 show (bif decide (0 ≤ j) then _ else _) = _
 rw [decide_eq_true h]; rfl
theorem zs9 (i : Int) : zul (.int i) = .ok (.int (-i)) := rfl
theorem zta (i j : Int) : gLt (.int i) (.int j) = .ok (.bl (decide (i < j))) := rfl
theorem ztb (i j : Int) : gLe (.int i) (.int j) = .ok (.bl (decide (i ≤ j))) := rfl
theorem ztc (i j : Int) : gGt (.int i) (.int j) = .ok (.bl (decide (j < i))) := rfl
theorem ztd (i j : Int) : gGe (.int i) (.int j) = .ok (.bl (decide (j ≤ i))) := rfl
theorem zmY {a b : D} (h : zoo a b = true) : gEq a b = .ok (.bl (eqD a b)) := by unfold gEq; rw [h]; rfl
theorem zmZ {a b : D} (h : zoo a b = true) : gNe a b = .ok (.bl (!eqD a b)) := by unfold gNe; rw [h]; rfl
theorem zdY (i j : Int) : eqD (.int i) (.int j) = decide (i = j) := by unfold eqD; rfl
theorem zte (i j : Int) : gEq (.int i) (.int j) = .ok (.bl (decide (i = j))) := by rw [zmY rfl, zdY]
theorem ztf (i j : Int) : gNe (.int i) (.int j) = .ok (.bl (!decide (i = j))) := by rw [zmZ rfl, zdY]
theorem ztg (i j : Bool) : gEq (.bl i) (.bl j) = .ok (.bl (i == j)) := by rw [zmY rfl]; unfold eqD; rfl
theorem zth (i j : Bool) : gNe (.bl i) (.bl j) = .ok (.bl (!(i == j))) := by rw [zmZ rfl]; unfold eqD; rfl
noncomputable abbrev t3 (x y z : Int) : D := .tup [.int x, .int y, .int z]
noncomputable abbrev l3 (x y z : Int) : D := .lst [.int x, .int y, .int z]
theorem zkM : ∀ (ns ms : List Int), eqDs (ns.map D.int) (ms.map D.int) = decide (ns = ms)
 | [], [] => by unfold eqDs; rfl
 | [], _ :: _ => by unfold eqDs; rfl
 | _ :: _, [] => by unfold eqDs; rfl
 | n :: ns, m :: ms => by
  show eqDs (D.int n :: ns.map D.int) (D.int m :: ms.map D.int) = _
  unfold eqDs
  rw [zkM ns ms, zdY, Bool.eq_iff_iff]
  simp
theorem zkN (a b c x y z : Int) : eqD (t3 a b c) (t3 x y z) = decide (a = x ∧ b = y ∧ c = z) := by
 have := zkM [a, b, c] [x, y, z]
 unfold eqD
 rw [show ([D.int a, .int b, .int c] : List D) = [a, b, c].map D.int from rfl, show ([D.int x, .int y, .int z] : List D) = [x, y, z].map D.int from rfl, this, Bool.eq_iff_iff]
 simp
theorem zwX (a b c x y z : Int) : eqD (l3 a b c) (l3 x y z) = decide (a = x ∧ b = y ∧ c = z) := by
 have := zkN a b c x y z
 unfold eqD at this ⊢
 exact this
theorem zti (a b c x y z : Int) : gEq (t3 a b c) (t3 x y z) = .ok (.bl (decide (a = x ∧ b = y ∧ c = z))) := by rw [zmY rfl, zkN]
theorem ztj (a b c x y z : Int) : gNe (t3 a b c) (t3 x y z) = .ok (.bl (!decide (a = x ∧ b = y ∧ c = z))) := by rw [zmZ rfl, zkN]
theorem ztk (a b c x y z : Int) : gEq (l3 a b c) (l3 x y z) = .ok (.bl (decide (a = x ∧ b = y ∧ c = z))) := by rw [zmY rfl, zwX]
theorem ztl (a b : Bool) : gIs (.bl a) (.bl b) = .ok (.bl (a == b)) := rfl
theorem zp9 (a b : Bool) : zun (.bl a) (.bl b) = .ok (.bl (a != b)) := rfl
theorem zqa (d : D) : gIs d .non = .ok (.bl (zlK d)) := by cases d <;> rfl
theorem zm0 (d : D) : zun d .non = .ok (.bl (!zlK d)) := by cases d <;> rfl
theorem zm1 (a b c : D) : gIx (.tup [a, b, c]) (.int 0) = .ok a := rfl
theorem zm2 (a b c : D) : gIx (.tup [a, b, c]) (.int 1) = .ok b := rfl
theorem zm3 (a b c : D) : gIx (.tup [a, b, c]) (.int 2) = .ok c := rfl
theorem zm4 (a b c : D) : gIx (.lst [a, b, c]) (.int 0) = .ok a := rfl
theorem zm5 (a b c : D) : gIx (.lst [a, b, c]) (.int 1) = .ok b := rfl
theorem zm6 (a b c : D) : gIx (.lst [a, b, c]) (.int 2) = .ok c := rfl
theorem zjG {xs : List D} {j : Nat} {d : D} (h : xs[j]? = some d) : gIx (.lst xs) (.int (j : Int)) = .ok d := by
 show (match atI xs (j : Int) with | some d => R.ok d | none => .bad) = _
 rw [ztS h]
theorem zr6 (xs : List D) (d : D) : gIx (.lst (xs ++ [d])) (.int (-1)) = .ok d := by
 show (match atI (xs ++ [d]) (-1) with | some d => R.ok d | none => .bad) = _
 rw [zrk]
theorem ztm (xs : List D) : zfw [.lst xs] = .ok (.int xs.length) := rfl
theorem zqb : zfw [.tup []] = .ok (.int 0) := rfl
theorem zqc (a : D) : zfw [.tup [a]] = .ok (.int 1) := rfl
theorem zqd (a b : D) : zfw [.tup [a, b]] = .ok (.int 2) := rfl
theorem zqe (a b c : D) : zfw [.tup [a, b, c]] = .ok (.int 3) := rfl
theorem zqf (a b c d : D) : zfw [.tup [a, b, c, d]] = .ok (.int 4) := rfl
theorem ztn (i : Int) : zrX [.int i] = .ok (.int (i.natAbs : Int)) := rfl
theorem zqg (i j : Int) : zxp [.int i, .int j] = .ok (.int (min i j)) := rfl
theorem zqh (i j : Int) : zxq [.int i, .int j] = .ok (.int (max i j)) := rfl
theorem zto (b : Bool) : zxr [.bl b] = .ok (.int (if b then 1 else 0)) := rfl
theorem zhA (i : Int) : g2 zg5 [.int i, .ty "int"] = .ok (.bl true) := rfl
theorem zgn (i : Int) : g2 zg5 [.int i, .ty "bool"] = .ok (.bl false) := rfl
theorem zhB (i : Bool) : g2 zg5 [.bl i, .ty "bool"] = .ok (.bl true) := rfl
theorem ziS (i : Bool) : g2 zg5 [.bl i, .ty "int"] = .ok (.bl true) := rfl
theorem zhC (xs : List D) : g2 zg5 [.tup xs, .ty "tuple"] = .ok (.bl true) := rfl
theorem zhD (xs : List D) : g2 zg5 [.lst xs, .ty "list"] = .ok (.bl true) := rfl
theorem zhE (xs : List D) : g2 zg5 [.lst xs, .ty "tuple"] = .ok (.bl false) := rfl
theorem zhF (xs : List D) : g2 zg5 [.tup xs, .ty "list"] = .ok (.bl false) := rfl
theorem zm7 (c : Str) : g2 zg5 [.exc c [], .ty "ValueError"] = .ok (.bl true) := rfl
theorem zkO (j : Int) (h : rOk j = true) : zgk [.int j] = .ok (zgi 0 j.toNat) := by
 show (bif rOk j then _ else _) = _
 rw [h]; rfl
theorem zfo (i j : Int) (h : rOk i = true) (h' : rOk j = true) : zlC [.int i, .int j] = .ok (zgi i (j - i).toNat) := by
 show (bif rOk i && rOk j then _ else _) = _
 rw [h, h']; rfl
theorem zcv {i : Int} (h : -1000000000 ≤ i) (h' : i ≤ 1000000000) : rOk i = true := by
 unfold rOk
 rw [Nat.blt_eq]
 omega
noncomputable def zwY (g : List D → R (List D)) (a : R (List D)) : R (List D) := a.bind g
theorem zkP (g : List D → R (List D)) (fs : DSt → R (List D)) (σ : DSt) : zb1 g fs σ = zwY g (fs σ) := (rfl)
theorem zm8 (g : List D → R (List D)) (ds : List D) : zwY g (.ok ds) = g ds := (rfl)
noncomputable def znY (a : R D) : R (List D) := a.bind zpl
theorem zm9 (f : DSt → R D) (σ : DSt) : zgj f σ = znY (f σ) := rfl
theorem zqi (xs : List D) : znY (.ok (.tup xs)) = .ok xs := rfl
theorem zqj (xs : List D) : znY (.ok (.lst xs)) = .ok xs := rfl
noncomputable def forK (ks : List Nat) (gp : D → R (List D)) (fb : DSt → R Out) (a : R (List D)) (σ : DSt) : R Out := a.bind fun ds => zis ks gp fb ds σ
theorem zna (own ks : List Nat) (gp : D → R (List D)) (fi : DSt → R (List D)) (fb : DSt → R Out) (σ : DSt) : zir own ks gp fi fb σ = forK ks gp fb (fi (mask own σ)) σ := rfl
theorem zqk (ks : List Nat) (gp : D → R (List D)) (fb : DSt → R Out) (ds : List D) (σ : DSt) : forK ks gp fb (.ok ds) σ = zis ks gp fb ds σ := rfl
noncomputable def zlM (r : R Out) (k : DSt → R Out) : R Out := r.bind fun o => match o with
 | .nx σ' => k σ'
 | .ct σ' => k σ'
 | .bk σ' => .ok (.nx σ')
 | .rt d => .ok (.rt d)
 | .rf d => .ok (.rf d)
theorem zjH (σ : DSt) (k : DSt → R Out) : zlM (.ok (.nx σ)) k = k σ := rfl
theorem znb (σ : DSt) (k : DSt → R Out) : zlM (.ok (.ct σ)) k = k σ := rfl
theorem znc (σ : DSt) (k : DSt → R Out) : zlM (.ok (.bk σ)) k = .ok (.nx σ) := rfl
theorem znd (d : D) (k : DSt → R Out) : zlM (.ok (.rt d)) k = .ok (.rt d) := rfl
theorem zkQ (d : D) (k : DSt → R Out) : zlM (.err d) k = .err d := rfl
theorem zfy (ks : List Nat) (gp : D → R (List D)) (fb : DSt → R Out) (σ : DSt) : zis ks gp fb [] σ = .ok (.nx σ) := rfl
theorem zco (i : Nat) (fb : DSt → R Out) (d : D) (ds : List D) (σ : DSt) : zis [i] zar fb (d :: ds) σ = zlM (fb (σ.set i (some d))) (zis [i] zar fb ds) := by
 show (fb (σ.set i (some d))).bind _ = _
 unfold zlM
 cases fb (σ.set i (some d)) with
 | ok o => cases o <;> rfl
 | err e => rfl
 | bad => rfl
theorem zfz {i : Nat} {fb : DSt → R Out} (I : DSt → Prop) : ∀ (ds : List D), (∀ d ∈ ds, ∀ σ, I σ → ∃ σ', (fb (σ.set i (some d)) = .ok (.nx σ') ∨ fb (σ.set i (some d)) = .ok (.ct σ')) ∧ I σ') → ∀ σ, I σ → ∃ σ', zis [i] zar fb ds σ = .ok (.nx σ') ∧ I σ'
 | [], _, σ, h => ⟨σ, rfl, h⟩
 | d :: ds, hs, σ, h => by
  obtain ⟨σ1, h1, h2⟩ := hs d List.mem_cons_self σ h
  obtain ⟨σ2, h3, h4⟩ := zfz I ds (fun d' hd => hs d' (List.mem_cons_of_mem _ hd)) σ1 h2
  refine ⟨σ2, ?_, h4⟩
  rw [zco]
  rcases h1 with h1 | h1 <;> rw [h1]
  ·exact h3
  ·exact h3
theorem zjI {i : Nat} {fb : DSt → R Out} (I : Nat → DSt → Prop) (ds : List D) (hs : ∀ (k : Nat) (d : D) (σ : DSt), ds[k]? = some d → I k σ → ∃ σ', (fb (σ.set i (some d)) = .ok (.nx σ') ∨ fb (σ.set i (some d)) = .ok (.ct σ')) ∧ I (k + 1) σ') (σ : DSt) (h : I 0 σ) : ∃ σ', zis [i] zar fb ds σ = .ok (.nx σ') ∧ I ds.length σ' := by
 have go : ∀ (ds : List D) (n : Nat), (∀ (k : Nat) (d : D) (σ : DSt), ds[k]? = some d → I (n + k) σ → ∃ σ', (fb (σ.set i (some d)) = .ok (.nx σ') ∨ fb (σ.set i (some d)) = .ok (.ct σ')) ∧ I (n + k + 1) σ') → ∀ σ, I n σ → ∃ σ', zis [i] zar fb ds σ = .ok (.nx σ') ∧ I (n + ds.length) σ' := by
  intro ds
  induction ds with
  | nil => intro n _ σ h; exact ⟨σ, rfl, h⟩
  | cons d ds ih =>
   intro n hs σ h
   obtain ⟨σ1, h1, h2⟩ := hs 0 d σ rfl h
   obtain ⟨σ2, h3, h4⟩ := ih (n + 1) (fun k d' σ hd hI => by
    have := hs (k + 1) d' σ (by simpa using hd) (by rw [show n + (k + 1) = n + 1 + k by omega]; exact hI)
    rw [show n + (k + 1) + 1 = n + 1 + k + 1 by omega] at this
    exact this) σ1 h2
   refine ⟨σ2, ?_, by rw [List.length_cons, show n + (ds.length + 1) = n + 1 + ds.length by omega]; exact h4⟩
   rw [zco]
   rcases h1 with h1 | h1 <;> rw [h1]
   ·exact h3
   ·exact h3
 obtain ⟨σ', h1, h2⟩ := go ds 0 (fun k d σ hd hI => by
  rw [Nat.zero_add] at hI ⊢
  exact hs k d σ hd hI) σ h
 exact ⟨σ', h1, by rw [Nat.zero_add] at h2; exact h2⟩
theorem zne {c : DSt → R Bool} {fb : DSt → R Out} {σ σ' : DSt} (h : c σ = .ok true) (h' : fb σ = .ok (.nx σ')) : za8 c fb σ = za8 c fb σ' := by rw [zht, h]; show (fb σ).bind _ = _; rw [h']; rfl
theorem znf {c : DSt → R Bool} {fb : DSt → R Out} {σ : DSt} (h : c σ = .ok false) : za8 c fb σ = .ok (.nx σ) := by rw [zht, h]; rfl
noncomputable def lcK (k : Nat) (ks : List Nat) (a : R (List D)) (gp : D → R (List D)) (c : DSt → R Bool) (e : DSt → R D) (σ : DSt) : R (List D) := a.bind fun ds => bif most ds.length then (lcD ks gp c e (List.replicate k none ++ σ) ds).noerr else .bad
theorem zql (k : Nat) (ks : List Nat) (fi : DSt → R (List D)) (gp : D → R (List D)) (c : DSt → R Bool) (e : DSt → R D) (σ : DSt) : eLC k ks fi gp c e σ = lcK k ks (fi σ) gp c e σ := rfl
theorem zlN {n : Nat} (h : n ≤ 1000000) : most n = true := decide_eq_true (Nat.lt_of_le_of_lt h (by decide))
theorem zqm {ds : List D} {e : DSt → R D} {σ : DSt} {g : D → D} (hl : ds.length ≤ 1000000) (h : ∀ d ∈ ds, e (some d :: σ) = .ok (g d)) : lcK 1 [0] (.ok ds) zar za1 e σ = .ok (ds.map g) := by
 have go : ∀ ds : List D, (∀ d ∈ ds, e (some d :: σ) = .ok (g d)) → lcD [0] zar za1 e (List.replicate 1 none ++ σ) ds = .ok (ds.map g) := by
  intro ds
  induction ds with
  | nil => intro _; rfl
  | cons d ds ih =>
   intro h
   show (e (some d :: σ)).bind (fun y => (lcD [0] zar za1 e (List.replicate 1 none ++ σ) ds).bind fun ys => .ok (y :: ys)) = _
   rw [h d List.mem_cons_self, ih fun d' hd => h d' (List.mem_cons_of_mem _ hd)]; rfl
 show (bif most ds.length then _ else _) = _
 rw [zlN hl, go ds h]; rfl
theorem zc0 {ds : List D} {c : DSt → R Bool} {e : DSt → R D} {σ : DSt} {p : D → Bool} {g : D → D} (hl : ds.length ≤ 1000000) (hc : ∀ d ∈ ds, c (some d :: σ) = .ok (p d)) (h : ∀ d ∈ ds, p d = true → e (some d :: σ) = .ok (g d)) :
  lcK 1 [0] (.ok ds) zar c e σ = .ok ((ds.filter p).map g) := by
 have go : ∀ ds : List D, (∀ d ∈ ds, c (some d :: σ) = .ok (p d)) → (∀ d ∈ ds, p d = true → e (some d :: σ) = .ok (g d)) → lcD [0] zar c e (List.replicate 1 none ++ σ) ds = .ok ((ds.filter p).map g) := by
  intro ds
  induction ds with
  | nil => intro _ _; rfl
  | cons d ds ih =>
   intro hc h
   have ih' := ih (fun d' hd => hc d' (List.mem_cons_of_mem _ hd)) fun d' hd => h d' (List.mem_cons_of_mem _ hd)
   show (c (some d :: σ)).bind (fun k => bif k then (e (some d :: σ)).bind (fun y => (lcD [0] zar c e (List.replicate 1 none ++ σ) ds).bind fun ys => .ok (y :: ys)) else lcD [0] zar c e (List.replicate 1 none ++ σ) ds) = _
   rw [hc d List.mem_cons_self, ih']
   cases hp : p d with
   | true =>
    show (e (some d :: σ)).bind _ = _
    rw [h d List.mem_cons_self hp, List.filter_cons_of_pos hp]; rfl
   | false => rw [List.filter_cons_of_neg (by rw [hp]; exact Bool.false_ne_true)]; rfl
 show (bif most ds.length then _ else _) = _
 rw [zlN hl, go ds hc h]; rfl
end DL
end
section
set_option Elab.async false
set_option linter.all false
set_option maxRecDepth 100000
namespace DL
open PySem L2 PyProof.Rows
section
variable {X : Cx} {E : XK} {e : Expr} {te : TE} {pos : Pos}
noncomputable def zxt (i : Nat) (l : R (List D)) (a k : R D) (σ : DSt) : R Out := l.bind fun ds => a.bind fun d => k.bind fun kd => match kd with
 | .int n => match ixN ds.length n with
  | some j => .ok (.nx (σ.set i (some (.lst (ds.set j d)))))
  | none => .bad
 | _ => .bad
noncomputable def zwZ (own : List Nat) (i : Nat) (fk fe : DSt → R D) : DSt → R Out := fun σ => zxt i (zdv σ i) (fe (mask own σ)) (fk (mask own σ)) σ
variable {own ol : List Nat} {x : Str} {k : Expr} {fk fe : DSt → R D} {np tpos : Pos}
theorem ztp (i : Nat) (hk : DE X E k fk) (he : DE X E e fe) (ho : own.contains i = true := by rfl) (hN : X.N[i]? = some x := by rfl) (hv : Vis X.env.scope x := by first | exact Or.inl rfl | exact Or.inr (Or.inl rfl) | exact Or.inr (Or.inr rfl)) (hd : (x == ("__debug__" : Str)) = false := by decide)
  (hcd : (x == ("__classdict__" : Str)) = false := by decide)
  (ha : ∀ v, assign (.Subscript (.Name x np) k tpos) X.env v = (do
   let ov ← holding [v] (eval (.Name x np) X.env)
   let iv ← holding [v, ov] (eval k X.env)
   standAt tpos
   holding [v, ov, iv] (setItem ov iv v)
   release [v, ov, iv] []) := by intro _; rfl)
  (hs : swapsWithSole [.Subscript (.Name x np) k tpos] e pos.line X.env = pure false := by rfl) (hw : swappedStores [.Subscript (.Name x np) k tpos] e X.env = pure none := by rfl)
  (h1 : (assignEach [.Subscript (.Name x np) k tpos] X.env).map (·.2) = [assign (.Subscript (.Name x np) k tpos) X.env] := by rfl) :
  DS X E own own ol (.Assign [.Subscript (.Name x np) k tpos] e pos) (zwZ own i fk fe) := fun G0 =>
 PS.mono' (zso he (zvx (pv i hN hv hd hcd) hk zrl ha) hs hw h1) fun Dn σ H ⟨G, σd, ok, s0, q⟩ => by
 unfold zwZ zxt at q
 cases hL : zdv σd i with
 | bad => rw [hL] at q; exact q.elim
 | err e => exact absurd hL zjx
 | ok ds =>
  rw [hL] at q
  have hd := zjw hL
  have hi : i ∈ own := by simpa using ho
  obtain ⟨a, ds', vs, p1, p2, p3, p4, p5, p6⟩ := ok.mine i _ hi hd
  cases p2
  refine ⟨G, mask own σd, ok.masked, (show RW ((fe (mask own σd)).bind _) _ _ from q).of_bind.mono (fun d _ z v G1 H1 s1 r1 => ?_) fun _ z => z.step s0⟩
  have ok1 := ok.step s1
  refine ⟨_, p1, G1, mask own σd, ok1.masked, z.of_bind.mono (fun kd _ z kv G2 H2 s2 r2 => ?_) fun _ z => z.step (s0.trans s1)⟩
  have ok2 := ok1.step s2
  have s12 := s1.trans s2
  cases kd with
  | int n =>
   cases r2
   cases hj : ixN ds.length n with
   | none => simp only [hj] at z; exact z.elim
   | some j =>
    simp only [hj] at z
    refine ⟨a, vs, n, j, rfl, rfl, s12.h _ _ p3, by rw [← p6.length]; exact hj, ?_⟩
    exact (show zf4 X.K X.mg G0 X.H₀ own ol Dn G (.nx (σd.set i (some (.lst (ds.set j d))))) from z) σ G2 _ (ok2.write hi hd p1 ((p6.mono s12.g).set j (r1.mono s2.g))) ((s0.trans s12).write (o := .lst vs) p5 (s12.c _ _ p3 p4)) s12.g
  | _ => exact (show False from z).elim
end
section
variable {X : Cx} {E : XK} {tg : Expr} {fs : DSt → R (List D)} {a b c : Expr} {p pos : Pos}
variable {own ol ks : List Nat} {iter : Expr} {body : List Stmt} {gp : D → R (List D)} {fi : DSt → R (List D)} {fb : DSt → R Out}
end
section
variable {X : Cx} {E : XK} {K : PySem.W.Frag} {mg : Str → Option Value} {p pos : Pos} {e : Expr} {es : List Expr} {fs : DSt → R (List D)}
end
end DL
end
section
set_option Elab.async false
set_option linter.all false
set_option maxRecDepth 100000
namespace DL
open PySem PySem.Spec PyProof.Rows L2
section
variable {X : Cx} {E : XK} {pos : Pos}
end
end DL
end
section
set_option Elab.async false
set_option linter.all false
set_option maxRecDepth 100000
namespace DL
open PySem L2 PyProof.Rows
theorem zkR (l : Addr) (items : Array Value) (n : Nat) (b : Addr) (items2 : Array Value) (n2 : Nat) (dd : Option Addr) (sl : Array (Option Value)) (hc0 : ¬(!items.isEmpty && Builtin.List.listTooLong (items.size + items2.size)) = true) (hc1 : items.size ≤ sizeLine) (hs2 : items.size + items2.size ≤ sizeLine + 1) :
  Meets (Builtin.«list.extend» ⟨[.ref l, .ref b], []⟩) (fun _ R s => s.heap.get? l = some { cls := .type "list", dict := none, data := .seq items n, slots := #[] } ∧ s.heap.get? b = some { cls := .type "list", dict := dd, data := .seq items2 n2, slots := sl } ∧ R (.ok (.ret Value.none)) { s with heap := s.heap.update l (Obj.mapSeq fun x => x ++ items2), toks := s.toks }) :=
 .of_wp fun _ _ _ _ s q => by
  obtain ⟨hp, gg, dr, tk, os⟩ := s
  obtain ⟨e1, e2, q⟩ := q
  have i1 := AutoSeq1.idx_int
  have i2 := AutoSeq1.sub_tuple_tuple
  have i3 := AutoSeq1.sub_list_list
  have i4 := AutoSeq1.sub_tuple_list
  have i5 := AutoSeq1.sub_list_tuple
  have room : (items ++ items2).size ≤ sizeLine + 1 := by
   rw [Array.size_append]
   exact hs2
  wp_walk using (wpAny_updateSeq e1 rfl (hz := hc1) (_hz' := room)), wpAny_loadPart' e1, wpAny_loadPart' e2
  exact ⟨_, rfl, q⟩
section
variable {X : Cx}
noncomputable def zyF (K : PySem.W.Frag) : V → List V → Hp → VK → Prop := fun x vs H Q => ∃ l b xs zs, x = .ref l ∧ vs = [.ref b] ∧ H l = some (.lst xs) ∧ SqL K H b zs ∧ xs.length + zs.length ≤ sizeLine ∧ Q .non (upd H l (.lst (xs ++ zs)))
theorem zuF : MtM X "list.extend" (zyF X.K) := by
 intro pins s σ H x vs v us Q I rx rv h
 obtain ⟨l, b, xs, zs, rfl, rfl, hH, hB, hz, q⟩ := h
 cases rx
 obtain ⟨u, rfl, ru⟩ := rv.one
 cases ru
 obtain ⟨z, its, n, r, hl, e⟩ := I.lstM hH
 obtain ⟨its2, r2, pl2, z2⟩ := I.list hB
 have hl2 := r2.length
 obtain ⟨⟨cls2, dd2, data2, sl2⟩, ho2, hc2, n2, hd2⟩ := id pl2.isList
 simp only at hc2 hd2
 subst hc2 hd2
 have hsz : its.toArray.size + its2.toArray.size ≤ sizeLine := by rw [List.size_toArray, List.size_toArray]; omega
 have hlong : ¬ (!its.toArray.isEmpty && Builtin.List.listTooLong (its.toArray.size + its2.toArray.size)) = true := by
  rw [zrm hsz, Bool.and_false]
  exact Bool.false_ne_true
 refine call_meets F.slot_list_extend ⟨_, e, rfl⟩ F.entry_list_extend (F.args_list_extend_2 _ _)
  (zkR l its.toArray n b its2.toArray n2 dd2 sl2 hlong (by rw [List.size_toArray]; omega) (by omega)) ⟨e, ho2, ?_⟩
 refine ⟨.non, _, I.lset (its' := its ++ its2) hH e (by simp) (r.append r2) ?_, rfl, q⟩
 rw [List.length_append]
 omega
end
noncomputable def zvb (ds : List D) (i : Nat) (σ : DSt) : D → R Out
 | .lst es => bif zlI (ds.length + es.length) then .ok (.nx (σ.set i (some (.lst (ds ++ es))))) else .bad
 | _ => .bad
noncomputable def zxu (own : List Nat) (i : Nat) (fe : DSt → R D) : DSt → R Out := fun σ => (zdv σ i).bind fun ds => (fe (mask own σ)).bind fun d => zvb ds i σ d
section
variable {X : Cx} {E : XK} {own ol : List Nat} {e : Expr} {fe : DSt → R D} {x : Str} {pos : Pos}
theorem ztq (i : Nat) {apos cpos : Pos} {np : Pos} (he : DE X E e fe) (ho : own.contains i = true := by rfl) (hN : X.N[i]? = some x := by rfl) (hv : Vis X.env.scope x := by first | exact Or.inl rfl | exact Or.inr (Or.inl rfl) | exact Or.inr (Or.inr rfl)) (hd : (x == ("__debug__" : Str)) = false := by decide)
  (hcd : (x == ("__classdict__" : Str)) = false := by decide)
  (hbase : attributeBase (.Name x np) "extend" X.env (eval (.Name x np) X.env) = eval (.Name x np) X.env := by rfl)
  (hfew : ((backTo cpos (starEach [e] X.env)).all (fun x => !x.1) && (backToKw cpos (keywordEach [] X.env)).all (fun x => x.1.isSome) && decide ([e].length + ([] : List Keyword).length + (if ([] : List Keyword).isEmpty then 0 else 1) < 30)) = true := by rfl)
  (hline : (apos.endLine == cpos.line) = true := by rfl) (hs : starEach [e] X.env = (false, eval e X.env) :: starEach [] X.env := by rfl) (hplain : (backTo cpos (starEach [] X.env)).any (·.1) = false := by rfl)
  (hsw : swapsWith (.Call (.Attribute (.Name x np) "extend" apos) [e] [] cpos) none pos.line X.env = pure false := by rfl) :
  DS X E own own ol (.Expr (.Call (.Attribute (.Name x np) "extend" apos) [e] [] cpos) pos) (zxu own i fe) := fun G0 =>
 PS.mono' (zlr (zvQ PySem.F.plainAttrs_list PySem.F.slot_list_extend PySem.F.type_list_extend zuF (pv i hN hv hd hcd) (zaJ he zbP hs) hbase hfew hline hs hplain) hsw) fun Dn σ H ⟨G, σd, ok, s0, q⟩ => by
 have q1 := q.of_bind
 cases hL : zdv σd i with
 | bad => rw [hL] at q1; exact q1.elim
 | err e => exact absurd hL zjx
 | ok ds =>
  rw [hL] at q1
  have q2 : RW ((fe (mask own σd)).bind fun d => zvb ds i σd d) (zf4 X.K X.mg G0 X.H₀ own ol Dn G) (zaN X.K X.mg E G0 X.H₀) := q1
  have hd := zjw hL
  have hi : i ∈ own := by simpa using ho
  obtain ⟨a, ds', vs, p1, p2, p3, p4, p5, p6⟩ := ok.mine i _ hi hd
  cases p2
  refine ⟨_, p1, .inl ⟨rfl, _, SqL.of p3⟩, ?_⟩
  refine ⟨G, mask own σd, ok.masked, (show RW ((zaa fe zaf) (mask own σd)) _ _ from ?_)⟩
  unfold zaa
  have q3 := q2.of_bind
  cases hf : fe (mask own σd) with
  | bad => rw [hf] at q3; exact q3.elim
  | err e => rw [hf] at q3; exact (show zaN X.K X.mg E G0 X.H₀ e from q3).step s0
  | ok d =>
   rw [hf] at q3
   have q3 : RW (zvb ds i σd d) (zf4 X.K X.mg G0 X.H₀ own ol Dn G) (zaN X.K X.mg E G0 X.H₀) := q3
   rintro ws G' H' s ⟨v, _, e1, r1, r2⟩
   subst e1
   cases r2
   cases d with
   | lst es =>
    obtain ⟨b, ys, rfl, hb, hy⟩ := r1
    cases hm : zlI (ds.length + es.length) with
    | false => simp only [zvb, hm, cond_false] at q3; exact (show False from q3).elim
    | true =>
     simp only [zvb, hm, cond_true] at q3
     have hle : ds.length + es.length ≤ sizeLine := of_decide_eq_true hm
     have ok' := ok.step s
     refine ⟨a, b, vs, ys, rfl, rfl, s.h _ _ p3, s.e.seq hb, by rw [← p6.length, ← hy.length]; exact hle, ?_⟩
     exact (show zf4 X.K X.mg G0 X.H₀ own ol Dn G (.nx (σd.set i (some (.lst (ds ++ es))))) from q3) σ G' _ (ok'.write hi hd p1 ((p6.mono s.g).append hy)) ((s0.trans s).write (o := .lst vs) p5 (s.c _ _ p3 p4)) s.g
   | _ => exact (show False from q3).elim
end
noncomputable def extK (i : Nat) (l : R (List D)) (a : R D) (σ : DSt) : R Out := l.bind fun ds => a.bind fun d => zvb ds i σ d
theorem zg7 (own : List Nat) (i : Nat) (fe : DSt → R D) (σ : DSt) : zxu own i fe σ = extK i (zdv σ i) (fe (mask own σ)) σ := rfl
theorem zjJ (i : Nat) (ds es : List D) (σ : DSt) (h : ds.length + es.length ≤ 1000000) : extK i (.ok ds) (.ok (.lst es)) σ = .ok (.nx (σ.set i (some (.lst (ds ++ es))))) := by
 show (bif zlI (ds.length + es.length) then _ else _) = _
 rw [show zlI (ds.length + es.length) = true from decide_eq_true (Nat.le_trans h (by decide))]; rfl
end DL
end
section
set_option Elab.async false
set_option linter.all false
set_option maxRecDepth 100000
namespace DL
open PySem L2 PyProof.Rows
noncomputable def inD (d : D) (xs : List D) : Bool := xs.any fun y => eqD y d
noncomputable def in2 (d : D) (xs : List D) : Bool := zdt 9 d && xs.all (zdt 9)
noncomputable def gIn : D → D → R D
 | d, .lst xs => bif in2 d xs then .ok (.bl (inD d xs)) else .bad
 | d, .tup xs => bif in2 d xs then .ok (.bl (inD d xs)) else .bad
 | .str i, .str j => .ok (.bl (!(Builtin.Str.occurrences j i 0 j.length 1).isEmpty))
 | _, _ => .bad
noncomputable def zop : D → D → R D
 | d, .lst xs => bif in2 d xs then .ok (.bl (!inD d xs)) else .bad
 | d, .tup xs => bif in2 d xs then .ok (.bl (!inD d xs)) else .bad
 | .str i, .str j => .ok (.bl (!(!(Builtin.Str.occurrences j i 0 j.length 1).isEmpty)))
 | _, _ => .bad
section
variable {X : Cx} {E : XK}
theorem zw0 {K : PySem.W.Frag} {mg : Str → Option Value} {G : Hp} {d : D} (f : Value → Bool) : ∀ {ds : List D} {vs : List V} {its : List Value}, (∀ d' v' u, d' ∈ ds → Rep K mg G d' v' → zbC v' u → f u = eqD d' d) → Reps K mg G ds vs → zbA vs its → its.any f = ds.any fun y => eqD y d
 | [], _, _, _, r, t => by cases r; cases t; rfl
 | d' :: ds, _, _, h, ⟨v, vs, e, r1, r2⟩, t => by
  subst e
  cases t with
  | cons q t =>
   rw [List.any_cons, List.any_cons, h d' _ _ List.mem_cons_self r1 q, zw0 f (fun d'' v'' u hd => h d'' v'' u (List.mem_cons_of_mem _ hd)) r2 t]
theorem zhG {K : PySem.W.Frag} {mg : Str → Option Value} {G : Hp} : ∀ {ds : List D} {vs : List V} {its : List Value}, Reps K mg G ds vs → zbA vs its → ∀ u ∈ its, ∃ d' v', d' ∈ ds ∧ Rep K mg G d' v' ∧ zbC v' u
 | [], _, _, r, t, u, hu => by cases r; cases t; cases hu
 | d' :: ds, _, _, ⟨v, vs, e, r1, r2⟩, t, u, hu => by
  subst e
  cases t with
  | cons q t =>
   rcases List.mem_cons.mp hu with rfl | hu
   ·exact ⟨d', v, List.mem_cons_self, r1, q⟩
   ·obtain ⟨d'', v'', h1, h2, h3⟩ := zhG r2 t u hu
    exact ⟨d'', v'', List.mem_cons_of_mem _ h1, h2, h3⟩
noncomputable def rInD (K : PySem.W.Frag) (mg : Str → Option Value) (neg : Bool) : R2 := fun x y H Q => ∃ G d ds p vs, zaD G H ∧ Rep K mg G d x ∧ y = .ref p ∧ (SqL K G p vs ∨ SqT K G p vs) ∧ Reps K mg G ds vs ∧ in2 d ds = true ∧ Q (.bl (bif neg then !inD d ds else inD d ds)) H
open Classical in
theorem zg8 {pins : List (Addr × Obj)} {σ : L2.St} {G H : Hp} {s : Shared} (I : Inv X pins σ H s) {k : Nat} (r : zhc k X.A) (e : zaD G H) {d : D} {x : V} {v : Value} {ds : List D} {vs : List V} {its : List Value} (rx : Rep X.K X.mg G d x) (qx : zbC x v) (rs : Reps X.K X.mg G ds vs) (t : zbA vs its) (h : in2 d ds = true) :
  ∃ f : Value → Bool, (∀ u ∈ its, SeqAt.EqAt X.A.in1 s u v (f u)) ∧ its.any f = inD d ds := by
 unfold in2 at h
 rw [Bool.and_eq_true, List.all_eq_true] at h
 obtain ⟨h1, h2⟩ := h
 have key : ∀ d' v' u, d' ∈ ds → Rep X.K X.mg G d' v' → zbC v' u → decide (∃ d'' v'', d'' ∈ ds ∧ Rep X.K X.mg G d'' v'' ∧ zbC v'' u ∧ eqD d'' d = true) = eqD d' d := by
  intro d' v' u hd r1 q1
  by_cases hq : eqD d' d = true
  ·rw [hq]; exact decide_eq_true ⟨d', v', hd, r1, q1, hq⟩
  ·rw [Bool.not_eq_true] at hq
   rw [hq]
   refine decide_eq_false ?_
   rintro ⟨d'', v'', hd', r2, q2, hq'⟩
   have ev := q1.inj q2
   subst ev
   have := zlF I e 9 (h2 _ hd) (h2 _ hd') r1 r2
   subst this
   rw [hq] at hq'; cases hq'
 refine ⟨fun u => decide (∃ d'' v'', d'' ∈ ds ∧ Rep X.K X.mg G d'' v'' ∧ zbC v'' u ∧ eqD d'' d = true), fun u hu => ?_, zw0 _ key rs t⟩
 obtain ⟨d', v', hd, r1, q1⟩ := zhG rs t u hu
 show SeqAt.EqAt X.A.in1 s u v (decide _)
 rw [key d' v' u hd r1 q1]
 exact (zpw I e 9 (by rw [in1_units]; have := r.un; omega) (h2 _ hd) h1 r1 q1 rx qx).1
theorem zw1 {k : Nat} (r : zhc k X.A) : OpR X (compareOp .In) (rInD X.K X.mg false) := by
 intro pins s σ H x y v u Q I rx ry h
 obtain ⟨G, d, ds, p, vs, e, r1, rfl, hq, rs, c, q⟩ := h
 cases ry
 rcases hq with hq | hq
 ·obtain ⟨its, t, pl, hz⟩ := I.list (e.seq hq)
  obtain ⟨f, h1, h2⟩ := zg8 I r e r1 rx rs t c
  refine SeqAt.in_listAt f pl.isList (fun w hw => h1 w (by simpa using hw)) ⟨.bl _, H, I, rfl, ?_⟩
  rw [show its.toArray.any f = its.any f by simp, h2]; exact q
 ·obtain ⟨its, t, pl, hz⟩ := I.tuple (zaD.sqT e hq)
  obtain ⟨f, h1, h2⟩ := zg8 I r e r1 rx rs t c
  refine SeqAt.in_tupleAt f pl (fun w hw => h1 w (by simpa using hw)) ⟨.bl _, H, I, rfl, ?_⟩
  rw [show its.toArray.any f = its.any f by simp, h2]; exact q
theorem zuG {k : Nat} (r : zhc k X.A) : OpR X (compareOp .NotIn) (rInD X.K X.mg true) := by
 intro pins s σ H x y v u Q I rx ry h
 obtain ⟨G, d, ds, p, vs, e, r1, rfl, hq, rs, c, q⟩ := h
 cases ry
 rcases hq with hq | hq
 ·obtain ⟨its, t, pl, hz⟩ := I.list (e.seq hq)
  obtain ⟨f, h1, h2⟩ := zg8 I r e r1 rx rs t c
  refine SeqAt.notIn_listAt f pl.isList (fun w hw => h1 w (by simpa using hw)) ⟨.bl _, H, I, rfl, ?_⟩
  rw [show its.toArray.any f = its.any f by simp, h2]; exact q
 ·obtain ⟨its, t, pl, hz⟩ := I.tuple (zaD.sqT e hq)
  obtain ⟨f, h1, h2⟩ := zg8 I r e r1 rx rs t c
  refine SeqAt.notIn_tupleAt f pl (fun w hw => h1 w (by simpa using hw)) ⟨.bl _, H, I, rfl, ?_⟩
  rw [show its.toArray.any f = its.any f by simp, h2]; exact q
noncomputable abbrev rInS (neg : Bool) : R2 := fun x y H Q => ∃ i j, x = .str i ∧ y = .str j ∧ Q (.bl (bif neg then !(!(Builtin.Str.occurrences j i 0 j.length 1).isEmpty) else !(Builtin.Str.occurrences j i 0 j.length 1).isEmpty)) H
theorem zyG {k : Nat} (C : XC X E k) : zmv X .In gIn := ⟨_, (zw1 C.room).or (zoz : OpR X _ (rInS false)), fun G H a b x y Q e ra rb q => by
 cases b with
 | lst xs =>
  obtain ⟨p, vs, rfl, h1, h2⟩ := rb
  cases hc : in2 a xs with
  | false => simp only [gIn, hc, cond_false] at q; exact q.elim
  | true => simp only [gIn, hc, cond_true] at q; exact .inl ⟨G, a, xs, p, vs, e, ra, rfl, .inl h1, h2, hc, zaq.now q e rfl⟩
 | tup xs =>
  obtain ⟨p, vs, rfl, h1, h2⟩ := rb
  cases hc : in2 a xs with
  | false => simp only [gIn, hc, cond_false] at q; exact q.elim
  | true => simp only [gIn, hc, cond_true] at q; exact .inl ⟨G, a, xs, p, vs, e, ra, rfl, .inr h1, h2, hc, zaq.now q e rfl⟩
 | str j => cases a with
  | str i => cases ra; cases rb; exact .inr ⟨i, j, rfl, rfl, zaq.now q e rfl⟩
  | _ => exact (show False from q).elim
 | _ => cases a <;> exact (show False from q).elim, fun a b e => by
  cases b with
  | lst xs => simp only [gIn]; cases in2 a xs <;> simp [cond]
  | tup xs => simp only [gIn]; cases in2 a xs <;> simp [cond]
  | _ => cases a <;> simp [gIn]⟩
theorem zw2 {k : Nat} (C : XC X E k) : zmv X .NotIn zop := ⟨_, (zuG C.room).or (zka : OpR X _ (rInS true)), fun G H a b x y Q e ra rb q => by
 cases b with
 | lst xs =>
  obtain ⟨p, vs, rfl, h1, h2⟩ := rb
  cases hc : in2 a xs with
  | false => simp only [zop, hc, cond_false] at q; exact q.elim
  | true => simp only [zop, hc, cond_true] at q; exact .inl ⟨G, a, xs, p, vs, e, ra, rfl, .inl h1, h2, hc, zaq.now q e rfl⟩
 | tup xs =>
  obtain ⟨p, vs, rfl, h1, h2⟩ := rb
  cases hc : in2 a xs with
  | false => simp only [zop, hc, cond_false] at q; exact q.elim
  | true => simp only [zop, hc, cond_true] at q; exact .inl ⟨G, a, xs, p, vs, e, ra, rfl, .inr h1, h2, hc, zaq.now q e rfl⟩
 | str j => cases a with
  | str i => cases ra; cases rb; exact .inr ⟨i, j, rfl, rfl, zaq.now q e rfl⟩
  | _ => exact (show False from q).elim
 | _ => cases a <;> exact (show False from q).elim, fun a b e => by
  cases b with
  | lst xs => simp only [zop]; cases in2 a xs <;> simp [cond]
  | tup xs => simp only [zop]; cases in2 a xs <;> simp [cond]
  | _ => cases a <;> simp [zop]⟩
end
theorem zuH {d : D} {xs : List D} (h : in2 d xs = true) : zop d (.lst xs) = .ok (.bl (!inD d xs)) := by
 cases d <;> (simp only [zop]; rw [h]; rfl)
end DL
end
section
set_option Elab.async false
set_option linter.all false
set_option maxRecDepth 100000
namespace DL
open PySem L2 PyProof.Rows
section
variable {X : Cx} {E : XK} {K : PySem.W.Frag} {mg : Str → Option Value} {G H : Hp}
variable {x : Str} {p pos : Pos} {e : Expr} {es : List Expr} {fs : DSt → R (List D)}
end
end DL
end
section
set_option Elab.async false
set_option linter.all false
set_option maxRecDepth 100000
namespace DL
open PySem L2 PyProof.Rows
section
variable {X : Cx} {E : XK} {tg : Expr}
variable {a b : Expr} {fa fb : DSt → R D} {pos : Pos}
end
end DL
end
section
set_option Elab.async false
set_option linter.all false
set_option maxRecDepth 100000
namespace DL
open PySem L2 PyProof.Rows
section
variable {prog : Program} {w : World} {A : Around} {E : Value → Shared → Prop} {s : Shared}
theorem items_int {ks : List Int} {vs : List Value} (h : ItemsAre (intKind prog w) ks vs) : ∀ v ∈ vs, ∃ i t, v = .int i t := by
 induction h with
 | nil => intro v hv; cases hv
 | cons q _ ih =>
  intro v hv
  rcases List.mem_cons.mp hv with rfl | hv
  ·cases v with
   | int i t => exact ⟨i, t, rfl⟩
   | _ => cases q
  ·exact ih v hv
theorem zng {ks : List Int} {b : Addr} {Q : Bool → Shared → Prop} (hk : IsTupleKey (intKind prog w) s.heap ks b) (q : Q false s) : wpAny (model prog w) A (ofAClassStatement 8 (.ref b)) Q E s := by
 have ty := hk.typeIs
 obtain ⟨ob, its, m, g1, _, g2, g3⟩ := hk
 have hint := items_int g3
 unfold ofAClassStatement
 refine wpAny_bind (wpAny_typeOf ty ?_)
 refine wpAny_bind (wpAny_pure ?_)
 dsimp only
 rw [if_neg (by decide)]
 refine wpAny_bind (wpAny_seqItems g1 g2 ?_)
 dsimp only
 refine wpAny_bind ?_
 show wpAny _ _ (forIn its _ _) _ _ s
 rw [← Array.forIn_toList]
 refine wpAny_forIn_list _ (fun left r s1 => r.1 = none ∧ s1 = s ∧ ∀ v ∈ left, ∃ i t, v = Value.int i t) _ ?_ ?_ _ _ ⟨rfl, rfl, hint⟩
 ·rintro v left r s1 ⟨hr, rfl, all⟩
  obtain ⟨i, t, rfl⟩ := all v List.mem_cons_self
  refine wpAny_bind (wpAny_pure (a := false) ?_)
  rw [if_neg (by decide)]
  exact wpAny_pure ⟨rfl, rfl, fun u hu => all u (List.mem_cons_of_mem _ hu)⟩
 ·rintro ⟨r1, r2⟩ s1 ⟨hr, rfl, _⟩
  simp only at hr
  subst hr
  exact wpAny_pure q
theorem zuI {ks : List Int} {b : Addr} {stored : List Value} {Q : Bool → Shared → Prop} (hk : IsTupleKey (intKind prog w) s.heap ks b) (hs : ∀ v ∈ stored, ∃ c ls, v = .ref c ∧ IsTupleKey (intKind prog w) s.heap ls c) (q : Q false s) : wpAny (model prog w) A (searchCouldBeSeen (.ref b) stored) Q E s := by
 unfold searchCouldBeSeen
 refine wpAny_bind ?_
 refine wpAny_forIn_list _ (fun left r s1 => r.1 = none ∧ s1 = s ∧ ∀ v ∈ left, ∃ c ls, v = Value.ref c ∧ IsTupleKey (intKind prog w) s.heap ls c) _ ?_ ?_ _ _ ⟨rfl, rfl, hs⟩
 ·rintro v left r s1 ⟨hr, rfl, all⟩
  obtain ⟨c, ls, rfl, hc⟩ := all v List.mem_cons_self
  have zbs : ∀ u ∈ left, ∃ c ls, u = Value.ref c ∧ IsTupleKey (intKind prog w) s1.heap ls c := fun u hu => all u (List.mem_cons_of_mem _ hu)
  dsimp only
  by_cases hv : (b == c || carriedByValue (.ref b) && carriedByValue (.ref c)) = true
  ·rw [if_pos hv]
   exact wpAny_pure ⟨rfl, rfl, zbs⟩
  ·rw [if_neg hv]
   refine wpAny_bind (wpAny_eqIsQuiet_tuple hk ?_)
   rw [if_neg (by decide)]
   refine wpAny_bind (wpAny_eqIsQuiet_tuple hc ?_)
   rw [if_neg (by decide)]
   refine wpAny_bind (zng hk ?_)
   rw [if_neg (by decide)]
   refine wpAny_bind (zng hc ?_)
   rw [if_neg (by decide)]
   exact wpAny_pure ⟨rfl, rfl, zbs⟩
 ·rintro ⟨r1, r2⟩ s1 ⟨hr, rfl, _⟩
  simp only at hr
  subst hr
  exact wpAny_pure q
theorem zuJ {ks : List Int} {b : Addr} {Q : Bool → Shared → Prop} (hk : IsTupleKey (intKind prog w) s.heap ks b) (q : Q true s) : wpAny (model prog w) A (hashByValue 8 (.ref b)) Q E s := by
 have ty := hk.typeIs
 obtain ⟨ob, its, m, g1, _, g2, g3⟩ := hk
 have hint := items_int g3
 unfold hashByValue
 refine wpAny_bind (wpAny_specialOf ty PySem.F.slot_tuple_hash.lookup ?_)
 dsimp only
 refine wpAny_bind (wpAny_seqItems g1 g2 ?_)
 refine wpAny_bind ?_
 show wpAny _ _ (forIn its _ _) _ _ s
 rw [← Array.forIn_toList]
 refine wpAny_forIn_list _ (fun left r s1 => r.1 = none ∧ s1 = s ∧ ∀ v ∈ left, ∃ i t, v = Value.int i t) _ ?_ ?_ _ _ ⟨rfl, rfl, hint⟩
 ·rintro v left r s1 ⟨hr, rfl, all⟩
  obtain ⟨i, t, rfl⟩ := all v List.mem_cons_self
  refine wpAny_bind (wpAny_pure (a := true) ?_)
  rw [if_neg (by decide)]
  exact wpAny_pure ⟨rfl, rfl, fun u hu => all u (List.mem_cons_of_mem _ hu)⟩
 ·rintro ⟨r1, r2⟩ s1 ⟨hr, rfl, _⟩
  simp only at hr
  subst hr
  exact wpAny_pure q
structure TSet (prog : Program) (w : World) (h : Heap) (a : Addr) (o : Obj) (es : Array (Int × Value)) (ep : Nat) (t : SetTable) (kss : List (List Int)) : Prop where
 get : h.get? a = some o
 ex : o.ExactSet
 dat : o.data = .set es ep t
 dm : t.dummies = #[]
 pl : t.place.size = es.size
 msk : (t.mask = 7 ∧ es.size ≤ 4) ∨ (t.mask = 31 ∧ es.size ≤ 18)
 n : es.size = kss.length
 el : ∀ e ∈ es.toList, ∃ c ls, e.2 = .ref c ∧ IsTupleKey (intKind prog w) h ls c ∧ ls ∈ kss
variable {h : Heap} {a : Addr} {o : Obj} {es : Array (Int × Value)} {ep : Nat} {t : SetTable} {kss : List (List Int)}
theorem TSet.fits (S : TSet prog w h a o es ep t kss) : t.fits es.size = true := by
 unfold SetTable.fits SetTable.fill
 rw [S.pl, S.dm, Bool.and_eq_true, decide_eq_true_eq]
 refine ⟨beq_self_eq_true _, ?_⟩
 show es.size + 0 ≤ t.mask
 rcases S.msk with ⟨h1, h2⟩ | ⟨h1, h2⟩ <;> omega
theorem TSet.odd (S : TSet prog w h a o es ep t kss) : t.gaveWay = false := by
 unfold SetTable.gaveWay
 rcases S.msk with ⟨h1, h2⟩ | ⟨h1, h2⟩ <;> rw [h1] <;> rfl
theorem ziT : ∀ (n : Nat) (p : SetTable.Probe), p.dummy = none → (SetT.iter t n p).dummy = none
 | 0, _, hp => hp
 | n + 1, p, hp => ziT n (t.advance p) (by rw [SetT.adv_dummy]; exact hp)
theorem zqn {ks : List Int} {b : Addr} {Q : SetFound → Shared → Prop} (S : TSet prog w s.heap a o es ep t kss) (hk : IsTupleKey (intKind prog w) s.heap ks b) (hu : A.units < cLine) (hne : ks ∉ kss) (hh : Int) (q : ∀ j, Q (.free j false) s) :
  ∀ (k fuel : Nat) (stand : Option SetTable.Probe), (stand.getD (t.probeStart hh)).dummy = none → t.slot (SetT.iter t k (stand.getD (t.probeStart hh))).j = .empty → k < 10 * SetTable.turns t.mask → k < fuel → wpAny (model prog w) A (setSearchFrom a (.ref b) hh true fuel stand) Q E s := by
 intro k
 induction k using Nat.strongRecOn with
 | _ k ih =>
  intro fuel stand hd he hk1 hk2
  obtain ⟨f, rfl⟩ : ∃ f, fuel = f + 1 := ⟨fuel - 1, by omega⟩
  unfold setSearchFrom
  refine wpAny_bind (wpAny_setState_of S.get S.dat S.fits ?_)
  dsimp only
  rw [S.odd, if_neg (by decide)]
  have key : ∀ ha, (∃ j, t.probe ha hh (stand.getD (t.probeStart hh)) = some (.empty j none)) ∨ ∃ j i m, m < k ∧ t.probe ha hh (stand.getD (t.probeStart hh)) = some (.candidate j i (SetT.iter t (m + 1) (stand.getD (t.probeStart hh)))) ∧ t.slot j = .live i ∧ t.place[i]? = some j := fun ha => SetT.go_ok S.dm ha hh k (10 * SetTable.turns t.mask) (stand.getD (t.probeStart hh)) hd he hk1
  have key2 : ∀ ha X, t.probe ha hh (stand.getD (t.probeStart hh)) = X → (∃ j, X = some (.empty j none)) ∨ ∃ j i m, m < k ∧ X = some (.candidate j i (SetT.iter t (m + 1) (stand.getD (t.probeStart hh)))) ∧ t.slot j = .live i ∧ t.place[i]? = some j := fun ha X z => by
   subst z
   exact key ha
  generalize hX : t.probe _ hh (stand.getD (t.probeStart hh)) = X
  rcases key2 _ _ hX with ⟨j, rfl⟩ | ⟨j, i, m, hm, rfl, hl, hp⟩
  ·exact wpAny_pure (q j)
  ·dsimp only
   have hi : i < es.size := by
    have := (Array.getElem?_eq_some_iff.mp hp).1
    rw [S.pl] at this
    exact this
   have pre : ∀ {mm : Sem SetFound}, wpAny (model prog w) A mm Q E s → wpAny (model prog w) A (if (!t.led) = true then do
     let l ← searchCouldBeSeen (Value.ref b) (List.map (fun x => x.snd) (Array.filter (fun x => x.fst == hh) es).toList)
     if l = true then do
      unsupported "set:the-search-would-show-the-table"
      mm
     else mm
    else mm) Q E s := by
    intro mm hmm
    by_cases hled : (!t.led) = true
    ·rw [if_pos hled]
     refine wpAny_bind (zuI hk (fun v hv => ?_) ?_)
     ·obtain ⟨x, hx, rfl⟩ := List.mem_map.mp hv
      rw [Array.toList_filter] at hx
      obtain ⟨c, ls, h1, h2, _⟩ := S.el x (List.mem_filter.mp hx).1
      exact ⟨c, ls, h1, h2⟩
     ·rw [if_neg (by decide)]
      exact hmm
    ·rw [if_neg hled]
     exact hmm
   refine pre ?_
   obtain ⟨c, ls, h1, h2, h3⟩ := S.el es[i] (by rw [← Array.getElem_toList]; exact List.getElem_mem _)
   have eqn : es[i]? = some (es[i].1, Value.ref c) := by rw [Array.getElem?_eq_getElem hi, ← h1]
   rw [eqn]
   dsimp only
   refine wpAny_bind (wpAny_holding (wpAny_eqBool_tuple hu h2 hk ?_))
   rw [decide_eq_false (fun z : ls = ks => hne (z ▸ h3))]
   refine wpAny_bind (wpAny_setState_of S.get S.dat S.fits ?_)
   dsimp only
   rw [if_neg (by decide), show t.sameMemory t.moves t.mask = some true from by unfold SetTable.sameMemory; rw [if_pos (beq_self_eq_true _)]]
   dsimp only
   rw [if_pos rfl, hl]
   dsimp only
   rw [eqn]
   dsimp only
   refine wpAny_bind (wpAny_isSame_ref_self ?_)
   refine wpAny_bind (wpAny_pure ?_)
   rw [if_pos rfl]
   dsimp only
   rw [if_neg (by decide)]
   refine ih (k - (m + 1)) (by omega) f (some _) (ziT _ _ hd) ?_ (by omega) (by omega)
   have e3 : SetT.iter t k (stand.getD (t.probeStart hh)) = SetT.iter t (k - (m + 1)) (SetT.iter t (m + 1) (stand.getD (t.probeStart hh))) := by
    rw [← SetT.iter_add]
    congr 1
    omega
   rw [e3] at he
   exact he
theorem zjK {h' : Heap} (sb : Heap.SameBut a h h') (g : h.get? a = some o) (dd : o.data = .set es ep t) {ls : List Int} {c : Addr} (hk : IsTupleKey (intKind prog w) h ls c) : IsTupleKey (intKind prog w) h' ls c := by
 obtain ⟨ob, its, m, g1, g2, g3, g4⟩ := hk
 have ne : c ≠ a := fun z => by
  subst z
  rw [g] at g1
  cases g1
  rw [dd] at g3
  cases g3
 exact ⟨ob, its, m, (sb.2 c ne).trans g1, g2, g3, g4⟩
theorem zkS {es' : Array (Int × Value)} {t' : SetTable} (g : h.get? a = some o) (dd : o.data = .set es ep t) : (h.update a (Obj.putSet es' t')).get? a = some { o with data := .set es' (ep + 1) t' } := by
 have := Heap.get?_update_self (Obj.putSet es' t') g (by rw [putSet_of es' t' dd]; rfl)
 rw [putSet_of es' t' dd] at this
 exact this
theorem zfA {α : Type} (xs : Array α) (p : Nat) (x : α) : (SetTable.insertAt xs p x).size = xs.size + 1 := by
 have := (SetTable.insertAt_perm xs p x).length_eq
 rw [Array.length_toList, Array.length_toList, Array.size_push] at this
 exact this
theorem zkT {α : Type} {xs : Array α} {p : Nat} {x y : α} (hy : y ∈ (SetTable.insertAt xs p x).toList) : y = x ∨ y ∈ xs.toList := by
 have := (SetTable.insertAt_perm xs p x).mem_iff.mp hy
 rw [Array.toList_push] at this
 rcases List.mem_append.mp this with z | z
 ·exact .inr z
 ·exact .inl (List.mem_singleton.mp z)
theorem zw3 {ks : List Int} {b : Addr} {Q : Bool → Shared → Prop} (S : TSet prog w s.heap a o es ep t kss) (hk : IsTupleKey (intKind prog w) s.heap ks b) (hu : A.units < cLine) (hne : ks ∉ kss) (hsz : kss.length ≤ 17)
  (q : ∀ h' o' es' ep' t' tk, Heap.SameBut a s.heap h' → TSet prog w h' a o' es' ep' t' (ks :: kss) → Q true { s with heap := h', toks := tk }) : wpAny (model prog w) A (setAdd a (.ref b)) Q E s := by
 unfold setAdd
 refine wpAny_holding (wpAny_bind (wpAny_pyHash_tuple hu hk ?_))
 generalize tupleKeyHash (intKind prog w) ks = hh
 unfold setAddHashed setAddHashedIn
 refine wpAny_holding (wpAny_bind (wpAny_setState_of S.get S.dat S.fits ?_))
 dsimp only
 rw [show byScan (.ref b) es = false from rfl, if_neg (by decide)]
 unfold setSearch
 have hm : t.mask = 7 ∨ t.mask = 31 := S.msk.elim (fun h => .inl h.1) fun h => .inr h.1
 obtain ⟨k, k1, k2⟩ := SetT.meets_empty S.dm hm (by rw [S.pl]; rcases S.msk with ⟨h1, h2⟩ | ⟨h1, h2⟩ <;> omega) hh
 refine wpAny_bind (zqn (s := { s with toks := s.toks + (ks.length + 1) }) S hk hu hne hh (fun j => ?_) k 100000 none rfl k2 k1 (by
  have : 10 * SetTable.turns t.mask ≤ 460 := by unfold SetTable.turns; rcases hm with z | z <;> omega
  omega))
 dsimp only
 have p1 : (t.put j).1.mask = t.mask := rfl
 have p2 : (t.put j).1.dummies = #[] := by
  show (if SetTable.has t.dummies j then SetTable.eraseAt t.dummies (SetTable.below t.dummies j) else t.dummies) = #[]
  rw [S.dm, SetT.no_has]
  rfl
 have p3 : (t.put j).1.place.size = es.size + 1 := by
  show (SetTable.insertAt t.place _ j).size = _
  rw [zfA, S.pl]
 have fin : wpAny (model prog w) A (do
   storeSet a (SetTable.insertAt es (t.put j).snd (hh, Value.ref b)) (t.put j).fst
   if (!false && (t.put j).fst.tooFull) = true then do
    setRelay a (SetTable.grown (es.size + 1))
    pure true
   else pure true) Q E { s with toks := s.toks + (ks.length + 1) } := by
  generalize (t.put j).fst = t1 at p1 p2 p3
  have zz := zfA es (t.put j).snd (hh, Value.ref b)
  have mm := fun y hy => zkT (xs := es) (p := (t.put j).snd) (x := (hh, Value.ref b)) (y := y) hy
  generalize SetTable.insertAt es (t.put j).snd (hh, Value.ref b) = es1 at zz mm
  have hn := S.n
  have h18 : es.size ≤ 17 := by omega
  refine wpAny_bind (wpAny_storeSet_of S.get S.dat ?_ (Nat.le_trans (show es1.size ≤ 1000 by omega) (by decide)))
  have g1 := zkS (es' := es1) (t' := t1) S.get S.dat
  have sb1 : Heap.SameBut a s.heap (s.heap.update a (Obj.putSet es1 t1)) := Heap.SameBut.update _ a _
  generalize s.heap.update a (Obj.putSet es1 t1) = h1 at g1 sb1
  have el1 : ∀ e ∈ es1.toList, ∃ c ls, e.2 = .ref c ∧ IsTupleKey (intKind prog w) h1 ls c ∧ ls ∈ ks :: kss := by
   intro e he
   rcases mm e he with rfl | he
   ·exact ⟨b, ks, rfl, zjK sb1 S.get S.dat hk, List.mem_cons_self⟩
   ·obtain ⟨c, ls, e1, e2, e3⟩ := S.el e he
    exact ⟨c, ls, e1, zjK sb1 S.get S.dat e2, List.mem_cons_of_mem _ e3⟩
  have fill1 : t1.fill = es.size + 1 := by
   unfold SetTable.fill
   rw [p2, p3]; rfl
  have full : t1.tooFull = decide ((es.size + 1) * 5 ≥ t.mask * 3) := by
   unfold SetTable.tooFull
   rw [fill1, p1]
  by_cases hf : (es.size + 1) * 5 ≥ t.mask * 3
  ·have h7 : t.mask = 7 ∧ es.size = 4 := by rcases S.msk with ⟨x1, x2⟩ | ⟨x1, x2⟩ <;> omega
   rw [full, decide_eq_true hf, if_pos (by decide), h7.2]
   have gr : SetTable.grown (4 + 1) = 20 := by decide
   rw [gr]
   unfold setRelay
   refine wpAny_bind (wpAny_bind (wpAny_setState_of g1 rfl ?_ ?_))
   ·unfold SetTable.fits
    rw [fill1, p1, p3, zz, Bool.and_eq_true, decide_eq_true_eq]
    exact ⟨beq_self_eq_true _, by omega⟩
   ·dsimp only
    obtain ⟨t2, order, r1, r2, r3, r4, r5, r6⟩ := SetT.relaid_ok t1 (Array.map (fun x => x.fst) es1) (n := 5) (by rw [Array.size_map]; omega) (by decide)
    have z2 : (order.filterMap (es1[·]?)).size = 5 := by
     rw [← Array.length_toList, Array.toList_filterMap, SetT.fm_all _ _ (fun k hk => ?_), Array.length_toList, r5]
     have := r6 k hk
     rw [Array.getElem?_eq_getElem (by omega)]; rfl
    have m2 : ∀ e ∈ (order.filterMap (es1[·]?)).toList, e ∈ es1.toList := by
     intro e he
     rw [Array.toList_filterMap] at he
     obtain ⟨k, _, hk⟩ := List.mem_filterMap.mp he
     rw [← Array.getElem?_toList] at hk
     exact List.mem_of_getElem? hk
    rw [if_neg (by decide), r1]
    refine wpAny_bind (wpAny_of_eq (a := (order.filterMap (es1[·]?), t2)) ?_ ?_)
    ·show (if ((order.filterMap (es1[·]?)).size != es1.size) = true then _ else _) = _
     rw [if_neg (by rw [z2, zz, h7.2]; decide)]
    ·generalize order.filterMap (es1[·]?) = es2 at z2 m2
     refine wpAny_storeSet_of g1 rfl ?_ (Nat.le_trans (show es2.size ≤ 1000 by omega) (by decide))
     have g2 := zkS (es' := es2) (t' := t2) g1 rfl
     have sb2 : Heap.SameBut a h1 (h1.update a (Obj.putSet es2 t2)) := Heap.SameBut.update _ a _
     generalize h1.update a (Obj.putSet es2 t2) = h2 at g2 sb2
     refine wpAny_pure (q h2 _ es2 (ep + 1 + 1) t2 _ (sb1.trans sb2) ⟨g2, S.ex, rfl, r3, by rw [r4, z2], .inr ⟨r2, by omega⟩, by rw [z2, List.length_cons, ← hn, h7.2], fun e he => ?_⟩)
     obtain ⟨c, ls, e1, e2, e3⟩ := el1 e (m2 e he)
     exact ⟨c, ls, e1, zjK sb2 g1 rfl e2, e3⟩
  ·rw [full, decide_eq_false hf, if_neg (by decide)]
   refine wpAny_pure (q h1 _ es1 (ep + 1) t1 _ sb1 ⟨g1, S.ex, rfl, p2, by rw [p3, zz], ?_, by rw [zz, hn, List.length_cons], el1⟩)
   rw [p1, zz]
   rcases S.msk with ⟨x1, x2⟩ | ⟨x1, x2⟩
   ·exact .inl ⟨x1, by omega⟩
   ·exact .inr ⟨x1, by omega⟩
 refine wpAny_bind (wpAny_setState_of (s := { s with toks := s.toks + (ks.length + 1) }) S.get S.dat S.fits ?_)
 dsimp only
 by_cases hpl : (t.put j).fst.plain = true
 ·rw [if_pos hpl]
  refine wpAny_bind (zuJ (s := { s with toks := s.toks + (ks.length + 1) }) hk ?_)
  exact fin
 ·rw [if_neg hpl]
  refine wpAny_bind (wpAny_pure ?_)
  exact fin
end
end DL
end
section
set_option Elab.async false
set_option linter.all false
set_option maxRecDepth 100000
namespace DL
open PySem L2 PyProof.Rows
section
variable {prog : Program} {w : World} {A : Around} {h h' : Heap} {it l z : Addr} {items : Array Value}
theorem zlO (kp : ∀ b u, b ∉ [it] → h.get? b = some u → h'.get? b = some u) {i : Nat} (hi : h.IsListIter it l i) {ls : List Int} {c : Addr} (hk : IsTupleKey (intKind prog w) h ls c) : IsTupleKey (intKind prog w) h' ls c := by
 obtain ⟨ob, its, m, g1, g2, g3, g4⟩ := hk
 obtain ⟨oi, e1, e2, _⟩ := hi
 have ne : c ∉ [it] := fun q => by
  rw [List.mem_singleton] at q
  subst q
  rw [g1] at e1
  cases e1
  rw [g2] at e2
  exact absurd e2 (by decide)
 exact ⟨ob, its, m, kp c _ ne g1, g2, g3, g4⟩
theorem TSet.move (kp : ∀ b u, b ∉ [it] → h.get? b = some u → h'.get? b = some u) {i : Nat} (hi : h.IsListIter it l i) (hz : z ≠ it) {o : Obj} {es : Array (Int × Value)} {ep : Nat} {t : SetTable} {kss : List (List Int)} (S : TSet prog w h z o es ep t kss) : TSet prog w h' z o es ep t kss :=
 ⟨kp z _ (by simpa using hz) S.get, S.ex, S.dat, S.dm, S.pl, S.msk, S.n, fun e he => by
  obtain ⟨c, ls, e1, e2, e3⟩ := S.el e he
  exact ⟨c, ls, e1, zlO kp hi e2, e3⟩⟩
noncomputable def zw4 (prog : Program) (w : World) (h : Heap) (z : Addr) (keys : Nat → List Int) (i : Nat) : Prop := ∃ o es ep t, TSet prog w h z o es ep t ((List.range i).reverse.map keys)
theorem zr7 {R : Result → Shared → Prop} (hh : A.handled = none) (hl : l ≠ it) (hz1 : z ≠ it) (hz2 : z ≠ l) (hu : A.units + 1 < cLine) (keys : Nat → List Int) (kd : ∀ i j, i < j → j < items.size → keys i ≠ keys j) (hn : items.size ≤ 18) :
  ∀ (k i : Nat) (s : Shared), items.size - i = k → i ≤ items.size → (s.heap.IsListIter it l i ∧ s.heap.IsList l items) → zw4 prog w s.heap z keys i → (∀ j, j < items.size → ∃ b, items[j]? = some (.ref b) ∧ IsTupleKey (intKind prog w) s.heap (keys j) b) →
   (∀ h2 tk, (∀ b u, b ≠ z → b ≠ it → s.heap.get? b = some u → h2.get? b = some u) → zw4 prog w h2 z keys items.size → R (.ok (.ret .none)) { s with heap := h2, toks := tk }) →
   codeAny (model prog w) A (.builtin "set.update.loop" ⟨[.ref z, .ref it], []⟩) R s := by
 have W := Walks.list (prog := prog) (w := w) (A := A.in1) (by rw [Around.in1_handled]; exact hh) it l hl items
 intro k
 induction k with
 | zero =>
  intro i s hk hi st ⟨o, es, ep, t, S⟩ ht fin
  obtain rfl : i = items.size := by omega
  refine codeAny_builtin PyProof.Rows.F.entry_set_update_loop ?_
  rw [Around.under_plainId PyProof.Rows.F.plain_set_update_loop _]
  show wpAny _ A.in1 (pyNext (.ref it) >>= _) _ _ _
  refine wpAny_bind (W.done s _ _ st fun h2 tk kp => ?_)
  show wpAny _ A.in1 (ret Value.none) _ _ _
  exact wpAny_pure (fin h2 tk (fun b u _ b2 e => kp b u (by simpa using b2) e) ⟨o, es, ep, t, S.move kp st.1 hz1⟩)
 | succ k ih =>
  intro i s hk hi st ⟨o, es, ep, t, S⟩ ht fin
  have hlt : i < items.size := by omega
  refine codeAny_builtin PyProof.Rows.F.entry_set_update_loop ?_
  rw [Around.under_plainId PyProof.Rows.F.plain_set_update_loop _]
  show wpAny _ A.in1 (pyNext (.ref it) >>= _) _ _ _
  refine wpAny_bind (W.item i s _ _ hlt st fun v h1 tk hv st1 kp => ?_)
  obtain ⟨b, e1, e2⟩ := ht i hlt
  rw [hv] at e1
  cases e1
  have S1 := S.move (prog := prog) (w := w) kp st.1 hz1
  have ht1 : ∀ j, j < items.size → ∃ b, items[j]? = some (.ref b) ∧ IsTupleKey (intKind prog w) h1 (keys j) b := fun j hj => by
   obtain ⟨c, c1, c2⟩ := ht j hj
   exact ⟨c, c1, zlO kp st.1 c2⟩
  show wpAny _ A.in1 (holding [Value.ref b] (setAdd z (.ref b)) >>= _) _ _ _
  refine wpAny_bind (wpAny_holding (zw3 (s := { s with heap := h1, toks := tk }) S1 (zlO kp st.1 e2) (by rw [Around.in1_units]; exact hu) (fun q => ?_) (by simp; omega) fun h2 o2 es2 ep2 t2 tk2 sb S2 => ?_))
  ·obtain ⟨j, j1, j2⟩ := List.mem_map.mp q
   have := List.mem_range.mp (List.mem_reverse.mp j1)
   exact kd j i this hlt j2
  ·have gz : z ∉ [it, l] := by
    rw [List.mem_cons, List.mem_singleton]
    rintro (q | q)
    ·exact hz1 q
    ·exact hz2 q
   refine wpAny_pure ⟨plainId_quiet PyProof.Rows.F.plain_set_update_loop _, ih (i + 1) _ (by omega) hlt ?_ ⟨o2, es2, ep2, t2, ?_⟩ (fun j hj => ?_) fun h3 tk3 kp3 S3 => ?_⟩
   ·exact W.frame _ h1 h2 st1 fun b hb u e => (sb.2 b fun q => gz (q ▸ hb)).trans e
   ·rw [List.range_succ, List.reverse_append]
    exact S2
   ·obtain ⟨c, c1, c2⟩ := ht1 j hj
    exact ⟨c, c1, zjK sb S1.get S1.dat c2⟩
   ·exact fin h3 tk3 (fun b u b1 b2 e => kp3 b u b1 b2 ((sb.2 b b1).trans (kp b u (by simpa using b2) e))) S3
noncomputable abbrev zei (led : Bool) : Obj := { cls := .type "set", dict := none, data := .set #[] 0 (.fresh 0 0 led) }
theorem zr8 {led : Bool} {keys : Nat → List Int} (g : h.get? z = some (zei led)) : zw4 prog w h z keys 0 :=
 ⟨_, #[], 0, .fresh 0 0 led, g, ⟨rfl, rfl, rfl⟩, rfl, rfl, rfl, .inl ⟨rfl, by decide⟩, rfl, fun e he => by cases he⟩
set_option maxHeartbeats 3200000 in
theorem zqo {E : Value → Shared → Prop} {s : Shared} {Q : Value → Shared → Prop} (hh : A.handled = none) (hl : s.heap.IsList l items) (hu : A.units + 3 < cLine) (keys : Nat → List Int) (kd : ∀ i j, i < j → j < items.size → keys i ≠ keys j) (hn : items.size ≤ 18)
  (ht : ∀ j, j < items.size → ∃ b, items[j]? = some (.ref b) ∧ IsTupleKey (intKind prog w) s.heap (keys j) b)
  (q : ∀ h2 tk, zw4 prog w h2 s.heap.objs.size keys items.size → (∀ b u, s.heap.get? b = some u → h2.get? b = some u) → Q (.ref s.heap.objs.size) { s with heap := h2, toks := tk }) : wpAny (model prog w) A (call (.type "set") [.ref l]) Q E s := by
 obtain ⟨mr1, mr2, mr3⟩ := PySem.F.called_set.mro
 have ma := PySem.F.called_set.made
 have su := PySem.F.called_set.sub
 have no := PySem.F.called_set.notType
 have cc := PySem.F.called_set.canCreate
 have ct := PySem.F.typeCall_set_1 (.ref l)
 refine wpAny_call (codeAny_of_tree ?_)
 show wpAny _ _ (callAny (.type "set") _) _ _ _
 refine wpAny_pure ⟨Code.quiet_builtin _ (by decide +kernel), codeAny_builtin F.entry_type_call ?_⟩
 rw [Around.under_plain (weight_type_call_type "set" [.ref l] []) rfl]
 repeat (any_goals (first | assumption | wp_step))
 refine codeAny_mono (code_set_new_1 (.ref l) (E := E) (Q₁ := fun ob s1 => ∃ led : Bool, ob = .ref s.heap.objs.size ∧ s1 = { s with heap := s.heap.push (zei led) }) fun led => ⟨led, rfl, rfl⟩) fun r s1 hr => ?_
 cases r with
 | error e => exact hr
 | ok fl =>
  cases fl with
  | ret ob =>
   obtain ⟨led, rfl, rfl⟩ := hr
   have gS : (s.heap.push (zei led)).get? s.heap.objs.size = some (zei led) := Heap.get?_push_size _ rfl
   have tS : Shared.TypeIs { s with heap := s.heap.push (zei led) } (.ref s.heap.objs.size) "set" := ⟨_, gS, rfl⟩
   have il := PySem.F.called_set.init.lookup
   have ib := PySem.F.called_set.init.bind (.ref s.heap.objs.size)
   repeat (any_goals (first | assumption | wp_step))
   refine codeAny_mono (codeAny_call_builtin (R := wants (fun r s2 => r = .none ∧ ∃ h2 tk, s2 = { s with heap := h2, toks := tk } ∧ zw4 prog w h2 s.heap.objs.size keys items.size ∧ (∀ b u, s.heap.get? b = some u → h2.get? b = some u)) E) PySem.F.called_set.init.plain PySem.F.entry_set_init (check_set_init_1 tS ?_)) fun r2 s2 hr2 => ?_
   ·obtain ⟨⟨c1, c2, c3, c4⟩, gl, cl, nl, dl⟩ := hl
    simp only at cl dl
    subst cl dl
    have gl1 : (s.heap.push (zei led)).get? l = some { cls := .type "list", dict := c2, data := .seq items nl, slots := c4 } := Heap.get?_push_of_some _ gl
    have ls := PySem.F.sub_list_set
    have lf := PySem.F.sub_list_frozenset
    have nd : (Value.type "list" == Value.type "dict") = false := by decide
    have il1 : (s.heap.push (zei led)).IsList l items := ⟨_, gl1, rfl, nl, rfl⟩
    unfold Builtin.«set.__init__» noKeywords Builtin.Frozenset.updateFrom
    generalize hPI : pyIter = PI
    wp_walk
    subst hPI
    refine wpAny_pyIter_list il1 ?_
    refine wpAny_bind (wpAny_runValue ?_)
    have lS : l < s.heap.objs.size := Heap.lt_size gl
    refine zr7 (A := A.in1.in1) (it := (s.heap.push (zei led)).objs.size) (l := l) (z := s.heap.objs.size) (items := items) hh ?_ ?_ ?_ hu keys kd hn items.size 0 _ (by omega) (Nat.zero_le _) ⟨⟨_, Heap.get?_push_size _ rfl, rfl, rfl⟩, il1.push _⟩ (zr8 (led := led) (Heap.get?_push_of_some _ gS)) ?_ ?_
    ·rw [Heap.size_push]; exact Nat.ne_of_lt (Nat.lt_succ_of_lt lS)
    ·rw [Heap.size_push]; exact Nat.ne_of_lt (Nat.lt_succ_self _)
    ·exact Nat.ne_of_gt lS
    ·intro j hj
     obtain ⟨b, b1, b2⟩ := ht j hj
     obtain ⟨ob, its, m, g1, g2, g3, g4⟩ := b2
     exact ⟨b, b1, ob, its, m, Heap.get?_push_of_some _ (Heap.get?_push_of_some _ g1), g2, g3, g4⟩
    ·intro h2 tk kp S2
     show wpAny _ _ _ _ _ _
     refine wpAny_pure ?_
     show wpAny _ _ (ret Value.none) _ _ _
     refine wpAny_pure ⟨rfl, h2, tk, rfl, S2, fun b u e => ?_⟩
     have lb := Heap.lt_size e
     refine kp b u (Nat.ne_of_lt lb) ?_ (Heap.get?_push_of_some _ (Heap.get?_push_of_some _ e))
     rw [Heap.size_push]; exact Nat.ne_of_lt (Nat.lt_succ_of_lt lb)
   ·cases r2 with
    | error e => exact hr2
    | ok fl2 =>
     cases fl2 with
     | ret r =>
      obtain ⟨rfl, h2, tk, rfl, S2, k2⟩ := hr2
      repeat (any_goals (first | assumption | wp_step))
      exact q _ _ S2 k2
     | _ => exact hr2.elim
  | _ => exact hr.elim
end
end DL
end
section
set_option Elab.async false
set_option linter.all false
set_option maxRecDepth 100000
namespace DL
open PySem L2 PyProof.Rows
section
variable {X : Cx} {E : XK}
noncomputable def zxv (a : Addr) (n : Nat) : Heap → Prop := fun h => ∃ o es ep t, h.get? a = some o ∧ o.ExactSet ∧ o.data = .set es ep t ∧ SetTable.fits t es.size = true ∧ es.size = n
noncomputable def zc1 (K : PySem.W.Frag) (H : Hp) : List V → List (List Int) → Prop
 | [], [] => True
 | v :: vs, ks :: kss => (∃ b, v = .ref b ∧ SqT K H b (ks.map V.int)) ∧ zc1 K H vs kss
 | _, _ => False
theorem zc1.length {K : PySem.W.Frag} {H : Hp} : ∀ {vs : List V} {kss : List (List Int)}, zc1 K H vs kss → vs.length = kss.length
 | [], [], _ => rfl
 | _ :: _, _ :: _, ⟨_, t⟩ => by rw [List.length_cons, List.length_cons, zc1.length t]
 | [], _ :: _, h => h.elim
 | _ :: _, [], h => h.elim
theorem znh : ∀ {ks : List Int} {us : List Value}, zbA (ks.map V.int) us → ItemsAre (intKind X.prog X.w) ks us
 | [], _, h => by cases h; exact .nil
 | k :: ks, _, h => by
  cases h with
  | cons q t =>
   obtain ⟨tk, rfl⟩ := q
   exact .cons (intKind_is _ _ _ _) (znh t)
theorem zqp {pins : List (Addr × Obj)} {σ : L2.St} {H : Hp} {s : Shared} (I : Inv X pins σ H s) : ∀ {vs : List V} {kss : List (List Int)} {us : List Value}, zc1 X.K H vs kss → zbA vs us → ∀ j, j < us.length → ∃ b, us[j]? = some (.ref b) ∧ IsTupleKey (intKind X.prog X.w) s.heap (kss.getD j []) b
 | [], [], _, _, h, j, hj => by cases h; cases hj
 | v :: vs, ks :: kss, _, ⟨⟨b, e1, e2⟩, t⟩, h, j, hj => by
  cases h with
  | cons q r =>
   subst e1
   cases q
   cases j with
   | zero =>
    obtain ⟨its, rv, ⟨ob, g1, g2, n, g3⟩, _⟩ := I.tuple e2
    exact ⟨b, rfl, ob, its.toArray, n, g1, g2, g3, by rw [List.toList_toArray]; exact znh rv⟩
   | succ j =>
    obtain ⟨c, c1, c2⟩ := zqp I t r j (by simpa using hj)
    exact ⟨c, c1, c2⟩
 | [], _ :: _, _, h, _, _, _ => h.elim
 | _ :: _, [], _, h, _, _, _ => h.elim
noncomputable def zyH (K : PySem.W.Frag) : List V → Hp → VK → Prop := fun xs H Q => ∃ (p : Addr) (ys : List V) (kss : List (List Int)), xs = [.ref p] ∧ SqL K H p ys ∧ zc1 K H ys kss ∧ kss.Nodup ∧ kss.length ≤ 18 ∧ ∀ a, H a = none → Q (.ref a) (upd H a (.ext (zxv a kss.length)))
theorem zqq {k : Nat} (hc : X.calm = true) (r : zhc k X.A) : zcF X (.type "set") (zyH X.K) := by
 intro pins s σ H xs us Q I rs h
 obtain ⟨p, ys, kss, rfl, hq, ht, nd, h18, q⟩ := h
 obtain ⟨u, rfl, rx⟩ := zgS rs
 cases rx
 obtain ⟨its, rv, pl, hz⟩ := I.list hq
 have hlen : its.length = kss.length := by rw [← rv.length, ht.length]
 refine zqo (I.ok.hd hc) pl.isList (by have := r.un; omega) (fun j => kss.getD j []) (fun i j hij hj => ?_) (by rw [List.size_toArray]; omega) (fun j hj => ?_) fun h2 tk S2 kp => ?_
 ·rw [List.size_toArray] at hj
  have hj' : j < kss.length := by omega
  have hi' : i < kss.length := by omega
  show kss.getD i [] ≠ kss.getD j []
  rw [List.getD_eq_getElem?_getD, List.getD_eq_getElem?_getD, List.getElem?_eq_getElem hi', List.getElem?_eq_getElem hj']
  exact fun z => Nat.ne_of_lt hij ((List.getElem_inj nd).mp z)
 ·rw [List.size_toArray] at hj
  obtain ⟨b, b1, b2⟩ := zqp I ht rv j hj
  exact ⟨b, by rw [List.getElem?_toArray]; exact b1, b2⟩
 ·obtain ⟨o, es, ep, t, S⟩ := S2
  have hn : es.size = kss.length := by rw [S.n, List.length_map, List.length_reverse, List.length_range, List.size_toArray, hlen]
  refine ⟨.ref s.heap.objs.size, _, I.laid (t' := tk) (h' := h2) kp (Nat.le_refl _) (show zdI X.prog X.w _ h2 _ (.ext (zxv s.heap.objs.size kss.length)) from ⟨⟨o, es, ep, t, S.get, S.ex, S.dat, S.fits, hn⟩, ⟨o, S.get⟩, ?_⟩), rfl, q _ (I.hok.fresh (Nat.le_refl _))⟩
  rintro h1 h3 ⟨o, es, ep, t, g, r1⟩ kk
  exact ⟨o, es, ep, t, kk o g, r1⟩
noncomputable def zyI : List V → Hp → VK → Prop := fun xs H Q => ∃ (a : Addr) (n : Nat), xs = [.ref a] ∧ H a = some (.ext (zxv a n)) ∧ n ≤ 1000 ∧ Q (.int n) H
theorem zqr : zcF X (.builtin "len") zyI := by
 intro pins s σ H xs us Q I rs h
 obtain ⟨a, n, rfl, hq, hn, q⟩ := h
 obtain ⟨u, rfl, rx⟩ := zgS rs
 cases rx
 obtain ⟨⟨o, es, ep, t, g1, g2, g3, g4, g5⟩, _⟩ := (show zdI X.prog X.w H s.heap a (.ext (zxv a n)) from I.hok a _ hq)
 exact call_len_set g1 g2 g3 g4 (by omega) ⟨.int n, H, I.tok _, ⟨s.toks + 1, by rw [g5]⟩, q⟩
noncomputable def zbS : List D → Option (List (List Int))
 | [] => some []
 | .tup xs :: ds => match zgm xs with
  | some ks => (zbS ds).map (ks :: ·)
  | none => none
 | _ => none
noncomputable def zej : D → R D
 | .lst ds => match zbS ds with
  | some kss => bif decide kss.Nodup && Nat.ble kss.length 18 then .ok (.int kss.length) else .bad
  | none => .bad
 | _ => .bad
noncomputable def zlP (f : DSt → R D) : DSt → R D := fun σ => (f σ).bind zej
theorem zkU {K : PySem.W.Frag} {mg : Str → Option Value} {G : Hp} : ∀ {ds : List D} {kss : List (List Int)} {vs : List V}, zbS ds = some kss → Reps K mg G ds vs → zc1 K G vs kss
 | [], _, _, h, r => by cases h; cases r; exact True.intro
 | .tup xs :: ds, _, _, h, ⟨v, t, e1, r1, r2⟩ => by
  subst e1
  cases hi : zgm xs with
  | none => simp [zbS, hi] at h
  | some ks =>
   cases hd : zbS ds with
   | none => simp [zbS, hi, hd] at h
   | some kss' =>
    simp [zbS, hi, hd] at h
    subst h
    obtain ⟨a, ws, rfl, q1, q2⟩ := r1
    rw [zhu hi] at q2
    rw [Reps.of_ints q2] at q1
    exact ⟨⟨a, rfl, q1⟩, zkU hd r2⟩
 | .non :: _, _, _, h, _ => by simp [zbS] at h
 | .bl _ :: _, _, _, h, _ => by simp [zbS] at h
 | .int _ :: _, _, _, h, _ => by simp [zbS] at h
 | .str _ :: _, _, _, h, _ => by simp [zbS] at h
 | .ty _ :: _, _, _, h, _ => by simp [zbS] at h
 | .cls _ :: _, _, _, h, _ => by simp [zbS] at h
 | .lst _ :: _, _, _, h, _ => by simp [zbS] at h
 | .dct _ _ :: _, _, _, h, _ => by simp [zbS] at h
 | .exc _ _ :: _, _, _, h, _ => by simp [zbS] at h
theorem zc1.mono {K : PySem.W.Frag} {G H : Hp} (e : zaD G H) : ∀ {vs : List V} {kss : List (List Int)}, zc1 K G vs kss → zc1 K H vs kss
 | [], [], _ => True.intro
 | _ :: _, _ :: _, ⟨⟨b, e1, e2⟩, t⟩ => ⟨⟨b, e1, zaD.sqT e e2⟩, zc1.mono e t⟩
 | [], _ :: _, h => h.elim
 | _ :: _, [], h => h.elim
theorem zqs {k : Nat} (C : XC X E k) (hm1 : X.mg "len" = none) (hm2 : X.mg "set" = none) {e : Expr} {fe : DSt → R D} {p1 p2 pos pos2 : Pos} (hfe : DE X E e fe) (hg1 : Gl X "len" := by rfl) (hg2 : Gl X "set" := by rfl)
  (he1 : starEach [.Call (.Name "set" p2) [e] [] pos2] X.env = (false, eval (.Call (.Name "set" p2) [e] [] pos2) X.env) :: starEach [] X.env := by rfl) (hpl1 : (backTo pos (starEach [] X.env)).any (·.1) = false := by rfl)
  (he2 : starEach [e] X.env = (false, eval e X.env) :: starEach [] X.env := by rfl) (hpl2 : (backTo pos2 (starEach [] X.env)).any (·.1) = false := by rfl) :
  DE X E (.Call (.Name "len" p1) [.Call (.Name "set" p2) [e] [] pos2] [] pos) (zlP fe) := by
 refine PE.mono' (zmd zqr hg1 hm1 PySem.boot_len (zoD (zhd (zqq C.calm C.room) hg2 hm2 (by rfl) (zaJ hfe zbP he2) (by decide) (by decide) he2 hpl2) zsq he1) (by decide) (by decide) he1 hpl1) fun σ H Q ⟨G, σd, ok, q⟩ => ?_
 refine ⟨G, σd, ok, (show RW ((zaa fe zaf) σd) _ _ from ?_)⟩
 unfold zaa
 have q2 := q.of_bind
 cases hf : fe σd with
 | bad => rw [hf] at q2; exact q2.elim
 | err x => rw [hf] at q2; exact (show zaN X.K X.mg E G H x from q2)
 | ok d =>
  rw [hf] at q2
  have q3 : RW (zej d) (zaq X.K X.mg Q G H) (zaN X.K X.mg E G H) := q2
  rintro ws G2 H2 s2 ⟨v, _, e1, r3, r4⟩
  subst e1
  cases r4
  cases d with
  | lst ds =>
   obtain ⟨b, vs, rfl, hb, hv⟩ := r3
   cases hs' : zbS ds with
   | none => simp only [zej, hs'] at q3; exact q3.elim
   | some kss =>
    cases hC : (decide kss.Nodup && Nat.ble kss.length 18) with
    | false => simp only [zej, hs', hC, cond_false] at q3; exact q3.elim
    | true =>
     simp only [zej, hs', hC, cond_true] at q3
     rw [Bool.and_eq_true, decide_eq_true_eq, Nat.ble_eq] at hC
     refine ⟨b, vs, kss, rfl, s2.e.seq hb, (zkU hs' hv).mono s2.e, hC.1, hC.2, fun a ha => ?_⟩
     have q4 : zaq X.K X.mg Q G H (.int kss.length) := q3
     exact ⟨a, kss.length, rfl, zav, by omega, q4 _ G2 _ (s2.trans (.hid s2.e ha)) rfl⟩
  | _ => exact (show False from q3).elim
end
end DL
end
section
set_option Elab.async false
set_option linter.all false
set_option maxRecDepth 100000
namespace L2
open PySem PyProof.Rows
section
variable {prog : Program} {w : World} {A : Around} {E : Value → Shared → Prop} {s : Shared}
theorem ztr {it t : Addr} {k : Nat} {its : Array Value} {x : Value} {Q : Value → Shared → Prop} (st : s.heap.IsTupleIter it t k) (ht : s.heap.IsTuple t its) (hx : its[k]? = some x)
  (q : ∀ g, g.IsTupleIter it t (k + 1) → Heap.SameBut it s.heap g → Q x { s with heap := g }) : wpAny (model prog w) A (Builtin.SmallTypes.nextOf (.ref it)) Q E s := by
 obtain ⟨o, eo, co, d⟩ := id st
 obtain ⟨l, el, _, n, dl⟩ := ht
 unfold Builtin.SmallTypes.nextOf
 apply wpAny_bind
 refine wpAny_callSpecial?_slot (name := "__next__") st.typeIs F.slot_tuple_iterator_next ?_
 refine wpAny_call_entry F.slot_tuple_iterator_next st.typeIs F.entry_tuple_iterator_next ?_ (F.args_tuple_iterator_next_1 _)
 show wpAny _ _ (field (.ref it) 0 >>= _) _ _ s
 apply wpAny_bind
 refine wpAny_field eo d (x := .ref t) rfl ?_
 show wpAny _ _ (if (Value.ref t == .none) = true then _ else _) _ _ s
 have nn : ¬ (Value.ref t == .none) = true := Bool.false_ne_true
 rw [if_neg nn]
 show wpAny _ _ (field (.ref it) 1 >>= _) _ _ s
 apply wpAny_bind
 refine wpAny_field eo d (x := .int k 0) rfl ?_
 show wpAny _ _ (seqItems? (.ref t) >>= _) _ _ s
 apply wpAny_bind
 refine wpAny_seqItems el dl ?_
 simp only [hx, Int.toNat_natCast]
 apply wpAny_bind
 refine wpAny_setField eo d (by simp) (wpAny_pure ⟨x, rfl, wpAny_pure (q _ ⟨_, Heap.get?_update_self _ eo (Obj.isFreed_of_fields (Obj.data_mapFields d _)), (Obj.cls_mapFields ..).trans co, ?_⟩ (.update ..))⟩)
 rw [Obj.data_mapFields d]; simp [rawInt]
theorem znZ {it t : Addr} {k : Nat} {its : Array Value} {Q : Value → Shared → Prop} (hh : A.handled = none) (st : s.heap.IsTupleIter it t k) (ht : s.heap.IsTuple t its) (hx : its[k]? = none)
  (q : ∀ g e, Heap.ExtBut it s.heap g → (∃ o, g.get? e = some o ∧ o.cls = .type "StopIteration") → E (.ref e) { s with heap := g }) : wpAny (model prog w) A (Builtin.SmallTypes.nextOf (.ref it)) Q E s := by
 obtain ⟨o, eo, co, d⟩ := id st
 obtain ⟨l, el, _, n, dl⟩ := ht
 unfold Builtin.SmallTypes.nextOf
 apply wpAny_bind
 refine wpAny_callSpecial?_slot (name := "__next__") st.typeIs F.slot_tuple_iterator_next ?_
 refine wpAny_call_entry F.slot_tuple_iterator_next st.typeIs F.entry_tuple_iterator_next ?_ (F.args_tuple_iterator_next_1 _)
 show wpAny _ _ (field (.ref it) 0 >>= _) _ _ s
 apply wpAny_bind
 refine wpAny_field eo d (x := .ref t) rfl ?_
 show wpAny _ _ (if (Value.ref t == .none) = true then _ else _) _ _ s
 have nn : ¬ (Value.ref t == .none) = true := Bool.false_ne_true
 rw [if_neg nn]
 show wpAny _ _ (field (.ref it) 1 >>= _) _ _ s
 apply wpAny_bind
 refine wpAny_field eo d (x := .int k 0) rfl ?_
 show wpAny _ _ (seqItems? (.ref t) >>= _) _ _ s
 apply wpAny_bind
 refine wpAny_seqItems el dl ?_
 simp only [hx, Int.toNat_natCast]
 apply wpAny_bind; apply wpAny_rule; apply wpAny_bind
 refine wpAny_setField eo d (by simp) ?_
 show wpAny _ _ (newExc (.type "StopIteration") [] >>= _) _ _ _
 apply wpAny_bind
 simp only [newExc, newTuple]
 apply wpAny_bind
 refine wpAny_newObj_type ?_ (by size_fits)
 apply wpAny_bind (m := firstArgMember _ _)
 refine wpAny_of_eq (a := Value.none) (by first | rfl | (simp only [firstArgMember]; rfl)) ?_
 refine wpAny_newObj_type ?_ (by size_fits)
 simp only [raiseNew]
 apply wpAny_bind
 refine wpAny_handled ?_
 first | rw [show A.in1.handled = none from hh] | rw [hh]
 exact wpAny_bind (wpAny_pure (wpAny_throw (q _ _ (((Heap.SameBut.update ..).extBut.push _).push _) ⟨_, Heap.get?_push_size _ rfl, rfl⟩)))
structure ZAt (h : Heap) (z TI TO i1 i2 t1 t2 : Addr) (k : Nat) (xs ys : Array Value) (f : Value) : Prop where
 z : IsZip h z TI TO f
 ti : IsPair h TI (.ref i1) (.ref i2)
 to : ∃ a b, IsPair h TO a b
 i1 : h.IsTupleIter i1 t1 k
 i2 : h.IsTupleIter i2 t2 k
 t1 : h.IsTuple t1 xs
 t2 : h.IsTuple t2 ys
theorem ZAt.next {z TI TO i1 i2 t1 t2 : Addr} {k : Nat} {xs ys : Array Value} {x y : Value} {Q : Value → Shared → Prop} (D : ZipApart z TI TO i1 i2 t1 t2) (Z : ZAt s.heap z TI TO i1 i2 t1 t2 k xs ys .none) (hx : xs[k]? = some x) (hy : ys[k]? = some y)
  (q : ∀ g, ZAt g z TI TO i1 i2 t1 t2 (k + 1) xs ys (rawInt s.heap.objs.size) → IsPair g s.heap.objs.size x y → g.objs.size = s.heap.objs.size + 1 → (∀ c o, c ≠ z → c ≠ TO → c ≠ i1 → c ≠ i2 → s.heap.get? c = some o → g.get? c = some o) → Q (.ref s.heap.objs.size) { s with heap := g }) :
  wpAny (model prog w) A (Builtin.«zip.__next__» ⟨[.ref z], []⟩) (fun fin s' => ∃ v, fin = .done (.ret v) ∧ Q v s') E s := by
 obtain ⟨a, b, hTO⟩ := Z.to
 show wpAny _ _ (field (.ref z) 2 >>= _) _ _ _
 apply wpAny_bind
 refine wpAny_field Z.z rfl (x := .bool false) rfl ?_
 show wpAny _ _ (field (.ref z) 3 >>= _) _ _ _
 apply wpAny_bind
 refine wpAny_field Z.z rfl (x := .ref TI) rfl ?_
 apply wpAny_bind
 refine wpAny_seqItems Z.ti rfl ?_
 show wpAny _ _ (Builtin.SmallTypes.ownedTupleIsFree (.ref z) >>= _) _ _ _
 apply wpAny_bind
 unfold Builtin.SmallTypes.ownedTupleIsFree
 apply wpAny_bind
 refine wpAny_field Z.z rfl (x := .none) rfl (wpAny_pure ?_)
 simp only [if_true]
 apply wpAny_bind; apply wpAny_rule; apply wpAny_bind
 refine wpAny_field Z.z rfl (x := .ref TO) rfl ?_
 apply wpAny_bind
 refine wpAny_setField_rec Z.z (by simp) fun g1 z1 s1 => ?_
 have z1 : IsZip g1 z TI TO .ellipsis := z1
 apply wpAny_bind
 simp only [List.zipIdx_cons, List.zipIdx_nil, List.forIn_cons, List.forIn_nil]
 apply wpAny_bind; apply wpAny_bind; apply wpAny_onRaise
 show wpAny _ _ (Builtin.SmallTypes.nextOf (.ref i1) >>= _) _ _ _
 apply wpAny_bind
 refine ztr (Z.i1.extBut s1.extBut D.i1z) (Z.t1.extBut s1.extBut D.l1z) hx fun g2 j2 s2 => wpAny_pure ?_
 have o2 : IsPair g2 TO a b := s2.extBut _ _ D.TOi1 (s1.extBut _ _ D.TOz hTO)
 apply wpAny_bind
 refine wpAny_seqItems o2 rfl ?_
 apply wpAny_bind
 refine wpAny_updateSeq_pair o2 fun g3 o3 s3 => ?_
 have o3 : IsPair g3 TO x b := o3
 apply wpAny_bind
 refine wpAny_letGo (wpAny_pure ?_)
 apply wpAny_bind; apply wpAny_bind; apply wpAny_onRaise
 show wpAny _ _ (Builtin.SmallTypes.nextOf (.ref i2) >>= _) _ _ _
 apply wpAny_bind
 have u3 : ∀ c o, c ≠ z → c ≠ TO → c ≠ i1 → s.heap.get? c = some o → g3.get? c = some o := fun c o n1 n2 n3 e => s3.extBut _ _ n2 (s2.extBut _ _ n3 (s1.extBut _ _ n1 e))
 refine ztr (Z.i2.at fun o e => u3 _ o D.i2z D.TOi2.symm D.i12.symm e) (Z.t2.at fun o e => u3 _ o D.l2z D.l2TO D.l2i1 e) hy fun g4 j4 s4 => wpAny_pure ?_
 have o4 : IsPair g4 TO x b := s4.extBut _ _ D.TOi2 o3
 apply wpAny_bind
 refine wpAny_seqItems o4 rfl ?_
 apply wpAny_bind
 refine wpAny_updateSeq_pair o4 fun g5 o5 s5 => ?_
 have o5 : IsPair g5 TO x y := o5
 apply wpAny_bind
 refine wpAny_letGo (wpAny_pure (wpAny_pure ?_))
 apply wpAny_bind
 refine wpAny_seqItems o5 rfl ?_
 apply wpAny_bind
 refine wpAny_newTuple ?_
 have sz : g5.objs.size = s.heap.objs.size := s5.1.trans (s4.1.trans (s3.1.trans (s2.1.trans s1.1)))
 have z5 : IsZip g5 z TI TO .ellipsis := s5.extBut _ _ D.TOz.symm (s4.extBut _ _ D.i2z.symm (s3.extBut _ _ D.TOz.symm (s2.extBut _ _ D.i1z.symm z1)))
 have u5 : ∀ c o, c ≠ z → c ≠ TO → c ≠ i1 → c ≠ i2 → s.heap.get? c = some o → g5.get? c = some o := fun c o n1 n2 n3 n4 e => s5.extBut _ _ n2 (s4.extBut _ _ n4 (u3 c o n1 n2 n3 e))
 have a5 : g5.IsTupleIter i1 t1 (k + 1) := j2.at fun o e => s5.extBut _ _ D.TOi1.symm (s4.extBut _ _ D.i12 (s3.extBut _ _ D.TOi1.symm e))
 have b5 : g5.IsTupleIter i2 t2 (k + 1) := j4.at fun o e => s5.extBut _ _ D.TOi2.symm e
 have lz : z < g5.objs.size := Heap.lt_size z5
 show wpAny _ _ (Builtin.SmallTypes.ownedTupleHandOut (.ref z) (.ref g5.objs.size) >>= _) _ _ _
 apply wpAny_bind
 unfold Builtin.SmallTypes.ownedTupleHandOut
 have z6 : IsZip (g5.push { cls := .type "tuple", data := .seq #[x, y] }) z TI TO .ellipsis := Heap.get?_push_of_some _ z5
 apply wpAny_bind
 refine wpAny_setField_rec z6 (by simp) fun g7 z7 s7 => ?_
 have z7 : IsZip g7 z TI TO (rawInt g5.objs.size) := z7
 refine wpAny_setField_rec z7 (by simp) fun g8 z8 s8 => ?_
 have z8 : IsZip g8 z TI TO (rawInt g5.objs.size) := z8
 have up : ∀ c o, c ≠ z → g5.get? c = some o → g8.get? c = some o := fun c o n e => s8.extBut _ _ n (s7.extBut _ _ n (Heap.get?_push_of_some _ e))
 have p8 : IsPair g8 g5.objs.size x y := s8.extBut _ _ (Nat.ne_of_gt lz) (s7.extBut _ _ (Nat.ne_of_gt lz) (Heap.get?_push_size _ rfl))
 have w8 : g8.objs.size = g5.objs.size + 1 := s8.1.trans (s7.1.trans (Heap.size_push ..))
 rw [sz] at z8 p8 w8
 refine wpAny_pure ⟨_, rfl, ?_⟩
 show Q (.ref g5.objs.size) _
 rw [sz]
 have nT : ∀ c o, s.heap.get? c = some o → c ≠ z → c ≠ TO → c ≠ i1 → c ≠ i2 → g8.get? c = some o := fun c o e n1 n2 n3 n4 => up c o n1 (u5 c o n1 n2 n3 n4 e)
 exact q g8 ⟨z8, nT _ _ Z.ti D.TIz D.TITO D.TIi1 D.TIi2, ⟨_, _, up _ _ D.TOz o5⟩, a5.at fun o e => up _ o D.i1z e, b5.at fun o e => up _ o D.i2z e, Z.t1.at fun o e => nT _ o e D.l1z D.l1TO D.l1i1 D.l1i2, Z.t2.at fun o e => nT _ o e D.l2z D.l2TO D.l2i1 D.l2i2⟩ p8 w8 fun c o n1 n2 n3 n4 e => nT c o e n1 n2 n3 n4
theorem ZAt.last {z TI TO i1 i2 t1 t2 : Addr} {k : Nat} {xs ys : Array Value} {Q : Fin → Shared → Prop} (hh : A.handled = none) (D : ZipApart z TI TO i1 i2 t1 t2) (Z : ZAt s.heap z TI TO i1 i2 t1 t2 k xs ys .none) (hx : xs[k]? = none)
  (q : ∀ g e, (∀ c o, c ≠ z → c ≠ TO → c ≠ i1 → c ≠ i2 → s.heap.get? c = some o → g.get? c = some o) → (∃ o, g.get? e = some o ∧ o.cls = .type "StopIteration") → E (.ref e) { s with heap := g }) :
  wpAny (model prog w) A (Builtin.«zip.__next__» ⟨[.ref z], []⟩) Q E s := by
 show wpAny _ _ (field (.ref z) 2 >>= _) _ _ _
 apply wpAny_bind
 refine wpAny_field Z.z rfl (x := .bool false) rfl ?_
 show wpAny _ _ (field (.ref z) 3 >>= _) _ _ _
 apply wpAny_bind
 refine wpAny_field Z.z rfl (x := .ref TI) rfl ?_
 apply wpAny_bind
 refine wpAny_seqItems Z.ti rfl ?_
 show wpAny _ _ (Builtin.SmallTypes.ownedTupleIsFree (.ref z) >>= _) _ _ _
 apply wpAny_bind
 unfold Builtin.SmallTypes.ownedTupleIsFree
 apply wpAny_bind
 refine wpAny_field Z.z rfl (x := .none) rfl (wpAny_pure ?_)
 simp only [if_true]
 apply wpAny_bind; apply wpAny_rule; apply wpAny_bind
 refine wpAny_field Z.z rfl (x := .ref TO) rfl ?_
 apply wpAny_bind
 refine wpAny_setField_rec Z.z (by simp) fun g1 z1 s1 => ?_
 have z1 : IsZip g1 z TI TO .ellipsis := z1
 apply wpAny_bind
 simp only [List.zipIdx_cons, List.zipIdx_nil, List.forIn_cons, List.forIn_nil]
 apply wpAny_bind; apply wpAny_bind; apply wpAny_onRaise
 show wpAny _ _ (Builtin.SmallTypes.nextOf (.ref i1) >>= _) _ _ _
 apply wpAny_bind
 refine znZ hh (Z.i1.extBut s1.extBut D.i1z) (Z.t1.extBut s1.extBut D.l1z) hx fun g2 e s2 he => ?_
 obtain ⟨o, eo, co⟩ := he
 have z2 : IsZip g2 z TI TO .ellipsis := s2 _ _ D.i1z.symm z1
 have ez : e ≠ z := fun w => by subst w; rw [z2] at eo; cases eo; simp at co
 refine wpAny_setField_rec z2 (by simp) fun g3 _ s3 => ?_
 exact q g3 e (fun c o n1 _ n3 _ w => s3.extBut _ _ n1 (s2 _ _ n3 (s1.extBut _ _ n1 w))) ⟨o, s3.extBut _ _ ez eo, co⟩
theorem zw5 {z TI TO i1 i2 t1 t2 : Addr} {k : Nat} {xs ys : Array Value} {x y : Value} {Q : Option Value → Shared → Prop} (D : ZipApart z TI TO i1 i2 t1 t2) (Z : ZAt s.heap z TI TO i1 i2 t1 t2 k xs ys .none) (hx : xs[k]? = some x) (hy : ys[k]? = some y)
  (q : ∀ g, ZAt g z TI TO i1 i2 t1 t2 (k + 1) xs ys (rawInt s.heap.objs.size) → IsPair g s.heap.objs.size x y → g.objs.size = s.heap.objs.size + 1 → (∀ c o, c ≠ z → c ≠ TO → c ≠ i1 → c ≠ i2 → s.heap.get? c = some o → g.get? c = some o) → Q (some (.ref s.heap.objs.size)) { s with heap := g }) :
  wpAny (model prog w) A (pyNext (.ref z)) Q E s := by
 have T : s.TypeIs (.ref z) "zip" := ⟨_, Z.z, rfl⟩
 unfold pyNext
 apply wpAny_bind; apply wpAny_attempt
 refine wpAny_callSpecial?_slot (name := "__next__") T F.slot_zip_next ?_
 refine wpAny_call_entry F.slot_zip_next T F.entry_zip_next ?_ (F.args_zip_next_1 _)
 exact Z.next D hx hy fun g a1 a2 a3 a4 => wpAny_pure (q g a1 a2 a3 a4)
theorem zuK {z TI TO i1 i2 t1 t2 : Addr} {k : Nat} {xs ys : Array Value} {Q : Option Value → Shared → Prop} (hh : A.handled = none) (D : ZipApart z TI TO i1 i2 t1 t2) (Z : ZAt s.heap z TI TO i1 i2 t1 t2 k xs ys .none) (hx : xs[k]? = none)
  (q : ∀ g, (∀ c o, c ≠ z → c ≠ TO → c ≠ i1 → c ≠ i2 → s.heap.get? c = some o → g.get? c = some o) → Q none { s with heap := g }) : wpAny (model prog w) A (pyNext (.ref z)) Q E s := by
 have T : s.TypeIs (.ref z) "zip" := ⟨_, Z.z, rfl⟩
 unfold pyNext
 apply wpAny_bind; apply wpAny_attempt
 refine wpAny_callSpecial?_slot (name := "__next__") T F.slot_zip_next ?_
 refine wpAny_call_entry F.slot_zip_next T F.entry_zip_next ?_ (F.args_zip_next_1 _)
 refine Z.last hh D hx fun g e hk he => ?_
 obtain ⟨o, ho, hc⟩ := he
 apply wpAny_bind
 exact wpAny_isInstance (T := "StopIteration") (b := true) ⟨o, ho, hc⟩ isSubtype_stop (wpAny_pure (q _ hk))
noncomputable def ti0 (t : Addr) : Obj := { cls := .type "tuple_iterator", data := .fields #[.ref t, .int 0 0] }
noncomputable def tp2 (a b : Value) : Obj := { cls := .type "tuple", data := .seq #[a, b] }
noncomputable def zp0 (TI TO : Addr) : Obj := { cls := .type "zip", data := .fields #[.none, .bool false, .bool false, .ref TI, .ref TO] }
noncomputable def zpH (h : Heap) (t1 t2 : Addr) : Heap :=
 ((((h.push (ti0 t1)).push (ti0 t2)).push (tp2 (.ref h.objs.size) (.ref (h.push (ti0 t1)).objs.size))).push (tp2 .none .none)).push (zp0 ((h.push (ti0 t1)).push (ti0 t2)).objs.size (((h.push (ti0 t1)).push (ti0 t2)).push (tp2 (.ref h.objs.size) (.ref (h.push (ti0 t1)).objs.size))).objs.size)
theorem zn0 (t1 t2 : Addr) (xs ys : Array Value) : Meets (Builtin.«zip.__new__» ⟨[.type "zip", .ref t1, .ref t2], []⟩) (fun _ R s => s.heap.IsTuple t1 xs ∧ s.heap.IsTuple t2 ys ∧
  R (.ok (.ret (.ref ((((s.heap.push (ti0 t1)).push (ti0 t2)).push (tp2 (.ref s.heap.objs.size) (.ref (s.heap.push (ti0 t1)).objs.size))).push (tp2 .none .none)).objs.size))) { s with heap := zpH s.heap t1 t2 }) :=
 .of_wp fun prog w A R s h => by
  obtain ⟨hp, g, d, tk, os⟩ := s; obtain ⟨h1, h2, h⟩ := h
  have sub := sub_zip
  have L1 : Heap.IsTuple (Shared.heap ⟨hp, g, d, tk, os⟩) t1 xs := h1
  have L2 : Heap.IsTuple (Shared.heap ⟨hp.push { cls := .type "tuple_iterator", data := .fields #[.ref t1, .int 0 0] }, g, d, tk, os⟩) t2 ys := h2.at fun o e => Heap.get?_push_of_some _ e
  wp_walk using wpAny_pyIter_tuple L1, wpAny_pyIter_tuple L2
  exact ⟨_, rfl, h⟩
theorem zqt {t1 t2 : Addr} {xs ys : Array Value} {Q : Value → Shared → Prop} (h1 : s.heap.IsTuple t1 xs) (h2 : s.heap.IsTuple t2 ys)
  (q : ∀ g, ZAt g (s.heap.objs.size + 4) (s.heap.objs.size + 2) (s.heap.objs.size + 3) s.heap.objs.size (s.heap.objs.size + 1) t1 t2 0 xs ys .none → (∀ c o, s.heap.get? c = some o → g.get? c = some o) → Q (.ref (s.heap.objs.size + 4)) { s with heap := g }) :
  wpAny (model prog w) A (call (.type "zip") [.ref t1, .ref t2]) Q E s := by
 refine callType_new F.called_zip (by decide) (F.typeCall_zip_2 _ _) (F.newCall_zip_2 _ _) (fun obj => F.args_object_init_3 obj _ _) F.entry_zip_new (zn0 t1 t2 xs ys) ⟨h1, h2, ?_⟩
 have a1 : (s.heap.push (ti0 t1)).objs.size = s.heap.objs.size + 1 := Heap.size_push ..
 have a2 : ((s.heap.push (ti0 t1)).push (ti0 t2)).objs.size = s.heap.objs.size + 2 := by rw [Heap.size_push, a1]
 have a3 : (((s.heap.push (ti0 t1)).push (ti0 t2)).push (tp2 (.ref s.heap.objs.size) (.ref (s.heap.push (ti0 t1)).objs.size))).objs.size = s.heap.objs.size + 3 := by rw [Heap.size_push, a2]
 have a4 : ((((s.heap.push (ti0 t1)).push (ti0 t2)).push (tp2 (.ref s.heap.objs.size) (.ref (s.heap.push (ti0 t1)).objs.size))).push (tp2 .none .none)).objs.size = s.heap.objs.size + 4 := by rw [Heap.size_push, a3]
 have k : ∀ c o, s.heap.get? c = some o → (zpH s.heap t1 t2).get? c = some o := fun c o e => Heap.get?_push_of_some _ (Heap.get?_push_of_some _ (Heap.get?_push_of_some _ (Heap.get?_push_of_some _ (Heap.get?_push_of_some _ e))))
 have b5 : (zpH s.heap t1 t2).get? (s.heap.objs.size + 4) = some (zp0 (s.heap.objs.size + 2) (s.heap.objs.size + 3)) := by
  unfold zpH; rw [a2, a3]; exact Heap.get?_push_at a4.symm rfl
 have b4 : (zpH s.heap t1 t2).get? (s.heap.objs.size + 3) = some (tp2 .none .none) := Heap.get?_push_of_some _ (Heap.get?_push_at a3.symm rfl)
 have b3 : (zpH s.heap t1 t2).get? (s.heap.objs.size + 2) = some (tp2 (.ref s.heap.objs.size) (.ref (s.heap.objs.size + 1))) := Heap.get?_push_of_some _ (Heap.get?_push_of_some _ (by rw [a1]; exact Heap.get?_push_at a2.symm rfl))
 have b2 : (zpH s.heap t1 t2).get? (s.heap.objs.size + 1) = some (ti0 t2) := Heap.get?_push_of_some _ (Heap.get?_push_of_some _ (Heap.get?_push_of_some _ (Heap.get?_push_at a1.symm rfl)))
 have b1 : (zpH s.heap t1 t2).get? s.heap.objs.size = some (ti0 t1) := Heap.get?_push_of_some _ (Heap.get?_push_of_some _ (Heap.get?_push_of_some _ (Heap.get?_push_of_some _ (Heap.get?_push_size _ rfl))))
 show _ ∧ _
 rw [a4]
 exact ⟨⟨_, b5, rfl⟩, q _ ⟨b5, b3, ⟨_, _, b4⟩, ⟨_, b1, rfl, rfl⟩, ⟨_, b2, rfl, rfl⟩, h1.at fun o e => k _ o e, h2.at fun o e => k _ o e⟩ k⟩
end
section
variable {X : Cx} {pins : List (Addr × Obj)} {σ : St} {H : Hp} {s : Shared} {h' : Heap}
theorem Inv.turnedL {t' : Nat} {ch : List Addr} (I : Inv X pins σ H s) (k : ∀ b o, b ∉ ch → s.heap.get? b = some o → h'.get? b = some o) (f : ∀ b ∈ ch, zom X pins H b) : Inv X pins σ H { s with heap := h', toks := t' } := by
 have nit : ∀ b u, H b = some u → b ∉ ch := fun b u e z => by rw [(f b z).1] at e; cases e
 refine I.step (g' := s.gens) (d' := s.drawn) (ch := ch) (fun b hb => ?_) (fun b o _ _ hc e _ => k b o hc e) (fun b o _ _ hc e _ => ⟨o.slots, k b o hc e⟩) (fun _ _ _ _ n => n) (fun b o hc e => ⟨o, k b o hc e⟩) (fun _ _ e => e) (fun _ _ _ e => e) (fun b ps e => ⟨#[], by rw [e]; simp⟩) (fun m hm => ?_) (fun b u e => ?_) I.bare
 ·obtain ⟨_, f1, _, f3, f4, f5⟩ := f b hb
  exact ⟨f3, f1, f4, f5⟩
 ·obtain ⟨o, es, ep, ho, r⟩ := hm
  exact ⟨o, es, ep, k _ o (fun z => (f _ z).2.1 rfl) ho, r⟩
 ·refine (I.hok b u e).stay (fun c v hc q => k c v ?_ q) (fun _ q => q) fun _ _ q => q
  rcases hc with z | z
  ·rw [z]; exact nit b u e
  ·exact nit c _ z
end
noncomputable def Itz (K : PySem.W.Frag) (a b : Addr) : It :=
 ⟨fun i H => ∃ xs ys x y, SqT K H a xs ∧ SqT K H b ys ∧ xs[i]? = some x ∧ ys[i]? = some y,
  fun i H v H' => ∃ T x y, v = .ref T ∧ H T = none ∧ H' = upd H T (.tup [x, y]) ∧ (∀ xs, SqT K H a xs → xs[i]? = some x) ∧ ∀ ys, SqT K H b ys → ys[i]? = some y,
  fun i H => ∃ xs ys, SqT K H a xs ∧ SqT K H b ys ∧ xs.length ≤ i⟩
structure ZT (z TI TO i1 i2 a b : Addr) (k : Nat) (h : Heap) : Prop where
 z : IsZip h z TI TO .none
 ti : IsPair h TI (.ref i1) (.ref i2)
 to : ∃ u v, IsPair h TO u v
 i1 : h.IsTupleIter i1 a k
 i2 : h.IsTupleIter i2 b k
theorem zr9 {P : Program} {w : World} {K : PySem.W.Frag} {es : List Expr} {ct : Nat} {ps : Pos} {z TI TO i1 i2 a b : Addr} (D : ZipApart z TI TO i1 i2 a b) : zu5 P w K (.Tuple es ct ps) (Itz K a b) [z, TI, TO, i1, i2] z (ZT z TI TO i1 i2 a b) where
 mem := by simp
 obj := fun i h st c hc => by
  simp only [List.mem_cons, List.not_mem_nil, or_false] at hc
  rcases hc with rfl | rfl | rfl | rfl | rfl
  ·exact ⟨_, st.z, fun v q => by cases q⟩
  ·exact ⟨_, st.ti, fun v q => by cases q⟩
  ·obtain ⟨u, v, e⟩ := st.to
   exact ⟨_, e, fun v q => by cases q⟩
  ·obtain ⟨o, e, c, d⟩ := st.i1
   exact ⟨o, e, fun v q => by rw [d] at q; cases q⟩
  ·obtain ⟨o, e, c, d⟩ := st.i2
   exact ⟨o, e, fun v q => by rw [d] at q; cases q⟩
 keep := fun i h h' st k => by
  obtain ⟨u, v, e⟩ := st.to
  exact ⟨k _ (by simp) _ st.z, k _ (by simp) _ st.ti, ⟨u, v, k _ (by simp) _ e⟩, st.i1.at fun o e => k _ (by simp) o e, st.i2.at fun o e => k _ (by simp) o e⟩
 item := by
  intro X hP hw hK hc i pins s σ H E I hf st hg
  subst hP hw hK
  obtain ⟨xs, ys, x, y, h1, h2, hx, hy⟩ := hg
  obtain ⟨its, rv, p, _⟩ := I.tuple h1
  obtain ⟨jts, rw', p', _⟩ := I.tuple h2
  obtain ⟨u, hu, ru⟩ := rv.get hx
  obtain ⟨v, hv, rr⟩ := rw'.get hy
  have Z : ZAt s.heap z TI TO i1 i2 a b i its.toArray jts.toArray .none := ⟨st.z, st.ti, st.to, st.i1, st.i2, p, p'⟩
  refine zw5 D Z (x := u) (y := v) (by simpa using hu) (by simpa using hv) fun g Zg pg sg kg => ⟨_, rfl, ?_⟩
  refine wpAny_letOwnedTupleGo_zip Zg.z fun g' zg sb => ?_
  have lz : z < s.heap.objs.size := Heap.lt_size st.z
  have I1 : Inv X pins σ (upd H s.heap.objs.size (.tup [x, y])) { s with heap := s.heap.push (tp2 u v), toks := s.toks } :=
   I.laid (fun _ _ q => Heap.get?_push_of_some _ q) (Nat.le_refl _) ⟨by show 2 ≤ sizeLine; decide, [u, v], .cons ru (.cons rr .nil), ⟨_, Heap.get?_push_size _ rfl, rfl, 0, rfl⟩⟩
  have fr : ∀ c ∈ [z, TI, TO, i1, i2], c ≠ s.heap.objs.size := fun c hc e => by
   simp only [List.mem_cons, List.not_mem_nil, or_false] at hc
   obtain ⟨u, v, eTO⟩ := st.to
   obtain ⟨o1, q1, _⟩ := st.i1
   obtain ⟨o2, q2, _⟩ := st.i2
   rcases hc with rfl | rfl | rfl | rfl | rfl
   ·exact Nat.ne_of_lt lz e
   ·exact Nat.ne_of_lt (Heap.lt_size st.ti) e
   ·exact Nat.ne_of_lt (Heap.lt_size eTO) e
   ·exact Nat.ne_of_lt (Heap.lt_size q1) e
   ·exact Nat.ne_of_lt (Heap.lt_size q2) e
  have I2 : Inv X pins σ (upd H s.heap.objs.size (.tup [x, y])) { s with heap := g', toks := s.toks } := by
   refine Inv.turnedL (s := { s with heap := s.heap.push (tp2 u v), toks := s.toks }) (h' := g') (t' := s.toks) (ch := [z, TI, TO, i1, i2]) I1 (fun c o hc e => ?_) fun c hc => ?_
   ·have cz : c ≠ z := fun q => hc (by simp [q])
    rcases Heap.get?_push_cases e with ⟨rfl, rfl⟩ | e
    ·exact sb.extBut _ _ cz pg
    ·exact sb.extBut _ _ cz (kg c o cz (fun q => hc (by simp [q])) (fun q => hc (by simp [q])) (fun q => hc (by simp [q])) e)
   ·exact ⟨by rw [zay (fr c hc)]; exact (hf c hc).1, (hf c hc).2⟩
  obtain ⟨u', v', eTO⟩ := Zg.to
  refine ⟨.ref s.heap.objs.size, _, I2, rfl, ⟨_, x, y, rfl, I.fresh, rfl, fun zs hz => by rw [I.tuple_inj hz h1]; exact hx, fun zs hz => by rw [I.tuple_inj hz h2]; exact hy⟩, ⟨zg, sb.extBut _ _ D.TIz Zg.ti, ⟨u', v', sb.extBut _ _ D.TOz eTO⟩, Zg.i1.at fun o e => sb.extBut _ _ D.i1z e, Zg.i2.at fun o e => sb.extBut _ _ D.i2z e⟩, fun c hc => by rw [zay (fr c hc)]; exact (hf c hc).1⟩
 done := by
  intro X hP hw hK hc i pins s σ H E I hf st hg
  subst hP hw hK
  obtain ⟨xs, ys, h1, h2, hx⟩ := hg
  obtain ⟨its, rv, p, _⟩ := I.tuple h1
  obtain ⟨jts, rw', p', _⟩ := I.tuple h2
  have Z : ZAt s.heap z TI TO i1 i2 a b i its.toArray jts.toArray .none := ⟨st.z, st.ti, st.to, st.i1, st.i2, p, p'⟩
  have hl := rv.length
  refine zuK (I.ok.hd hc) D Z (by simp; omega) fun g kg => ⟨rfl, I.turnedL (t' := s.toks) (ch := [z, TI, TO, i1, i2]) (fun c o hc e => ?_) hf⟩
  exact kg c o (fun q => hc (by simp [q])) (fun q => hc (by simp [q])) (fun q => hc (by simp [q])) (fun q => hc (by simp [q])) e
 self := fun _ _ _ _ _ st h => wpAny_pyIter_zip st.z h
end L2
end
section
set_option Elab.async false
set_option linter.all false
set_option maxRecDepth 100000
namespace DL
open PySem L2 PyProof.Rows
section
variable {X : Cx} {E : XK}
noncomputable def zyJ (K : PySem.W.Frag) (ta : TA) : TI := fun σ H R => ta σ H fun vs H1 => ∃ a b, vs = [.ref a, .ref b] ∧ (∃ xs, SqT K H1 a xs) ∧ (∃ ys, SqT K H1 b ys) ∧ R (Itz K a b) H1
theorem zw6 {a b : Expr} {ta : TA} {p pos ps : Pos} {es : List Expr} {ct : Nat} (hg : Gl X "zip") (hm : X.mg "zip" = none) (ha : PA X [a, b] ta) (hs : starEach [a, b] X.env = [(false, eval a X.env), (false, eval b X.env)] := by rfl) (hs2 : starEach [b] X.env = [(false, eval b X.env)] := by rfl) :
  PI X (.Tuple es ct ps) (.Call (.Name "zip" p) [a, b] [] pos) (zyJ X.K ta) := by
 intro pins s σ H R I h
 refine Call_ (ziD I hg hm boot_zip (PyProof.Rows.callWith_type1 (thn (ha pos pins s σ H _ I h) fun us s1 ⟨vs, H1, I1, r1, q1⟩ => ?_) (by rw [hs, hs2]) (by rw [hs2]; rfl)))
 obtain ⟨a, b, e, ⟨xs, hx⟩, ⟨ys, hy⟩, q⟩ := q1
 subst e
 cases r1 with
 | cons r rr =>
  cases rr with
  | cons r' rr =>
   cases rr
   cases r
   cases r'
   obtain ⟨its, _, p1, _⟩ := I1.tuple hx
   obtain ⟨jts, _, p2, _⟩ := I1.tuple hy
   have l1 : a < s1.heap.objs.size := by obtain ⟨o, e, _⟩ := p1; exact Heap.lt_size e
   have l2 : b < s1.heap.objs.size := by obtain ⟨o, e, _⟩ := p2; exact Heap.lt_size e
   refine zqt p1 p2 fun g Z kg => ?_
   refine wpAny_pyIter_zip Z.z ?_
   refine ⟨_, [s1.heap.objs.size + 4, s1.heap.objs.size + 2, s1.heap.objs.size + 3, s1.heap.objs.size, s1.heap.objs.size + 1], _, _, H1, rfl, I1.kept (t' := s1.toks) kg, zr9 (zipApart_new l1 l2), ⟨Z.z, Z.ti, Z.to, Z.i1, Z.i2⟩, fun c hc => ?_, q⟩
   have hc : s1.heap.objs.size ≤ c := by
    simp only [List.mem_cons, List.not_mem_nil, or_false] at hc
    rcases hc with rfl | rfl | rfl | rfl | rfl
    ·exact Nat.le_add_right _ _
    ·exact Nat.le_add_right _ _
    ·exact Nat.le_add_right _ _
    ·exact Nat.le_refl _
    ·exact Nat.le_add_right _ _
   exact I1.fpOk hc (I1.hok.fresh hc)
noncomputable def zw7 (xs ys : List D) : List D := List.zipWith (fun x y => .tup [x, y]) xs ys
noncomputable def zqu : List D → R (List D)
 | [.tup xs, .tup ys] => bif xs.length == ys.length then .ok (zw7 xs ys) else .bad
 | _ => .bad
theorem zhs.zip {K : PySem.W.Frag} {mg : Str → Option Value} {G : Hp} {a b : Addr} {vs us : List V} {xs ys : List D} (h : SqT K G a vs) (h' : SqT K G b us) (r : Reps K mg G xs vs) (r' : Reps K mg G ys us) (hl : xs.length = ys.length) : zhs K mg (Itz K a b) G (zw7 xs ys) := by
 have ln : (zw7 xs ys).length = vs.length := by unfold zw7; rw [List.length_zipWith, ← hl, Nat.min_self, r.length]
 refine ⟨fun H e => ⟨vs, us, zaD.sqT e h, zaD.sqT e h', by rw [ln]; exact Nat.le_refl _⟩, fun H i d e hd => ?_⟩
 obtain ⟨x, y, hx, hy, rfl⟩ : ∃ x y, xs[i]? = some x ∧ ys[i]? = some y ∧ d = .tup [x, y] := by
  unfold zw7 at hd
  rw [List.getElem?_zipWith] at hd
  cases ex : xs[i]? with
  | none => rw [ex] at hd; cases hd
  | some x =>
   cases ey : ys[i]? with
   | none => rw [ex, ey] at hd; cases hd
   | some y => rw [ex, ey] at hd; exact ⟨x, y, rfl, rfl, (Option.some.inj hd).symm⟩
 obtain ⟨v, hv, rv⟩ := r.get hx
 obtain ⟨u, hu, ru⟩ := r'.get hy
 refine ⟨⟨vs, us, v, u, zaD.sqT e h, zaD.sqT e h', hv, hu⟩, ?_⟩
 rintro _ H' ⟨T, v', u', rfl, hn, rfl, q1, q2⟩ G1 e1 e2
 have z1 := q1 _ (zaD.sqT e h)
 have z2 := q2 _ (zaD.sqT e h')
 rw [hv] at z1; cases z1
 rw [hu] at z2; cases z2
 have st := zbH.pub (o := .tup [v, u]) e2 hn
 exact ⟨upd G1 T (.tup [v, u]), st, T, [v, u], rfl, SqT.of zav, .cons (rv.mono (e1.trans st.g)) (.cons (ru.mono (e1.trans st.g)) rfl)⟩
theorem zuL {a b : Expr} {fs : DSt → R (List D)} {p pos ps : Pos} {es : List Expr} {ct : Nat} (hm : X.mg "zip" = none) (ha : DA X E [a, b] fs) (hg : Gl X "zip" := by rfl) (hs : starEach [a, b] X.env = [(false, eval a X.env), (false, eval b X.env)] := by rfl) (hs2 : starEach [b] X.env = [(false, eval b X.env)] := by rfl) :
  DI X E (.Tuple es ct ps) (.Call (.Name "zip" p) [a, b] [] pos) (zb1 zqu fs) := by
 refine PI.mono' (zw6 hg hm ha hs hs2) fun σ H R ⟨G, σd, ok, q⟩ => ?_
 refine ⟨G, σd, ok, q.of_bind.mono (fun ds _ z vs G' H' s r => ?_) fun _ z => z⟩
 match ds, z, r with
 | [.tup xs, .tup ys], z, r =>
  obtain ⟨v, r1, rfl, ⟨a, as, rfl, h1, k1⟩, r2⟩ := r
  obtain ⟨v', r3, rfl, ⟨b, bs, rfl, h2, k2⟩, r4⟩ := r2
  cases r4
  cases hl : (xs.length == ys.length) with
  | false => simp only [zqu, hl, cond_false] at z; exact z.elim
  | true =>
   simp only [zqu, hl, cond_true] at z
   exact ⟨a, b, rfl, ⟨as, zaD.sqT s.e h1⟩, ⟨bs, zaD.sqT s.e h2⟩, z _ G' H' s (.zip h1 h2 k1 k2 (by simpa using hl))⟩
end
end DL
end
section
set_option Elab.async false
set_option linter.all false
set_option maxRecDepth 100000
namespace L2
open PySem PySem.Spec PyProof.Rows
variable {X : Cx}
end L2
namespace DL
open PySem PySem.Spec PyProof.Rows L2
variable {K : PySem.W.Frag} {mg : Str → Option Value} {X : Cx} {e : Expr} {es : List Expr} {p pos : Pos}
end DL
end
section
set_option Elab.async false
set_option linter.all false
set_option maxRecDepth 100000
namespace SetT
open PySem PySem.SetTable
end SetT
namespace DL
open PySem L2 PyProof.Rows
section
variable {prog : Program} {w : World} {A : Around} {E : Value → Shared → Prop} {s : Shared}
variable {h : Heap} {a : Addr} {o : Obj} {es : Array (Int × Value)} {ep : Nat} {t : SetTable} {kss : List (List Int)}
end
end DL
namespace DL
open PySem L2 PyProof.Rows
section
variable {prog : Program} {w : World} {A : Around} {h h' : Heap} {it l z : Addr} {items : Array Value}
end
end DL
namespace DL
open PySem L2 PyProof.Rows
section
variable {X : Cx} {E : XK}
end
end DL
end
section
set_option Elab.async false
set_option linter.all false
set_option maxRecDepth 100000
namespace DL
open PySem L2 PyProof.Rows
section
variable {K : PySem.W.Frag} {mg : Str → Option Value} {G G' H H' : Hp}
noncomputable def spF (K : PySem.W.Frag) (mg : Str → Option Value) (m : List D → R (List D)) : Sp := fun vs H Q E => ∃ G ds, zaD G H ∧ Reps K mg G ds vs ∧ RW (m ds) (zef K mg Q G H) (zaN K mg E G H)
structure zlQ (P : Program) (w : World) (K : PySem.W.Frag) (mg : Str → Option Value) (base : Heap) (k : Nat) (x : Str) (m : List D → R (List D)) : Prop where
 ex : ∃ (f : Addr) (fd : FuncData) (ps : List Str), ziE P w K mg base (CXe P w) k f fd ps (spF K mg m) ∧ mg x = some (.ref f) ∧ PySem.W.keepIn K (.ref f) = true ∧ zaG K fd ps []
end
noncomputable def zqv (m : List D → R (List D)) (fs : DSt → R (List D)) : DSt → R (List D) := fun σ => (fs σ).bind m
noncomputable def zts (m : List D → R (List D)) (a : R (List D)) : R (List D) := a.bind m
theorem zn1 (m : List D → R (List D)) (fs : DSt → R (List D)) (σ : DSt) : zqv m fs σ = zts m (fs σ) := rfl
theorem zqw (m : List D → R (List D)) (ds : List D) : zts m (.ok ds) = m ds := rfl
section
variable {X : Cx} {E : XK} {k : Nat} {x : Str} {m : List D → R (List D)} {p pos : Pos} {e : Expr} {es : List Expr} {fs : DSt → R (List D)}
theorem zuM (C : XC X E k) (F : zlQ X.prog X.w X.K X.mg X.base k x m) (ha : DA X E (e :: es) fs) (hg : Gl X x := by rfl) (hdb : (x == ("__debug__" : Str)) = false := by decide)
  (he : starEach (e :: es) X.env = (false, eval e X.env) :: starEach es X.env := by rfl) (hpl : (backTo pos (starEach es X.env)).any (·.1) = false := by rfl) : DF X E (.Call (.Name x p) (e :: es) [] pos) (zqv m fs) := by
 obtain ⟨f, fd, ps, h1, h2, h3, h4⟩ := F.ex
 refine PE.mono' (zoE h1 C.room hg h2 h3 h4 .nil C.pass ha hdb he hpl) fun σ H Q ⟨G, σd, ok, q⟩ => ?_
 refine ⟨G, σd, ok, q.of_bind.mono (fun ds hds z vs G' H' s r => ?_) fun _ z => z⟩
 show spF X.K X.mg m (vs ++ []) H' Q E
 rw [List.append_nil]
 exact ⟨G', ds, s.e, r, z.mono (fun _ _ z => z.step s) fun _ z => z.step s⟩
end
noncomputable def zw8 : R Out → R (List D)
 | .ok (.rf ds) => .ok ds
 | .ok _ => .bad
 | .err e => .err e
 | .bad => .bad
noncomputable def zvc (n nN : Nat) (body : DSt → R Out) : List D → R (List D) := fun ds => bif ds.length == n then zw8 (body (zcC nN ds)) else .bad
theorem zuN {n nN : Nat} {b : DSt → R Out} {ds : List D} {σ : DSt} (h : ds.length = n) (hσ : zcC nN ds = σ) : zvc n nN b ds = zw8 (b σ) := by
 subst h hσ
 show (bif ds.length == ds.length then _ else _) = _
 rw [beq_self_eq_true]; rfl
section
variable {P : Program} {w : World} {K : PySem.W.Frag} {mg : Str → Option Value} {base : Heap}
theorem zlQ.mk' {x qual : Str} {st : Stmt} {f : Addr} {fd : FuncData} {N ps : List Str} {k n nN : Nat} {own' : List Nat} {body : DSt → R Out} (F : Fun K x qual st f fd) (S : zak N ps (zab st)) (hm : mg x = some (.ref f)) (b : zaG K fd ps [])
  (hn : ps.length = n) (hN : N.length = nN)
  (hb : ∀ (X : Cx) (E : XK), (∃ cdv A outer s H, X = zjh (CXe P w) P w K mg base N qual (zab st) f cdv A outer s H E) → XC X E k → XL X → DSs X E [] own' [] (zag st) body) : zlQ P w K mg base (k + 1) x (zvc n nN body) := by
 refine ⟨f, fd, ps, F.okX S (fun vs H Q E h => ?_) (fun cdv A outer s H vs Q E hr hsp => ?_), hm, F.kp, b⟩
 ·obtain ⟨G, ds, e, r, q⟩ := h
  by_cases hd : ds.length = n
  ·rw [← r.length, hd, hn]
  ·have : (ds.length == n) = false := by simpa using hd
   unfold zvc at q
   rw [this] at q
   exact (show False from q).elim
 ·obtain ⟨G, ds, e, r, q⟩ := hsp
  have hd : ds.length = n := by
   by_cases hd : ds.length = n
   ·exact hd
   ·have : (ds.length == n) = false := by simpa using hd
    unfold zvc at q
    rw [this] at q
    exact (show False from q).elim
  unfold zvc at q
  rw [show (ds.length == n) = true by simpa using hd] at q
  have q' : RW (zw8 (body (zcC nN ds))) (zef K mg Q G H) (zaN K mg E G H) := q
  refine ⟨_, hb _ E ⟨cdv, A, outer, s, H, rfl⟩ ⟨rfl, hr, ztZ⟩ ⟨PassesOwn.leaving⟩ G, G, zcC nN ds, ?_, .refl e, ?_⟩
  ·have := Reps.startOk e (N.length - vs.length) r
   unfold L2.start zcC
   rw [← hN, r.length]
   exact .zero this
  ·cases hbd : body (zcC nN ds) with
   | bad => rw [hbd] at q'; exact q'
   | err e => rw [hbd] at q'; exact q'
   | ok o =>
    rw [hbd] at q'
    cases o with
    | rf es => exact fun a vs G' H' s n e g r => (show zef K mg Q G H es from q') a vs G' H' s n e g r
    | rt d => exact (show False from q').elim
    | nx σ => exact (show False from q').elim
    | bk σ => exact (show False from q').elim
    | ct σ => exact (show False from q').elim
end
noncomputable def zuO (fe : DSt → R (List D)) : DSt → R Out := fun σ => (fe σ).bind fun ds => .ok (.rf ds)
noncomputable def zqx (i : Nat) : DSt → R Out := fun σ => match σ[i]? with
 | some (some (.lst ds)) => .ok (.rf ds)
 | _ => .bad
section
variable {X : Cx} {E : XK} {own own' ol : List Nat} {pos p : Pos}
theorem zuP {e : Expr} {fe : DSt → R (List D)} (h : DF X E e fe) : DS X E own own' ol (.Return (some e) pos) (zuO fe) := fun G0 => PS.mono' (zou h) fun Dn σ H ⟨G, σd, ok, s0, q⟩ => by
 have s1 := ok.pubStep s0
 exact ⟨_, σd, ok.pub.1, q.of_bind.mono (fun ds _ z a vs G' H' s n e g r => (show zf4 X.K X.mg G0 X.H₀ own' ol Dn G (.rf ds) from z) a vs G' H' (s1.trans s) (s0.h.free n) e g r) fun _ z => z.step s1⟩
theorem zqy (i : Nat) {x : Str} (ho : own.contains i = true := by rfl) (hN : X.N[i]? = some x := by rfl) (hv : Vis X.env.scope x := by first | exact Or.inl rfl | exact Or.inr (Or.inl rfl) | exact Or.inr (Or.inr rfl)) (hd : (x == ("__debug__" : Str)) = false := by decide)
  (hcd : (x == ("__classdict__" : Str)) = false := by decide) : DS X E own own' ol (.Return (some (.Name x p)) pos) (zqx i) := fun G0 => PS.mono' (zou (pv i hN hv hd hcd)) fun Dn σ H ⟨G, σd, ok, s0, q⟩ => by
 unfold zqx at q
 split at q
 ·rename_i ds e
  obtain ⟨a, es, vs, h1, h2, h3, h4, h5, h6⟩ := ok.mine i (.lst ds) (by simpa using ho) e
  cases h2
  exact ⟨.ref a, h1, (show zf4 X.K X.mg G0 X.H₀ own' ol Dn G (.rf ds) from q) a vs G H s0 h5 h3 h4 h6⟩
 ·exact (show False from q).elim
end
theorem zqz (fe : DSt → R (List D)) (σ : DSt) : zuO fe σ = (fe σ).bind fun ds => .ok (.rf ds) := rfl
theorem zqA (ds : List D) (g : DSt → R Out) : zr1 (.ok (.rf ds)) g = .ok (.rf ds) := rfl
theorem zqB (ds : List D) : zw8 (.ok (.rf ds)) = .ok ds := rfl
end DL
end
section
set_option Elab.async false
set_option linter.all false
set_option maxRecDepth 100000
namespace Mir
open PySem L2 DL
noncomputable def zeQ : DSt → R Out := (zbY (zu8 (zb0 (g2 zg5) (zaa (zad 0) (zaa (eC (.ty "int")) zaf))) (zyg (zb0 (g2 zg5) (zaa (zad 0) (zaa (eC (.ty "bool")) zaf))))))
noncomputable def zcO : List D → R D := fnM 1 1 zeQ
theorem zjL (a0 : D) : zcO [a0] = fin (zeQ [some a0]) := zaw (b := zeQ) rfl rfl
noncomputable def zcI : DSt → R Out := (zbY (zu8 (zb0 zur (zaa (zdf (eLC 1 [0] (zgj (zad 0)) zar za1 (zah zcO (zaa (zad 0) zaf)))) zaf)) (eOp gNe (zad 0) (zfr (zaa (eC (.int 0)) (zaa (eC (.int 0)) (zaa (eC (.int 0)) zaf)))))))
noncomputable def zaU : List D → R D := fnM 1 1 zcI
theorem zgV (a0 : D) : zaU [a0] = fin (zcI [some a0]) := zaw (b := zcI) rfl rfl
noncomputable def zdh : DSt → R Bool := (zax (eOp gNe (zad 1) (eC (.int 0))))
noncomputable def ze4 : DSt → R Out := (zaC 1 (zad 2))
noncomputable def ze5 : DSt → R Out := (zaE (zaC 0 (zad 1)) ze4)
noncomputable def zek : DSt → R Out := (zaE (zaC 2 (eOp zfn (zad 0) (zad 1))) ze5)
noncomputable def zhH : DSt → R Out := (zbY (zad 0))
noncomputable def zhI : DSt → R Out := (zaE (za8 zdh zek) zhH)
noncomputable def zhJ : DSt → R Out := (zaE (zaC 1 (zb0 zrX (zaa (zad 1) zaf))) zhI)
noncomputable def zfB : DSt → R Out := (zaE (zaC 0 (zb0 zrX (zaa (zad 0) zaf))) zhJ)
noncomputable def zbm : List D → R D := fnM 2 3 zfB
theorem zkV (a0 : D) (a1 : D) : zbm [a0, a1] = fin (zfB [some a0, some a1, none]) := zaw (b := zfB) rfl rfl
noncomputable def zhK : DSt → R Out := (zbY (zfr (zaa (eOp zf6 (eOp gIx (zad 0) (eC (.int 0))) (zad 1)) (zaa (eOp zf6 (eOp gIx (zad 0) (eC (.int 1))) (zad 1)) (zaa (eOp zf6 (eOp gIx (zad 0) (eC (.int 2))) (zad 1)) zaf)))))
noncomputable def zhL : DSt → R Out := (zaE (sIf (zax (eOp gLt (zad 2) (eC (.int 0)))) (zaC 1 (eUn zul (zad 1))) za7) zhK)
noncomputable def zhM : DSt → R Out := (zaE (zaC 2 (eOp gIx (zdf (eLC 1 [0] (zgj (zad 0)) zar (zax (eOp gNe (zad 0) (eC (.int 0)))) (zad 0))) (eUn zul (eC (.int 1))))) zhL)
noncomputable def zfC : DSt → R Out := (zaE (zaC 1 (zah zbm (zaa (zah zbm (zaa (eOp gIx (zad 0) (eC (.int 0))) (zaa (eOp gIx (zad 0) (eC (.int 1))) zaf))) (zaa (eOp gIx (zad 0) (eC (.int 2))) zaf)))) zhM)
noncomputable def zbn : List D → R D := fnM 1 3 zfC
theorem zkW (a0 : D) : zbn [a0] = fin (zfC [some a0, none, none]) := zaw (b := zfC) rfl rfl
noncomputable def zgo : DSt → R Out := (zbY (eOp gEq (zah zbn (zaa (zad 0) zaf)) (zad 0)))
noncomputable def zgp : DSt → R Out := (zaE (sIf (zmr (zax (zah zaU (zaa (zad 0) zaf)))) (zbY (eC (.bl false))) za7) zgo)
noncomputable def zeR : DSt → R Out := (zaE (sIf (eOr (zmr (zax (zb0 (g2 zg5) (zaa (zad 0) (zaa (eC (.ty "tuple")) zaf))))) (zax (eOp gNe (zb0 zfw (zaa (zad 0) zaf)) (eC (.int 3))))) (zbY (eC (.bl false))) za7) zgp)
noncomputable def zce : List D → R D := fnM 1 1 zeR
theorem zjM (a0 : D) : zce [a0] = fin (zeR [some a0]) := zaw (b := zeR) rfl rfl
noncomputable def zgq : DSt → R Out := (zbY (zah zbn (zaa (zad 3) zaf)))
noncomputable def zgr : DSt → R Out := (zaE (sIf (zmr (zax (zah zaU (zaa (zad 3) zaf)))) (zlL "NoPlace") za7) zgq)
noncomputable def zeS : DSt → R Out := (zaE (zaC 3 (zfr (zaa (zad 0) (zaa (zad 1) (zaa (zad 2) zaf))))) zgr)
noncomputable def zcP : List D → R D := fnM 3 4 zeS
theorem zjN (a0 : D) (a1 : D) (a2 : D) : zcP [a0, a1, a2] = fin (zeS [some a0, some a1, some a2, none]) := zaw (b := zeS) rfl rfl
noncomputable def zsa : DSt → R Out := (zbY (eOp zbR (eOp zbR (eOp zbJ (eOp gIx (zad 0) (eC (.int 0))) (eOp gIx (zad 1) (eC (.int 0)))) (eOp zbJ (eOp gIx (zad 0) (eC (.int 1))) (eOp gIx (zad 1) (eC (.int 1))))) (eOp zbJ (eOp gIx (zad 0) (eC (.int 2))) (eOp gIx (zad 1) (eC (.int 2))))))
noncomputable def zfD : List D → R D := fnM 2 2 zsa
theorem zsb (a0 : D) (a1 : D) : zfD [a0, a1] = fin (zsa [some a0, some a1]) := zaw (b := zsa) rfl rfl
noncomputable def zfE : DSt → R Out := (zbY (eOp gEq (zah zfD (zaa (zad 0) (zaa (zad 1) zaf))) (eC (.int 0))))
noncomputable def zbb : List D → R D := fnM 2 2 zfE
theorem zkX (a0 : D) (a1 : D) : zbb [a0, a1] = fin (zfE [some a0, some a1]) := zaw (b := zfE) rfl rfl
noncomputable def zkY : DSt → R Out := (zbY (zfr (zaa (zad 2) (zaa (zad 3) (zaa (zad 4) zaf)))))
noncomputable def zkZ : DSt → R Out := (zaE (zaC 4 (eOp gSub (eOp zbJ (eOp gIx (zad 0) (eC (.int 0))) (eOp gIx (zad 1) (eC (.int 1)))) (eOp zbJ (eOp gIx (zad 0) (eC (.int 1))) (eOp gIx (zad 1) (eC (.int 0)))))) zkY)
noncomputable def zk0 : DSt → R Out := (zaE (zaC 3 (eOp gSub (eOp zbJ (eOp gIx (zad 0) (eC (.int 2))) (eOp gIx (zad 1) (eC (.int 0)))) (eOp zbJ (eOp gIx (zad 0) (eC (.int 0))) (eOp gIx (zad 1) (eC (.int 2)))))) zkZ)
noncomputable def zjO : DSt → R Out := (zaE (zaC 2 (eOp gSub (eOp zbJ (eOp gIx (zad 0) (eC (.int 1))) (eOp gIx (zad 1) (eC (.int 2)))) (eOp zbJ (eOp gIx (zad 0) (eC (.int 2))) (eOp gIx (zad 1) (eC (.int 1)))))) zk0)
noncomputable def zcz : List D → R D := fnM 2 5 zjO
theorem zn2 (a0 : D) (a1 : D) : zcz [a0, a1] = fin (zjO [some a0, some a1, none, none, none]) := zaw (b := zjO) rfl rfl
noncomputable def zdi : DSt → R Out := (zbY (zah zbn (zaa (zah zcz (zaa (zad 0) (zaa (zad 1) zaf))) zaf)))
noncomputable def zbI : DSt → R Out := (zaE (sIf (zax (eOp gEq (zad 0) (zad 1))) zue za7) zdi)
noncomputable def zaS : List D → R D := fnM 2 2 zbI
theorem zfp (a0 : D) (a1 : D) : zaS [a0, a1] = fin (zbI [some a0, some a1]) := zaw (b := zbI) rfl rfl
noncomputable def zdj : DSt → R Out := (zbY (zah zaS (zaa (zad 0) (zaa (zad 1) zaf))))
noncomputable def zaF : List D → R D := fnM 2 2 zdj
theorem zhN (a0 : D) (a1 : D) : zaF [a0, a1] = fin (zdj [some a0, some a1]) := zaw (b := zdj) rfl rfl
noncomputable def zfF : DSt → R Out := (zbY (zb0 zur (zaa (zdf (eLC 1 [0] (zgj (zad 1)) zar za1 (zah zbb (zaa (zad 0) (zaa (zad 3) zaf))))) zaf)))
noncomputable def zfG : DSt → R Out := (zaE (zaC 2 (zah zaF (zaa (eOp gIx (zad 0) (eC (.int 0))) (zaa (eOp gIx (zad 1) (eC (.int 0))) zaf)))) zfF)
noncomputable def zfH : DSt → R Out := (zaE (sIf (zax (eOp gEq (zb0 zfw (zaa (zad 1) zaf)) (eC (.int 0)))) (zbY (eC (.bl true))) za7) zfG)
noncomputable def zdO : DSt → R Out := (zaE (zlp [] 1 (zdf (eLC 1 [0] (zgj (zad 0)) zar (zax (eOp gNe (zad 0) (eOp gIx (zad 1) (eC (.int 0))))) (zad 0)))) zfH)
noncomputable def za2 : List D → R D := fnM 1 3 zdO
theorem ziu (a0 : D) : za2 [a0] = fin (zdO [some a0, none, none]) := zaw (b := zdO) rfl rfl
noncomputable def zdP : D := .int 12
noncomputable def zgs : DSt → R Out := (zbY (eOp gEq (zlP (zad 0)) (zb0 zfw (zaa (zad 0) zaf))))
noncomputable def zgt : DSt → R Out := (zaE (sIf (zmr (zax (zb0 zur (zaa (zdf (eLC 1 [0] (zgj (zad 0)) zar za1 (zah zce (zaa (zad 0) zaf)))) zaf)))) (zbY (eC (.bl false))) za7) zgs)
noncomputable def zeT : DSt → R Out := (zaE (sIf (eOr (zmr (zax (zb0 (g2 zg5) (zaa (zad 0) (zaa (eC (.ty "list")) zaf))))) (zmr (zax (zkm gLe gLe (eC (.int 1)) (zb0 zfw (zaa (zad 0) zaf)) (eC zdP))))) (zbY (eC (.bl false))) za7) zgt)
noncomputable def zbt : List D → R D := fnM 1 1 zeT
theorem zjP (a0 : D) : zbt [a0] = fin (zeT [some a0]) := zaw (b := zeT) rfl rfl
noncomputable def zfI : DSt → R Out := (sIf (zmr (zax (zah zbt (zaa (zad 0) zaf)))) zue za7)
noncomputable def zbD : List D → R D := fnM 1 1 zfI
theorem zk1 (a0 : D) : zbD [a0] = fin (zfI [some a0]) := zaw (b := zfI) rfl rfl
noncomputable def zbd : DSt → R Out := (sIf (zmr (zax (zb0 zwz (zaa (zdf (eLC 1 [0] (zgj (zad 4)) zar za1 (zah zbb (zaa (eOp gIx (zad 1) (zad 6)) (zaa (zad 0) zaf))))) zaf)))) (zbY (zad 5)) za7)
noncomputable def zfJ : DSt → R Out := (zbY (eC .non))
noncomputable def zdQ : DSt → R Out := (zaE (zir [] [5] zar (zb1 zlC (zaa (eOp zbR (zad 3) (eC (.int 1))) (zaa (zb0 zfw (zaa (zad 0) zaf)) zaf))) zbd) zfJ)
noncomputable def zc2 : DSt → R Out := (zaE (zaC 4 (zdf (zhq (zaa (zah zaF (zaa (eOp gIx (zad 0) (zad 1)) (zaa (eOp gIx (zad 0) (zad 2)) zaf))) (zaa (zah zaF (zaa (eOp gIx (zad 0) (zad 2)) (zaa (eOp gIx (zad 0) (zad 3)) zaf))) (zaa (zah zaF (zaa (eOp gIx (zad 0) (zad 1)) (zaa (eOp gIx (zad 0) (zad 3)) zaf))) zaf)))))) zdQ)
noncomputable def zbK : List D → R D := fnM 4 6 zc2
theorem ze6 (a0 : D) (a1 : D) (a2 : D) (a3 : D) : zbK [a0, a1, a2, a3] = fin (zc2 [some a0, some a1, some a2, some a3, none, none]) := zaw (b := zc2) rfl rfl
noncomputable def zaX : DSt → R Out := (sIf (zax (eOp zun (zad 5) (eC .non))) (zbY (zfr (zaa (zad 1) (zaa (zad 2) (zaa (zad 4) (zaa (zad 5) zaf)))))) za7)
noncomputable def zb5 : DSt → R Out := (zaE (zaC 5 (zah zbK (zaa (zad 0) (zaa (zad 1) (zaa (zad 2) (zaa (zad 4) zaf)))))) zaX)
noncomputable def zaY : DSt → R Out := (sIf (zmr (zax (zah zbb (zaa (eOp gIx (zad 0) (zad 4)) (zaa (zad 3) zaf))))) zb5 za7)
noncomputable def zcA : DSt → R Out := (zir [] [4] zar (zb1 zlC (zaa (eOp zbR (zad 2) (eC (.int 1))) (zaa (zb0 zfw (zaa (zad 0) zaf)) zaf))) zaY)
noncomputable def zbE : DSt → R Out := (zaE (zaC 3 (zah zaF (zaa (eOp gIx (zad 0) (zad 1)) (zaa (eOp gIx (zad 0) (zad 2)) zaf)))) zcA)
noncomputable def zb6 : DSt → R Out := (zir [] [2] zar (zb1 zlC (zaa (eOp zbR (zad 1) (eC (.int 1))) (zaa (zb0 zfw (zaa (zad 0) zaf)) zaf))) zbE)
noncomputable def zgu : DSt → R Out := (zbY (eC .non))
noncomputable def zel : DSt → R Out := (zaE (zir [] [1] zar (zb1 zgk (zaa (zb0 zfw (zaa (zad 0) zaf)) zaf)) zb6) zgu)
noncomputable def zdw : DSt → R Out := (zaE (zpr (zah zbD (zaa (zad 0) zaf))) zel)
noncomputable def zbe : List D → R D := fnM 1 6 zdw
theorem zfK (a0 : D) : zbe [a0] = fin (zdw [some a0, none, none, none, none, none]) := zaw (b := zdw) rfl rfl
noncomputable def zhO : DSt → R Out := (zaC 1 (zah zbm (zaa (zad 1) (zaa (zad 2) zaf))))
noncomputable def ziU : DSt → R Out := (zbY (zb0 zku (zaa (zdf (eLC 1 [0] (zgj (zad 0)) zar za1 (eOp zf6 (zad 0) (zad 2)))) zaf)))
noncomputable def ziV : DSt → R Out := (zaE (sIf (zax (eOp gLt (eOp gIx (zdf (eLC 1 [0] (zgj (zad 0)) zar (zax (eOp gNe (zad 0) (eC (.int 0)))) (zad 0))) (eC (.int 0))) (eC (.int 0)))) (zaC 1 (eUn zul (zad 1))) za7) ziU)
noncomputable def ziW : DSt → R Out := (zaE (zir [] [2] zar (zgj (zad 0)) zhO) ziV)
noncomputable def zg9 : DSt → R Out := (zaE (zaC 1 (eC (.int 0))) ziW)
noncomputable def zcp : List D → R D := fnM 1 3 zg9
theorem zlR (a0 : D) : zcp [a0] = fin (zg9 [some a0, none, none]) := zaw (b := zg9) rfl rfl
noncomputable def zem : DSt → R Out := (zbY (zdf (eLC 1 [0] (zgj (zfr (zaa (eC (.int 0)) (zaa (eC (.int 3)) (zaa (eC (.int 6)) zaf))))) zar za1 (eSl (zad 1) (zdc (zad 0)) (zdc (eOp zbR (zad 0) (eC (.int 3))))))))
noncomputable def zaK : List D → R D := fnM 1 1 zem
theorem zhP (a0 : D) : zaK [a0] = fin (zem [some a0]) := zaw (b := zem) rfl rfl
noncomputable def zen : DSt → R Out := (zbY (zdf (eLC 1 [0] (zb1 zgk (zaa (eC (.int 3)) zaf)) zar za1 (zfr (zaa (eOp gIx (eOp gIx (zad 1) (eC (.int 0))) (zad 0)) (zaa (eOp gIx (eOp gIx (zad 1) (eC (.int 1))) (zad 0)) (zaa (eOp gIx (eOp gIx (zad 1) (eC (.int 2))) (zad 0)) zaf)))))))
noncomputable def zaZ : List D → R D := fnM 1 1 zen
theorem zhQ (a0 : D) : zaZ [a0] = fin (zen [some a0]) := zaw (b := zen) rfl rfl
noncomputable def zcJ : DSt → R Out := (zbY (zah zfD (zaa (zad 0) (zaa (zah zcz (zaa (zad 1) (zaa (zad 2) zaf))) zaf))))
noncomputable def zaV : List D → R D := fnM 3 3 zcJ
theorem zgW (a0 : D) (a1 : D) (a2 : D) : zaV [a0, a1, a2] = fin (zcJ [some a0, some a1, some a2]) := zaw (b := zcJ) rfl rfl
noncomputable def zdR : DSt → R Out := (zbY (zdf (zhq (zaa (zah zcz (zaa (eOp gIx (zad 0) (eC (.int 1))) (zaa (eOp gIx (zad 0) (eC (.int 2))) zaf))) (zaa (zah zcz (zaa (eOp gIx (zad 0) (eC (.int 2))) (zaa (eOp gIx (zad 0) (eC (.int 0))) zaf))) (zaa (zah zcz (zaa (eOp gIx (zad 0) (eC (.int 0))) (zaa (eOp gIx (zad 0) (eC (.int 1))) zaf))) zaf))))))
noncomputable def zcf : List D → R D := fnM 1 1 zdR
theorem ziv (a0 : D) : zcf [a0] = fin (zdR [some a0]) := zaw (b := zdR) rfl rfl
noncomputable def zha : DSt → R Out := (zbY (zah zcP (zaa (zah zfD (zaa (eOp gIx (zad 0) (eC (.int 0))) (zaa (zad 1) zaf))) (zaa (zah zfD (zaa (eOp gIx (zad 0) (eC (.int 1))) (zaa (zad 1) zaf))) (zaa (zah zfD (zaa (eOp gIx (zad 0) (eC (.int 2))) (zaa (zad 1) zaf))) zaf)))))
noncomputable def zeU : List D → R D := fnM 2 2 zha
theorem zlS (a0 : D) (a1 : D) : zeU [a0, a1] = fin (zha [some a0, some a1]) := zaw (b := zha) rfl rfl
noncomputable def zsc : DSt → R Out := (zbY (zah zeU (zaa (zah zaK (zaa (zad 0) zaf)) (zaa (zad 1) zaf))))
noncomputable def zn3 : List D → R D := fnM 2 2 zsc
theorem zsd (a0 : D) (a1 : D) : zn3 [a0, a1] = fin (zsc [some a0, some a1]) := zaw (b := zsc) rfl rfl
noncomputable def zhR : DSt → R Out := (zxu [3] 3 (zdf (eLC 1 [0] (zgj (zad 2)) zar za1 (zah zfD (zaa (zad 5) (zaa (zad 0) zaf))))))
noncomputable def zni : DSt → R Out := (zbY (zah zcp (zaa (zad 3) zaf)))
noncomputable def znj : DSt → R Out := (zaE (zir [3] [4] zar (zgj (zah zaK (zaa (zad 1) zaf))) zhR) zni)
noncomputable def znk : DSt → R Out := (zaE (znW [] 3 (zhq zaf)) znj)
noncomputable def znl : DSt → R Out := (zaE (zaC 2 (zah zaZ (zaa (zah zaK (zaa (zad 0) zaf)) zaf))) znk)
noncomputable def ziX : List D → R D := fnM 2 5 znl
theorem zqC (a0 : D) (a1 : D) : ziX [a0, a1] = fin (znl [some a0, some a1, none, none, none]) := zaw (b := znl) rfl rfl
noncomputable def zhS : DSt → R Out := (zbY (zah zcp (zaa (eOp zbR (eOp zbR (eOp gIx (zad 1) (eC (.int 0))) (eOp gIx (zad 1) (eC (.int 1)))) (eOp gIx (zad 1) (eC (.int 2)))) zaf)))
noncomputable def zfL : DSt → R Out := (zaE (zaC 1 (zah zaZ (zaa (zah zcf (zaa (zah zaK (zaa (zad 0) zaf)) zaf)) zaf))) zhS)
noncomputable def zdx : List D → R D := fnM 1 2 zfL
theorem zk2 (a0 : D) : zdx [a0] = fin (zfL [some a0, none]) := zaw (b := zfL) rfl rfl
noncomputable def zhT : DSt → R Out := (zxu [6] 6 (zdf (zhq (zaa (eOp zbJ (eOp gIx (zad 5) (eC (.int 0))) (eOp gIx (zad 1) (zad 7))) (zaa (eOp zbJ (eOp gIx (zad 5) (eC (.int 1))) (eOp gIx (zad 2) (zad 7))) (zaa (eOp zbJ (eOp gIx (zad 5) (eC (.int 2))) (eOp gIx (zad 3) (zad 7))) zaf))))))
noncomputable def ziY : DSt → R Out := (zbY (zah zcp (zaa (zad 6) zaf)))
noncomputable def ziZ : DSt → R Out := (zaE (zir [6] [7] zar (zb1 zgk (zaa (eC (.int 3)) zaf)) zhT) ziY)
noncomputable def zi0 : DSt → R Out := (zaE (znW [] 6 (zhq zaf)) ziZ)
noncomputable def zi1 : DSt → R Out := (zaE (zaC 5 (zfr (zaa (zah zaV (zaa (zad 4) (zaa (zad 2) (zaa (zad 3) zaf)))) (zaa (zah zaV (zaa (zad 1) (zaa (zad 4) (zaa (zad 3) zaf)))) (zaa (zah zaV (zaa (zad 1) (zaa (zad 2) (zaa (zad 4) zaf)))) zaf))))) zi0)
noncomputable def zi2 : DSt → R Out := (zaE (zaC 4 (eOp gIx (zad 0) (eC (.int 3)))) zi1)
noncomputable def zi3 : DSt → R Out := (zaE (zaC 3 (eOp gIx (zad 0) (eC (.int 2)))) zi2)
noncomputable def zi4 : DSt → R Out := (zaE (zaC 2 (eOp gIx (zad 0) (eC (.int 1)))) zi3)
noncomputable def zhb : DSt → R Out := (zaE (zaC 1 (eOp gIx (zad 0) (eC (.int 0)))) zi4)
noncomputable def zdS : List D → R D := fnM 1 8 zhb
theorem zlT (a0 : D) : zdS [a0] = fin (zhb [some a0, none, none, none, none, none, none, none]) := zaw (b := zhb) rfl rfl
noncomputable def zfM : DSt → R Out := (zbY (zu8 (zah zbt (zaa (zad 0) zaf)) (zu8 (eOp gEq (zb0 zfw (zaa (zad 0) zaf)) (eC (.int 4))) (eOp zun (zah zbe (zaa (zad 0) zaf)) (eC .non)))))
noncomputable def zc3 : List D → R D := fnM 1 1 zfM
theorem zk3 (a0 : D) : zc3 [a0] = fin (zfM [some a0]) := zaw (b := zfM) rfl rfl
noncomputable def zhU : DSt → R Out := (zbY (zah ziX (zaa (zah zdx (zaa (zah zdS (zaa (zad 0) zaf)) zaf)) (zaa (zah zdS (zaa (zad 1) zaf)) zaf))))
noncomputable def zfN : DSt → R Out := (zaE (sIf (eOr (zmr (zax (zah zc3 (zaa (zad 0) zaf)))) (zmr (zax (zah zc3 (zaa (zad 1) zaf))))) zue za7) zhU)
noncomputable def zc4 : List D → R D := fnM 2 2 zfN
theorem zk4 (a0 : D) (a1 : D) : zc4 [a0, a1] = fin (zfN [some a0, some a1]) := zaw (b := zfN) rfl rfl
noncomputable def zbF : DSt → R Out := (sIf (zax (eOp gNe (zah za2 (zaa (zdf (zhq (zaa (eOp gIx (zad 0) (zad 2)) (zaa (eOp gIx (zad 0) (zad 3)) (zaa (eOp gIx (zad 0) (zad 4)) zaf))))) zaf)) (zah za2 (zaa (zdf (zhq (zaa (eOp gIx (zad 1) (zad 2)) (zaa (eOp gIx (zad 1) (zad 3)) (zaa (eOp gIx (zad 1) (zad 4)) zaf))))) zaf)))) (zbY (zfr (zaa (zad 2) (zaa (zad 3) (zaa (zad 4) zaf))))) za7)
noncomputable def zb7 : DSt → R Out := (zir [] [4] zar (zb1 zlC (zaa (eOp zbR (zad 3) (eC (.int 1))) (zaa (zb0 zfw (zaa (zad 0) zaf)) zaf))) zbF)
noncomputable def zcw : DSt → R Out := (zir [] [3] zar (zb1 zlC (zaa (eOp zbR (zad 2) (eC (.int 1))) (zaa (zb0 zfw (zaa (zad 0) zaf)) zaf))) zb7)
noncomputable def zfO : DSt → R Out := (zbY (eC .non))
noncomputable def zdT : DSt → R Out := (zaE (zir [] [2] zar (zb1 zgk (zaa (zb0 zfw (zaa (zad 0) zaf)) zaf)) zcw) zfO)
noncomputable def zcg : List D → R D := fnM 2 5 zdT
theorem ziw (a0 : D) (a1 : D) : zcg [a0, a1] = fin (zdT [some a0, some a1, none, none, none]) := zaw (b := zdT) rfl rfl
noncomputable def zqD : DSt → R Out := zue
noncomputable def znm : DSt → R Out := (zaE (sIf (zax (eOp gEq (zb0 zfw (zaa (zad 5) zaf)) (eC (.int 0)))) (zbY (zfr (zaa (eC (.str "change")) (zaa (zad 4) zaf)))) za7) zqD)
noncomputable def znn : DSt → R Out := (zaE (zlp [] 5 (zdf (eLC 1 [0] (zb1 zgk (zaa (zb0 zfw (zaa (zad 0) zaf)) zaf)) zar (zax (eOp gNe (zah zn3 (zaa (zad 5) (zaa (eOp gIx (zad 1) (zad 0)) zaf))) (eOp gIx (zad 2) (zad 0)))) (zad 0)))) znm)
noncomputable def zno : DSt → R Out := (zaE (zaC 4 (zah zc4 (zaa (zdf (eLC 1 [0] (zgj (zad 2)) zar za1 (eOp gIx (zad 1) (zad 0)))) (zaa (zdf (eLC 1 [0] (zgj (zad 2)) zar za1 (eOp gIx (zad 2) (zad 0)))) zaf)))) znn)
noncomputable def znp : DSt → R Out := (zaE (sIf (zax (eOp zun (zad 3) (eC .non))) (zbY (eOp zbR (zfr (zaa (eC (.str "line")) zaf)) (zad 3))) za7) zno)
noncomputable def znq : DSt → R Out := (zaE (zaC 3 (zah zcg (zaa (zad 0) (zaa (zad 1) zaf)))) znp)
noncomputable def znr : DSt → R Out := (zaE (sIf (zxm (zax (eOp gIs (zad 2) (eC .non))) (zax (eOp gIs (zah zbe (zaa (zad 1) zaf)) (eC .non)))) zue za7) znq)
noncomputable def zns : DSt → R Out := (zaE (zaC 2 (zah zbe (zaa (zad 0) zaf))) znr)
noncomputable def znt : DSt → R Out := (zaE (sIf (zax (eOp gNe (zb0 zfw (zaa (zad 0) zaf)) (zb0 zfw (zaa (zad 1) zaf)))) zue za7) zns)
noncomputable def znu : DSt → R Out := (zaE (zpr (zah zbD (zaa (zad 1) zaf))) znt)
noncomputable def znv : DSt → R Out := (zaE (zpr (zah zbD (zaa (zad 0) zaf))) znu)
noncomputable def zgv : List D → R D := fnM 2 6 znv
theorem zqE (a0 : D) (a1 : D) : zgv [a0, a1] = fin (znv [some a0, some a1, none, none, none, none]) := zaw (b := znv) rfl rfl
noncomputable def zeo : DSt → R Out := (zbY (eC (.int 0)))
noncomputable def zcK : DSt → R Out := (zaE (sIf (zax (eOp gLt (zad 1) (zb0 zfw (zaa (zad 0) zaf)))) (zbY (eOp gIx (zad 0) (zad 1))) za7) zeo)
noncomputable def zaW : List D → R D := fnM 2 2 zcK
theorem zgX (a0 : D) (a1 : D) : zaW [a0, a1] = fin (zcK [some a0, some a1]) := zaw (b := zcK) rfl rfl
noncomputable def zhV : DSt → R Out := (zbY (eOp zfn (eOp zbJ (zad 2) (zad 2)) (eC (.int 2147483629))))
noncomputable def zhW : DSt → R Out := (zaE (zaC 2 (eOp zfn (eOp zbR (eOp zbR (eOp zbJ (zad 2) (zad 2)) (eOp zbJ (eC (.int 7919)) (zad 1))) (eC (.int 5))) (eC (.int 2147483587)))) zhV)
noncomputable def zhX : DSt → R Out := (zaE (zaC 2 (eOp zfn (eOp zbJ (eOp zbR (eOp zbR (eOp zbR (eOp zfn (zad 0) (eC (.int 2147483647))) (eOp zbJ (eOp zbJ (eC (.int 48271)) (zad 1)) (zad 1))) (zad 1)) (eC (.int 1))) (eC (.int 69621))) (eC (.int 2147483629)))) zhW)
noncomputable def zfP : DSt → R Out := (zaE (sIf (zax (eOp gGe (zad 0) (eOp zyo (eC (.int 10)) (eC (.int 18))))) (zbY (eOp zfn (eOp zyp (zad 0) (eOp zbJ (eC (.int 20)) (zad 1))) (eC (.int 1048576)))) za7) zhX)
noncomputable def zaB : List D → R D := fnM 2 3 zfP
theorem zk5 (a0 : D) (a1 : D) : zaB [a0, a1] = fin (zfP [some a0, some a1, none]) := zaw (b := zfP) rfl rfl
noncomputable def zep : DSt → R Bool := (zax (eOp gNe (zad 3) (eC (.int 0))))
noncomputable def zeq : DSt → R Out := (zuf [] [1, 3] (zea 2) (zfr (zaa (zad 3) (zaa (eOp zfn (zad 1) (zad 3)) zaf))))
noncomputable def ze7 : DSt → R Out := (za8 zep zeq)
noncomputable def zgw : DSt → R Out := (zaE (zaC 3 (zb0 zrX (zaa (zad 2) zaf))) ze7)
noncomputable def zhY : DSt → R Out := (zbY (zb0 zku (zaa (zdf (eLC 1 [0] (zgj (zad 0)) zar za1 (eOp zf6 (zad 0) (zad 2)))) zaf)))
noncomputable def zhZ : DSt → R Out := (zaE (sIf (zax (eOp gLt (eOp gIx (zad 4) (eUn zul (eC (.int 1)))) (eC (.int 0)))) (zaC 1 (eOp gSub (eC (.int 0)) (zad 1))) za7) zhY)
noncomputable def zh0 : DSt → R Out := (zaE (zlp [] 4 (zdf (eLC 1 [0] (zgj (zad 0)) zar (zax (eOp gNe (zad 0) (eC (.int 0)))) (zad 0)))) zhZ)
noncomputable def zh1 : DSt → R Out := (zaE (zir [] [2] zar (zgj (zad 0)) zgw) zh0)
noncomputable def zfQ : DSt → R Out := (zaE (zaC 1 (eC (.int 0))) zh1)
noncomputable def zbc : List D → R D := fnM 1 5 zfQ
theorem zk6 (a0 : D) : zbc [a0] = fin (zfQ [some a0, none, none, none, none]) := zaw (b := zfQ) rfl rfl
noncomputable def zdU : DSt → R Out := (zbY (zfr (zaa (zad 2) (zaa (zad 3) (zaa (eOp gSub (eOp zbJ (eOp gIx (zad 0) (eC (.int 0))) (eOp gIx (zad 1) (eC (.int 1)))) (eOp zbJ (eOp gIx (zad 0) (eC (.int 1))) (eOp gIx (zad 1) (eC (.int 0))))) zaf)))))
noncomputable def zdV : DSt → R Out := (zaE (zaC 3 (eOp gSub (eOp zbJ (eOp gIx (zad 0) (eC (.int 2))) (eOp gIx (zad 1) (eC (.int 0)))) (eOp zbJ (eOp gIx (zad 0) (eC (.int 0))) (eOp gIx (zad 1) (eC (.int 2)))))) zdU)
noncomputable def zc5 : DSt → R Out := (zaE (zaC 2 (eOp gSub (eOp zbJ (eOp gIx (zad 0) (eC (.int 1))) (eOp gIx (zad 1) (eC (.int 2)))) (eOp zbJ (eOp gIx (zad 0) (eC (.int 2))) (eOp gIx (zad 1) (eC (.int 1)))))) zdV)
noncomputable def zbL : List D → R D := fnM 2 4 zc5
theorem ze8 (a0 : D) (a1 : D) : zbL [a0, a1] = fin (zc5 [some a0, some a1, none, none]) := zaw (b := zc5) rfl rfl
noncomputable def zfq : DSt → R Out := (zbY (eOp zbR (eOp zbR (eOp zbJ (eOp gIx (zad 3) (eC (.int 0))) (eOp gIx (zad 2) (eC (.int 0)))) (eOp zbJ (eOp gIx (zad 3) (eC (.int 1))) (eOp gIx (zad 2) (eC (.int 1))))) (eOp zbJ (eOp gIx (zad 3) (eC (.int 2))) (eOp gIx (zad 2) (eC (.int 2))))))
noncomputable def zer : DSt → R Out := (zaE (zaC 3 (zah zbL (zaa (zad 0) (zaa (zad 1) zaf)))) zfq)
noncomputable def zb8 : List D → R D := fnM 3 4 zer
theorem zgx (a0 : D) (a1 : D) (a2 : D) : zb8 [a0, a1, a2] = fin (zer [some a0, some a1, some a2, none]) := zaw (b := zer) rfl rfl
noncomputable def zes : DSt → R Out := (zug [3] 3 (eOp gIx (zdf (zhq (zaa (eOp gSub (eOp zfn (zad 5) (eC (.int 7))) (eC (.int 3))) (zaa (eOp gSub (eOp zfn (zad 5) (eC (.int 81))) (eC (.int 40))) (zaa (eOp gSub (eOp zfn (zad 5) (eC (.int 1048576))) (eC (.int 524288))) zaf))))) (eOp gIx (zdf (zhq (zaa (eC (.int 0)) (zaa (eC (.int 0)) (zaa (eC (.int 1)) (zaa (eC (.int 2)) zaf)))))) (eOp zfn (zad 2) (eC (.int 4))))))
noncomputable def zb9 : DSt → R Out := (zaE (zlp [3] 5 (zah zaB (zaa (zad 0) (zaa (eOp zbR (eOp zbR (eOp zbJ (eC (.int 4)) (zad 1)) (eC (.int 1))) (zad 4)) zaf)))) zes)
noncomputable def zet : DSt → R Out := (zbY (zah zbc (zaa (zad 3) zaf)))
noncomputable def zeu : DSt → R Out := (zaE (sIf (zax (eOp gEq (zad 3) (zdf (zhq (zaa (eC (.int 0)) (zaa (eC (.int 0)) (zaa (eC (.int 0)) zaf))))))) (zaE (zwZ [3] 3 (eOp zfn (eOp zf6 (zad 2) (eC (.int 16))) (eC (.int 3))) (eC (.int 1))) za7) za7) zet)
noncomputable def zgy : DSt → R Out := (zaE (sIf (zax (eOp gEq (eOp zfn (eOp zf6 (zad 2) (eC (.int 4))) (eC (.int 4))) (eC (.int 0)))) (zwZ [3] 3 (eC (.int 2)) (eC (.int 0))) za7) zeu)
noncomputable def zgz : DSt → R Out := (zaE (zir [3] [4] zar (zb1 zgk (zaa (eC (.int 3)) zaf)) zb9) zgy)
noncomputable def zgA : DSt → R Out := (zaE (znW [] 3 (zhq zaf)) zgz)
noncomputable def zeV : DSt → R Out := (zaE (zaC 2 (zah zaB (zaa (zad 0) (zaa (eOp zbJ (eC (.int 4)) (zad 1)) zaf)))) zgA)
noncomputable def zaT : List D → R D := fnM 2 6 zeV
theorem zjQ (a0 : D) (a1 : D) : zaT [a0, a1] = fin (zeV [some a0, some a1, none, none, none, none]) := zaw (b := zeV) rfl rfl
noncomputable def zcD : DSt → R Bool := (zax (eOp gNe (zad 3) (eC (.int 0))))
noncomputable def zcE : DSt → R Out := (zuf [] [1, 3] (zea 2) (zfr (zaa (zad 3) (zaa (eOp zfn (zad 1) (zad 3)) zaf))))
noncomputable def zc6 : DSt → R Out := (za8 zcD zcE)
noncomputable def zdy : DSt → R Out := (zaE (zaC 3 (zb0 zrX (zaa (zad 2) zaf))) zc6)
noncomputable def zdZ : DSt → R Out := (zbY (zb0 zku (zaa (zdf (eLC 1 [0] (zgj (zad 0)) zar za1 (eOp zf6 (zad 0) (zad 2)))) zaf)))
noncomputable def zd0 : DSt → R Out := (zaE (sIf (zax (eOp gLt (eOp gIx (zdf (eLC 1 [0] (zgj (zad 0)) zar (zax (eOp gNe (zad 0) (eC (.int 0)))) (zad 0))) (eC (.int 0))) (eC (.int 0)))) (zaC 1 (eOp gSub (eC (.int 0)) (zad 1))) za7) zdZ)
noncomputable def zd1 : DSt → R Out := (zaE (zir [] [2] zar (zgj (zad 0)) zdy) zd0)
noncomputable def zcq : DSt → R Out := (zaE (zaC 1 (eC (.int 0))) zd1)
noncomputable def zaz : List D → R D := fnM 1 4 zcq
theorem zf8 (a0 : D) : zaz [a0] = fin (zcq [some a0, none, none, none]) := zaw (b := zcq) rfl rfl
noncomputable def zev : DSt → R Out := (zug [3] 3 (eOp gIx (zdf (zhq (zaa (eOp gSub (eOp zfn (zad 5) (eC (.int 7))) (eC (.int 3))) (zaa (eOp gSub (eOp zfn (zad 5) (eC (.int 1048576))) (eC (.int 524288))) zaf)))) (zb0 zxr (zaa (eOp gEq (eOp zfn (zad 2) (eC (.int 3))) (eC (.int 2))) zaf))))
noncomputable def zca : DSt → R Out := (zaE (zlp [3] 5 (zah zaB (zaa (zad 0) (zaa (eOp zbR (eOp zbR (eOp zbJ (eC (.int 10)) (zad 1)) (eC (.int 1))) (zad 4)) zaf)))) zev)
noncomputable def zew : DSt → R Out := (zbY (zah zaz (zaa (zad 3) zaf)))
noncomputable def zgB : DSt → R Out := (zaE (sIf (zax (eOp gEq (zah zb8 (zaa (eSl (zad 3) ze1 (zdc (eC (.int 3)))) (zaa (eSl (zad 3) (zdc (eC (.int 3))) (zdc (eC (.int 6)))) (zaa (eSl (zad 3) (zdc (eC (.int 6))) ze1) zaf)))) (eC (.int 0)))) (zaC 3 (zdf (zhq (zaa (eOp zbR (eC (.int 1)) (eOp zfn (zad 2) (eC (.int 5)))) (zaa (eOp gIx (zad 3) (eC (.int 1))) (zaa (eOp gIx (zad 3) (eC (.int 2))) (zaa (eC (.int 0)) (zaa (eC (.int 1)) (zaa (eOp gIx (zad 3) (eC (.int 5))) (zaa (eC (.int 0)) (zaa (eC (.int 0)) (zaa (eC (.int 1)) zaf)))))))))))) za7) zew)
noncomputable def zgC : DSt → R Out := (zaE (zir [3] [4] zar (zb1 zgk (zaa (eC (.int 9)) zaf)) zca) zgB)
noncomputable def zgD : DSt → R Out := (zaE (znW [] 3 (zhq zaf)) zgC)
noncomputable def zeW : DSt → R Out := (zaE (zaC 2 (zah zaB (zaa (zad 0) (zaa (eOp zbJ (eC (.int 10)) (zad 1)) zaf)))) zgD)
noncomputable def zch : List D → R D := fnM 2 6 zeW
theorem zjR (a0 : D) (a1 : D) : zch [a0, a1] = fin (zeW [some a0, some a1, none, none, none, none]) := zaw (b := zeW) rfl rfl
noncomputable def zex : DSt → R Out := (zug [2] 2 (zb0 zuq (zaa (zdf (eLC 1 [0] (zb1 zgk (zaa (eC (.int 3)) zaf)) zar za1 (eOp zbJ (eOp gIx (zad 1) (eOp zbR (eOp zbJ (eC (.int 3)) (zad 4)) (zad 0))) (eOp gIx (zad 2) (zad 0))))) zaf)))
noncomputable def zh2 : DSt → R Out := (zbY (zah zbc (zaa (zad 2) zaf)))
noncomputable def zh3 : DSt → R Out := (zaE (zir [2] [3] zar (zb1 zgk (zaa (eC (.int 3)) zaf)) zex) zh2)
noncomputable def zfR : DSt → R Out := (zaE (znW [] 2 (zhq zaf)) zh3)
noncomputable def zc7 : List D → R D := fnM 2 4 zfR
theorem zk7 (a0 : D) (a1 : D) : zc7 [a0, a1] = fin (zfR [some a0, some a1, none, none]) := zaw (b := zfR) rfl rfl
noncomputable def zcB : DSt → R Out := (zug [2] 2 (zb0 zuq (zaa (zdf (eLC 1 [0] (zb1 zgk (zaa (eC (.int 3)) zaf)) zar za1 (eOp zbJ (eOp gIx (zad 2) (eOp zbR (eOp zbJ (eC (.int 3)) (zad 4)) (zad 0))) (eOp gIx (zad 1) (eOp zbR (eOp zbJ (eC (.int 3)) (zad 0)) (zad 5)))))) zaf)))
noncomputable def zc8 : DSt → R Out := (zir [2] [4] zar (zb1 zgk (zaa (eC (.int 3)) zaf)) zcB)
noncomputable def ze9 : DSt → R Out := (zbY (zah zaz (zaa (zad 2) zaf)))
noncomputable def zfa : DSt → R Out := (zaE (zir [2] [3] zar (zb1 zgk (zaa (eC (.int 3)) zaf)) zc8) ze9)
noncomputable def zdk : DSt → R Out := (zaE (znW [] 2 (zhq zaf)) zfa)
noncomputable def zbT : List D → R D := fnM 2 5 zdk
theorem zh4 (a0 : D) (a1 : D) : zbT [a0, a1] = fin (zdk [some a0, some a1, none, none, none]) := zaw (b := zdk) rfl rfl
noncomputable def zd2 : DSt → R Out := (sIf (zax (eOp gEq (zah zb8 (zaa (eOp gIx (zad 2) (eC (.int 0))) (zaa (eOp gIx (zad 2) (eC (.int 1))) (zaa (eOp gIx (zad 2) (eC (.int 2))) zaf)))) (eC (.int 0)))) (zbY (eC (.bl false))) za7)
noncomputable def zds : DSt → R Out := (zaE (zaC 2 (eOp zbR (eSl (zad 0) ze1 (zdc (zad 1))) (eSl (zad 0) (zdc (eOp zbR (zad 1) (eC (.int 1)))) ze1))) zd2)
noncomputable def zey : DSt → R Out := (zbY (eC (.bl true)))
noncomputable def zcL : DSt → R Out := (zaE (zir [] [1] zar (zb1 zgk (zaa (eC (.int 4)) zaf)) zds) zey)
noncomputable def zaO : List D → R D := fnM 1 3 zcL
theorem zgY (a0 : D) : zaO [a0] = fin (zcL [some a0, none, none]) := zaw (b := zcL) rfl rfl
noncomputable def zez : DSt → R Out := (zuO (zhq (zaa (zfr (zaa (eC (.int 0)) (zaa (eC (.int 0)) (zaa (eC (.int 1)) zaf)))) (zaa (zfr (zaa (eC (.int 1)) (zaa (eC (.int 0)) (zaa (eC (.int 1)) zaf)))) (zaa (zfr (zaa (eC (.int 1)) (zaa (eC (.int 1)) (zaa (eC (.int 1)) zaf)))) (zaa (zfr (zaa (eC (.int 0)) (zaa (eC (.int 1)) (zaa (eC (.int 1)) zaf)))) zaf))))))
noncomputable def zeA : DSt → R Out := (zaE (sIf (zax (zah zaO (zaa (zad 2) zaf))) (zqx 2) za7) zez)
noncomputable def zeB : DSt → R Out := (zaE (znW [] 2 (zhq (zaa (zfr (zaa (eC (.int 1)) (zaa (eC (.int 0)) (zaa (eC (.int 0)) zaf)))) (zaa (zfr (zaa (eC (.int 0)) (zaa (eC (.int 1)) (zaa (eC (.int 0)) zaf)))) (zaa (zfr (zaa (eC (.int 0)) (zaa (eC (.int 0)) (zaa (eC (.int 1)) zaf)))) (zaa (zah zaT (zaa (zad 0) (zaa (zad 1) zaf))) zaf)))))) zeA)
noncomputable def zeC : DSt → R Out := (zaE (sIf (zax (zah zaO (zaa (zad 2) zaf))) (zqx 2) za7) zeB)
noncomputable def zcM : DSt → R Out := (zaE (znW [] 2 (eLC 1 [0] (zb1 zgk (zaa (eC (.int 4)) zaf)) zar za1 (zah zaT (zaa (zad 1) (zaa (eOp zbR (zad 2) (zad 0)) zaf))))) zeC)
noncomputable def zbu : List D → R (List D) := zvc 2 3 zcM
theorem zgZ (a0 : D) (a1 : D) : zbu [a0, a1] = zw8 (zcM [some a0, some a1, none]) := zuN (b := zcM) rfl rfl
noncomputable def zfb : DSt → R Out := (zbY (zah zbc (zaa (zad 4) zaf)))
noncomputable def zfc : DSt → R Out := (zaE (sIf (zax (eOp gEq (zad 4) (zdf (zhq (zaa (eC (.int 0)) (zaa (eC (.int 0)) (zaa (eC (.int 0)) zaf))))))) (zbY (zad 0)) za7) zfb)
noncomputable def zdl : DSt → R Out := (zaE (zlp [] 4 (zdf (eLC 2 [0, 1] (zb1 zqu (zaa (zad 0) (zaa (zad 1) zaf))) (zea 2) za1 (eOp zbR (eOp zbJ (zad 4) (zad 0)) (eOp zbJ (zad 5) (zad 1)))))) zfc)
noncomputable def zbU : List D → R D := fnM 4 5 zdl
theorem zh5 (a0 : D) (a1 : D) (a2 : D) (a3 : D) : zbU [a0, a1, a2, a3] = fin (zdl [some a0, some a1, some a2, some a3, none]) := zaw (b := zdl) rfl rfl
noncomputable def zcb : DSt → R Out := (zlp [5] 7 (zah zbU (zaa (zad 8) (zaa (zad 9) (zaa (eOp gSub (eOp zfn (zah zaB (zaa (zad 1) (zaa (eOp zbR (eC (.int 5)) (eOp zbJ (eC (.int 4)) (zad 6))) zaf))) (eC (.int 7))) (eC (.int 3))) (zaa (eOp gSub (eOp zfn (zah zaB (zaa (zad 1) (zaa (eOp zbR (eC (.int 6)) (eOp zbJ (eC (.int 4)) (zad 6))) zaf))) (eC (.int 7))) (eC (.int 3))) zaf))))))
noncomputable def zcc : DSt → R Out := (zaE (zps 9 (eOp gIx (zad 5) (eOp zfn (zah zaB (zaa (zad 1) (zaa (eOp zbR (eC (.int 4)) (eOp zbJ (eC (.int 4)) (zad 6))) zaf))) (zb0 zfw (zaa (zad 5) zaf))))) zcb)
noncomputable def zbB : DSt → R Out := (zaE (zps 8 (eOp gIx (zad 5) (eOp zfn (zah zaB (zaa (zad 1) (zaa (eOp zbR (eC (.int 3)) (eOp zbJ (eC (.int 4)) (zad 6))) zaf))) (zb0 zfw (zaa (zad 5) zaf))))) zcc)
noncomputable def zaR : DSt → R Out := (sIf (zax (eOp zop (zad 7) (zad 5))) (zug [5] 5 (zad 7)) za7)
noncomputable def zc9 : DSt → R Out := (zaE (sIf (eOr (zax (eOp gLt (zad 3) (eC (.int 2)))) (zxm (zax (eOp gEq (zad 3) (eC (.int 2)))) (zax (eOp gEq (eOp zfn (zad 6) (eC (.int 2))) (eC (.int 0)))))) zbB za7) zaR)
noncomputable def zaP : DSt → R Out := (zaE (zlp [5] 7 (eOp gIx (zad 4) (zad 6))) zc9)
noncomputable def zd3 : DSt → R Out := (zbY (eOp zbR (eSl (zad 5) (zdc (zad 10)) ze1) (eSl (zad 5) ze1 (zdc (zad 10)))))
noncomputable def zd4 : DSt → R Out := (zaE (zaC 10 (eOp zfn (zah zaB (zaa (zad 1) (zaa (eC (.int 2)) zaf))) (zb0 zfw (zaa (zad 5) zaf)))) zd3)
noncomputable def zd5 : DSt → R Out := (zaE (zir [5] [6] zar (zb1 zlC (zaa (eC (.int 4)) (zaa (zad 2) zaf))) zaP) zd4)
noncomputable def zd6 : DSt → R Out := (zaE (znW [] 5 (zqv zbu (zaa (zad 0) (zaa (eC (.int 0)) zaf)))) zd5)
noncomputable def zd7 : DSt → R Out := (zaE (zlp [] 4 (zdf (eLC 1 [0] (zb1 zgk (zaa (eC (.int 12)) zaf)) zar za1 (zah zaT (zaa (zad 1) (zaa (zad 0) zaf)))))) zd6)
noncomputable def zd8 : DSt → R Out := (zaE (zaC 3 (eOp zfn (zah zaB (zaa (zad 1) (zaa (eC (.int 1)) zaf))) (eC (.int 4)))) zd7)
noncomputable def zcr : DSt → R Out := (zaE (zaC 2 (eOp zbR (eC (.int 4)) (eOp zfn (zah zaB (zaa (zad 1) (zaa (eC (.int 0)) zaf))) (eC (.int 9))))) zd8)
noncomputable def zbf : List D → R D := fnM 2 11 zcr
theorem zf9 (a0 : D) (a1 : D) : zbf [a0, a1] = fin (zcr [some a0, some a1, none, none, none, none, none, none, none, none, none]) := zaw (b := zcr) rfl rfl
noncomputable def zgE : DSt → R Out := (sIf (eOr (zax (eOp gNe (eOp gIx (zad 7) (eC (.int 1))) (zah zaz (zaa (eOp gIx (zad 7) (eC (.int 1))) zaf)))) (zax (eOp gNe (zah zgv (zaa (zad 2) (zaa (zdf (znX zkv (zaa (zad 2) zaf))) zaf))) (zfr (zaa (eC (.str "change")) (zaa (zfr (zaa (eC (.int 1)) (zaa (eC (.int 0)) (zaa (eC (.int 0)) (zaa (eC (.int 0)) (zaa (eC (.int 1)) (zaa (eC (.int 0)) (zaa (eC (.int 0)) (zaa (eC (.int 0)) (zaa (eC (.int 1)) zaf)))))))))) zaf)))))) (zbY (eC (.bl false))) za7)
noncomputable def zgF : DSt → R Out := (zaE (sIf (eOr (zax (eOp gNe (eOp gIx (zad 7) (eC (.int 0))) (eC (.str "change")))) (zax (eOp gNe (zah zbT (zaa (zad 3) (zaa (eOp gIx (zad 7) (eC (.int 1))) zaf))) (zfr (zaa (eC (.int 1)) (zaa (eC (.int 0)) (zaa (eC (.int 0)) (zaa (eC (.int 0)) (zaa (eC (.int 1)) (zaa (eC (.int 0)) (zaa (eC (.int 0)) (zaa (eC (.int 0)) (zaa (eC (.int 1)) zaf))))))))))))) (zbY (eC (.bl false))) za7) zgE)
noncomputable def zgG : DSt → R Out := (zaE (zaC 7 (zah zgv (zaa (zad 4) (zaa (zad 2) zaf)))) zgF)
noncomputable def zgH : DSt → R Out := (zaE (sIf (eOr (zmr (zax (zb0 (g2 zg5) (zaa (zad 6) (zaa (eC (.ty "tuple")) zaf))))) (eOr (zax (eOp gNe (zad 6) (zfr (zaa (eC (.str "change")) (zaa (zad 3) zaf))))) (zax (eOp gNe (zad 5) (zdf (zhq (zaa (zad 2) (zaa (zad 4) zaf)))))))) (zbY (eC (.bl false))) za7) zgG)
noncomputable def zgI : DSt → R Out := (zaE (zaC 6 (zah zgv (zaa (eOp gIx (zad 5) (eC (.int 0))) (zaa (eOp gIx (zad 5) (eC (.int 1))) zaf)))) zgH)
noncomputable def zeD : DSt → R Out := (zaE (zaC 5 (zdf (zhq (zaa (zdf (znX zkv (zaa (zad 2) zaf))) (zaa (zdf (znX zkv (zaa (zad 4) zaf))) zaf))))) zgI)
noncomputable def zgJ : DSt → R Out := (zaE (zlp [] 4 (zdf (eLC 1 [0] (zgj (zad 2)) zar za1 (zah zc7 (zaa (zad 4) (zaa (zad 0) zaf)))))) zeD)
noncomputable def zgK : DSt → R Out := (zaE (zaC 3 (zah zch (zaa (zah zaW (zaa (zad 0) (zaa (eOp zbR (eOp zbJ (eC (.int 2)) (zad 1)) (eC (.int 2))) zaf))) (zaa (eC (.int 0)) zaf)))) zgJ)
noncomputable def zdz : DSt → R Out := (zaE (zaC 2 (zah zbf (zaa (zah zaW (zaa (zad 0) (zaa (eOp zbJ (eC (.int 2)) (zad 1)) zaf))) (zaa (zah zaW (zaa (zad 0) (zaa (eOp zbR (eOp zbJ (eC (.int 2)) (zad 1)) (eC (.int 1))) zaf))) zaf)))) zgK)
noncomputable def zh6 : DSt → R Out := (zbY (eC (.bl true)))
noncomputable def zfS : DSt → R Out := (zaE (zir [] [1] zar (zb1 zgk (zaa (zb0 zxq (zaa (eC (.int 1)) (zaa (zb0 zxp (zaa (eC (.int 6)) (zaa (eOp zf6 (zb0 zfw (zaa (zad 0) zaf)) (eC (.int 2))) zaf))) zaf))) zaf)) zdz) zh6)
noncomputable def zfT : List D → R D := fnM 1 8 zfS
theorem zk8 (a0 : D) : zfT [a0] = fin (zfS [some a0, none, none, none, none, none, none, none]) := zaw (b := zfS) rfl rfl
end Mir
end
section
set_option Elab.async false
set_option linter.all false
set_option maxRecDepth 100000
open PySem L2 DL Mir
local macro_rules | `(tactic| walk_at "ev") => `(tactic| simp only [zfx, zpI, zpJ, zpK, zpL, zmx, zkx, zky, zkz, zsH, zeh, zhw, zpM, zsI, zkA, zmy, zkB, ziM, zkC, zmz, zpN, zkD, zmA, zkE, zmB, zkF, zmC, zkG, zmD, zsK, zsL, zsM, zsN, zsO, zsP, zsQ, zsR, zmE, zsS, zsT, zsU, zsV, zsW, zsX, zsY, zmF, zjE, zkH, zmG, zmH, zsZ, zs0, zpP, zwO, zwP, zmI, zpQ, zmJ, zpR, zpS, zpT, zs1, zs2, zmK, zmL, zpU, zs3, zs4, zpV, zwR, zwS, ziN, ziO, zg6, zkI, ziP, ziQ, zmN, zpW, zmO, zkJ, zmP, zkK, zhx, zmQ, zpX, zmR, zmS, zpY, zmT, zpZ, zp1, zp2, zp3, zmU, zp4, ziR, zmV, zhz, zmW, zp5, zmX, zs7, zs8, zp6, zp7, zp8, zs9, zta, ztb, ztc, ztd, zte, ztf, ztg, zth, zti, ztj, ztk, ztl, zp9, zqa, zm0, zlK, zm1, zm2, zm3, zm4, zm5, zm6, ztm, zqb, zqc, zqd, zqe, zqf, eq_self, decide_true, decide_false, Int.reduceEq, Int.reduceLT, Int.reduceLE, Int.reduceNeg, Int.reduceToNat, ztn, zqg, zqh, zto, zhA, zgn, zhB, ziS, zhC, zhD, zhE, zhF, zm7, zkP, zm8, zm9, zqi, zqj, zna, zqk, zco, zfy, zjH, znb, znc, znd, zkQ, zql, zjv, mask, zgU, List.contains_cons, List.contains_nil, Bool.or_false, Bool.false_or, Bool.true_or, Bool.or_true, Nat.reduceBEq, Nat.reduceAdd, Nat.zero_add, cond_true, cond_false, List.set_cons_zero, List.set_cons_succ, Bool.not_true, Bool.not_false, Bool.not_not, Bool.true_and, Bool.false_and, Bool.and_true, Bool.and_false])
local macro_rules | `(tactic| walk_at "side") => `(tactic| first | assumption | decide | omega | (refine zuA ?_ ?_ <;> omega) | (refine zuB ?_ ?_ ?_ <;> omega) | (refine zcv ?_ ?_ <;> omega) | (simp only [List.length_cons, List.length_nil, List.length_append, List.length_map]; omega))
local macro_rules | `(tactic| walk_at "evd") => `(tactic| simp (disch := walk_at "side") only [zfx, zpI, zpJ, zpK, zpL, zmx, zkx, zky, zkz, zsH, zeh, zhw, zpM, zsI, zkA, zmy, zkB, ziM, zkC, zmz, zpN, zkD, zmA, zkE, zmB, zkF, zmC, zkG, zmD, zsK, zsL, zsM, zsN, zsO, zsP, zsQ, zsR, zmE, zsS, zsT, zsU, zsV, zsW, zsX, zsY, zmF, zjE, zkH, zmG, zmH, zsZ, zs0, zpP, zwO, zwP, zmI, zpQ, zmJ, zpR, zpS, zpT, zs1, zs2, zmK, zmL, zpU, zs3, zs4, zpV, zwR, zwS, ziN, ziO, zg6, zkI, ziP, ziQ, zmN, zpW, zmO, zkJ, zmP, zkK, zhx, zmQ, zpX, zmR, zmS, zpY, zmT, zpZ, zp1, zp2, zp3, zmU, zp4, ziR, zmV, zhz, zmW, zp5, zmX, zs7, zs8, zp6, zp7, zp8, zs9, zta, ztb, ztc, ztd, zte, ztf, ztg, zth, zti, ztj, ztk, ztl, zp9, zqa, zm0, zlK, zm1, zm2, zm3, zm4, zm5, zm6, ztm, zqb, zqc, zqd, zqe, zqf, eq_self, decide_true, decide_false, Int.reduceEq, Int.reduceLT, Int.reduceLE, Int.reduceNeg, Int.reduceToNat, ztn, zqg, zqh, zto, zhA, zgn, zhB, ziS, zhC, zhD, zhE, zhF, zm7, zkP, zm8, zm9, zqi, zqj, zna, zqk, zco, zfy, zjH, znb, znc, znd, zkQ, zql, zjv, mask, zgU, List.contains_cons, List.contains_nil, Bool.or_false, Bool.false_or, Bool.true_or, Bool.or_true, Nat.reduceBEq, Nat.reduceAdd, Nat.zero_add, cond_true, cond_false, List.set_cons_zero, List.set_cons_succ, Bool.not_true, Bool.not_false, Bool.not_not, Bool.true_and, Bool.false_and, Bool.and_true, Bool.and_false, zan, zkL, zb4, zuD, zuE, zkO, zfo, zf7, zr5, zjF, zhy])
namespace LmP
open Mth
theorem zxw {n : Nat} {i : Int} (h : B n i) : i.natAbs ≤ 2 ^ n - 1 := by unfold B at h; omega
theorem znw {n : Nat} {x y z : Int} (hx : B n x) (hy : B n y) (hz : B n z) (h : NZ x y z) (hn : n ≤ 9000) : zpy (zeb x y z) = true := by
 refine zlH (n := n) ?_ (zcY h).ne hn
 have := zt1 (zxw hx) (zxw hy) (zxw hz)
 have p : 0 < 2 ^ n := Nat.pow_pos (by decide)
 unfold B; omega
theorem zga (a b : Int) : zbm [.int a, .int b] = .ok (.int ((Nat.gcd a.natAbs b.natAbs : Nat) : Int)) := by
 rw [zkV]
 unfold zfB zhJ zhI zhH
 walk_at "ev"
 have loop : ∀ (n m : Nat) (z : Option D), ∃ z', za8 zdh zek [some (.int (m : Int)), some (.int (n : Int)), z] = .ok (.nx [some (.int ((Nat.gcd m n : Nat) : Int)), some (.int 0), z']) := by
  intro n
  induction n using Nat.strongRecOn with
  | _ n ih =>
   intro m z
   by_cases hn : n = 0
   ·subst hn
    refine ⟨z, ?_⟩
    rw [znf (by unfold zdh; walk_at "ev"; rfl), Nat.gcd_zero_right]; rfl
   ·have hlt : m % n < n := Nat.mod_lt _ (by omega)
    obtain ⟨z', h⟩ := ih (m % n) hlt n (some (.int ((m % n : Nat) : Int)))
    refine ⟨z', ?_⟩
    rw [zne (σ' := [some (.int (n : Int)), some (.int ((m % n : Nat) : Int)), some (.int ((m % n : Nat) : Int))]) ?_ ?_, h, Mth.gcd_step]
    ·unfold zdh; walk_at "ev"
     simp [hn]
    ·unfold zek ze5 ze4; walk_at "ev"
     rw [zb4 _ _ (by omega)]
     walk_at "ev"
     rfl
 obtain ⟨z', h⟩ := loop b.natAbs a.natAbs none
 rw [h]
 walk_at "ev"
theorem zn4 (i : Int) : zcO [.int i] = .ok (.bl true) := by
 rw [zjL]; unfold zeQ; walk_at "ev"
theorem zw9 (x y z : Int) : (!decide (x = 0 ∧ y = 0 ∧ z = 0)) = decide (NZ x y z) := by
 unfold NZ; by_cases h : x = 0 ∧ y = 0 ∧ z = 0 <;> simp [h]
theorem zfU (x y z : Int) : zaU [t3 x y z] = .ok (.bl (decide (NZ x y z))) := by
 rw [zgV]; unfold zcI; walk_at "ev"
 rw [zqm (g := fun _ => .bl true) (by simp) (fun d hd => ?_)]
 ·walk_at "ev"
  rw [show zur [.lst ([D.int x, D.int y, D.int z].map fun _ => D.bl true)] = .ok (.bl true) from rfl]
  walk_at "ev"
  rw [zw9]
 ·simp only [List.mem_cons, List.not_mem_nil, or_false] at hd
  rcases hd with rfl | rfl | rfl <;> (walk_at "ev"; exact zn4 _)
theorem zqF (x y z : Int) (h : NZ x y z) (σ : DSt) : opK gIx (zpO (lcK 1 [0] (.ok [.int x, .int y, .int z]) zar (zax (eOp gNe (zad 0) (eC (.int 0)))) (zad 0) σ)) (.ok (.int (-1))) = .ok (.int (zaH x y z)) := by
 rw [zc0 (p := fun d => !eqD d (.int 0)) (g := id) (by simp) (fun d hd => ?_) (fun d hd _ => ?_)]
 ·walk_at "ev"
  unfold zaH
  by_cases hz : z = 0
  ·by_cases hy : y = 0
   ·have hx : x ≠ 0 := fun e => h ⟨e, hy, hz⟩
    subst hz; subst hy
    simp only [List.filter_cons, List.filter_nil, zdY, hx, decide_false, decide_true, Bool.not_false, Bool.not_true, if_true, Bool.false_eq_true, if_false, List.map_cons, List.map_nil, id, ne_eq, not_true_eq_false]
    rfl
   ·subst hz
    by_cases hx : x = 0
    ·subst hx
     simp only [List.filter_cons, List.filter_nil, zdY, hy, decide_false, decide_true, Bool.not_false, Bool.not_true, if_true, Bool.false_eq_true, if_false, List.map_cons, List.map_nil, id, ne_eq, not_true_eq_false, not_false_eq_true]
     rfl
    ·simp only [List.filter_cons, List.filter_nil, zdY, hx, hy, decide_false, decide_true, Bool.not_false, Bool.not_true, if_true, Bool.false_eq_true, if_false, List.map_cons, List.map_nil, id, ne_eq, not_true_eq_false, not_false_eq_true]
     rfl
  ·have e : List.map id (List.filter (fun d => !eqD d (.int 0)) [.int x, .int y, .int z]) = List.map id (List.filter (fun d => !eqD d (.int 0)) [.int x, .int y]) ++ [D.int z] := by
    rw [show ([.int x, .int y, .int z] : List D) = [.int x, .int y] ++ [.int z] from rfl, List.filter_append, List.map_append]
    congr 1
    simp [zdY, hz]
   rw [e, zr6]
   simp [hz]
 ·simp only [List.mem_cons, List.not_mem_nil, or_false] at hd
  rcases hd with rfl | rfl | rfl <;> (walk_at "ev"; rw [zdY])
 ·simp only [List.mem_cons, List.not_mem_nil, or_false] at hd
  rcases hd with rfl | rfl | rfl <;> (walk_at "ev"; rfl)
noncomputable abbrev zyK (x y z : Int) : D := t3 (x.fdiv (zeb x y z)) (y.fdiv (zeb x y z)) (z.fdiv (zeb x y z))
theorem zi5 (x y z : Int) : (zaH x y z < 0 ∧ zeb x y z = -((g3 x y z : Nat) : Int)) ∨ (¬ zaH x y z < 0 ∧ zeb x y z = ((g3 x y z : Nat) : Int)) := by
 unfold zeb
 by_cases h : zaH x y z < 0
 ·left; rw [if_pos h]; exact ⟨h, by omega⟩
 ·right; rw [if_neg h]; exact ⟨h, rfl⟩
theorem zh7 {n : Nat} {x y z : Int} (hx : B n x) (hy : B n y) (hz : B n z) (h : NZ x y z) (hn : n ≤ 9000) : zbn [t3 x y z] = .ok (zyK x y z) := by
 have hd := znw hx hy hz h hn
 rw [zkW]; unfold zfC zhM zhL zhK; walk_at "ev"
 rw [zga]; walk_at "ev"
 rw [zga]; walk_at "ev"
 rw [zqF x y z h]; walk_at "ev"
 rw [Int.natAbs_natCast]
 rcases zi5 x y z with ⟨hl, hs⟩ | ⟨hl, hs⟩
 ·rw [decide_eq_true hl]; walk_at "ev"
  rw [show -(((Nat.gcd (Nat.gcd x.natAbs y.natAbs) z.natAbs : Nat)) : Int) = zeb x y z from hs.symm, zdN _ _ hd, zdN _ _ hd, zdN _ _ hd]
  walk_at "ev"
 ·rw [decide_eq_false hl]; walk_at "ev"
  rw [show (((Nat.gcd (Nat.gcd x.natAbs y.natAbs) z.natAbs : Nat)) : Int) = zeb x y z from hs.symm, zdN _ _ hd, zdN _ _ hd, zdN _ _ hd]
  walk_at "ev"
theorem zn5 {n : Nat} {x y z : Int} (hx : B n x) (hy : B n y) (hz : B n z) (h : NZ x y z) (hn : n ≤ 9000) : zce [t3 x y z] = .ok (.bl (decide (x.fdiv (zeb x y z) = x ∧ y.fdiv (zeb x y z) = y ∧ z.fdiv (zeb x y z) = z))) := by
 rw [zjM]; unfold zeR zgp zgo; walk_at "ev"
 rw [zfU, decide_eq_true h]; walk_at "ev"
 rw [zh7 hx hy hz h hn]; walk_at "ev"
theorem zn6 {n : Nat} {x y z : Int} (hx : B n x) (hy : B n y) (hz : B n z) (h : NZ x y z) (hn : n ≤ 9000) : zcP [.int x, .int y, .int z] = .ok (zyK x y z) := by
 rw [zjN]; unfold zeS zgr zgq; walk_at "ev"
 rw [zfU, decide_eq_true h]; walk_at "ev"
 rw [zh7 hx hy hz h hn]; walk_at "ev"
end LmP
set_option Elab.async false
set_option linter.all false
set_option maxRecDepth 100000
open PySem L2 DL Mir
namespace LmA
open Mth LmP
theorem zdA {i j : Int} (h : 0 < j) : 0 ≤ i % j ∧ i % j < j := ⟨Int.emod_nonneg _ (by omega), Int.emod_lt_of_pos _ h⟩
end LmA
set_option Elab.async false
set_option linter.all false
set_option maxRecDepth 100000
open PySem L2 DL Mir
namespace LmD
open Mth LmP LmA
noncomputable abbrev ptD (p : P3) : D := t3 p.1 p.2.1 p.2.2
structure BP (n : Nat) (p : P3) : Prop where
 x : B n p.1
 y : B n p.2.1
 z : B n p.2.2
theorem BP.mono {m n : Nat} {p : P3} (h : BP m p) (hn : m ≤ n) : BP n p := ⟨h.x.mono hn, h.y.mono hn, h.z.mono hn⟩
theorem BP.crs {m n : Nat} {p q : P3} (hp : BP m p) (hq : BP n q) : BP (m + n + 1) (Mth.crs p q) :=
 ⟨((hp.y.mul hq.z).sub (hp.z.mul hq.y)).mono (by omega), ((hp.z.mul hq.x).sub (hp.x.mul hq.z)).mono (by omega), ((hp.x.mul hq.y).sub (hp.y.mul hq.x)).mono (by omega)⟩
theorem BP.dot {m n : Nat} {p q : P3} (hp : BP m p) (hq : BP n q) : B (m + n + 2) (Mth.dot p q) :=
 (((hp.x.mul hq.x).add (hp.y.mul hq.y)).add (hp.z.mul hq.z)).mono (by omega)
theorem BP.low {n : Nat} {p : P3} (h : BP n p) (hz : Nz p) : BP n (Mth.low p) := by
 obtain ⟨a, b, c⟩ := zt2 hz
 exact ⟨Nat.lt_of_le_of_lt a h.x, Nat.lt_of_le_of_lt b h.y, Nat.lt_of_le_of_lt c h.z⟩
theorem zai {n : Nat} {i : Int} (h : B n i) (hn : n ≤ 10000) : zlG i = true := zpx h (by omega)
theorem eqP (p q : P3) : (p.1 = q.1 ∧ p.2.1 = q.2.1 ∧ p.2.2 = q.2.2) ↔ p = q := ⟨fun ⟨a, b, c⟩ => Prod.ext a (Prod.ext b c), fun h => by subst h; exact ⟨rfl, rfl, rfl⟩⟩
theorem ztt (p q : P3) : eqD (ptD p) (ptD q) = decide (p = q) := by
 rw [zkN, decide_eq_decide.mpr (eqP p q)]
theorem zse (d : D) (ds : List D) : gIx (.lst (d :: ds)) (.int 0) = .ok d := zjG (j := 0) rfl
theorem zgL {m n : Nat} {p q : P3} (hp : BP m p) (hq : BP n q) (hm : m ≤ 10000) (hn : n ≤ 10000) : zfD [ptD p, ptD q] = .ok (.int (dot p q)) := by
 rw [zsb]; unfold zsa; walk_at "ev"
 rw [zan _ _ (zai hp.x hm) (zai hq.x hn), zan _ _ (zai hp.y hm) (zai hq.y hn), zan _ _ (zai hp.z hm) (zai hq.z hn)]; walk_at "ev"
 rfl
theorem zfV {m n : Nat} {p q : P3} (hp : BP m p) (hq : BP n q) (hm : m ≤ 10000) (hn : n ≤ 10000) : zcz [ptD p, ptD q] = .ok (ptD (crs p q)) := by
 rw [zn2]; unfold zjO zk0 zkZ zkY; walk_at "ev"
 rw [zan _ _ (zai hp.y hm) (zai hq.z hn), zan _ _ (zai hp.z hm) (zai hq.y hn)]; walk_at "ev"
 rw [zan _ _ (zai hp.z hm) (zai hq.x hn), zan _ _ (zai hp.x hm) (zai hq.z hn)]; walk_at "ev"
 rw [zan _ _ (zai hp.x hm) (zai hq.y hn), zan _ _ (zai hp.y hm) (zai hq.x hn)]; walk_at "ev"
 rfl
noncomputable abbrev zaA (m : M3) : D := .tup ((za6 m).map .int)
structure BM (n : Nat) (m : M3) : Prop where
 a : BP n m.1
 b : BP n m.2.1
 c : BP n m.2.2
theorem BM.mono {k n : Nat} {m : M3} (h : BM k m) (hn : k ≤ n) : BM n m := ⟨h.a.mono hn, h.b.mono hn, h.c.mono hn⟩
theorem BM.cof {n : Nat} {m : M3} (h : BM n m) : BM (n + n + 1) (Mth.cof m) := ⟨h.b.crs h.c, h.c.crs h.a, h.a.crs h.b⟩
theorem BM.mul {k n : Nat} {m : M3} {p : P3} (h : BM k m) (hp : BP n p) : BP (k + n + 2) (Mth.mul m p) := ⟨h.a.dot hp, h.b.dot hp, h.c.dot hp⟩
theorem BM.all {n : Nat} {m : M3} (h : BM n m) : ∀ i ∈ za6 m, B n i := by
 intro i hi
 simp only [za6, List.mem_cons, List.not_mem_nil, or_false] at hi
 rcases hi with rfl | rfl | rfl | rfl | rfl | rfl | rfl | rfl | rfl
 ·exact h.a.x
 ·exact h.a.y
 ·exact h.a.z
 ·exact h.b.x
 ·exact h.b.y
 ·exact h.b.z
 ·exact h.c.x
 ·exact h.c.y
 ·exact h.c.z
theorem BM.of {n : Nat} {m : M3} (h : ∀ i ∈ za6 m, B n i) : BM n m := by
 simp only [za6, List.mem_cons, List.not_mem_nil, or_false, forall_eq_or_imp, forall_eq] at h
 obtain ⟨h1, h2, h3, h4, h5, h6, h7, h8, h9⟩ := h
 exact ⟨⟨h1, h2, h3⟩, ⟨h4, h5, h6⟩, ⟨h7, h8, h9⟩⟩
theorem BM.low {n : Nat} {m : M3} (h : BM n m) (hz : NzM m) : BM n (zbz m) := BM.of fun i hi => by
 rw [zg1] at hi
 obtain ⟨j, hj, rfl⟩ := List.mem_map.mp hi
 exact Nat.lt_of_le_of_lt (zrE hz hj) (h.all j hj)
theorem zcN (m : M3) : zaK [zaA m] = .ok (.lst [ptD m.1, ptD m.2.1, ptD m.2.2]) := by
 rw [zhP]; rfl
theorem zk9 {n : Nat} {m : M3} (h : BM n m) (hn : n ≤ 10000) : zcf [.lst [ptD m.1, ptD m.2.1, ptD m.2.2]] = .ok (.lst [ptD (cof m).1, ptD (cof m).2.1, ptD (cof m).2.2]) := by
 rw [ziv]; unfold zdR; walk_at "ev"
 rw [zfV h.b h.c hn hn, zfV h.c h.a hn hn, zfV h.a h.b hn hn]; walk_at "ev"
 rfl
theorem zqG {k n : Nat} {m : M3} {p : P3} (h : BM k m) (hp : BP n p) (hk : k + n ≤ 8000) (hz : Nz (mul m p)) : zeU [.lst [ptD m.1, ptD m.2.1, ptD m.2.2], ptD p] = .ok (ptD (low (mul m p))) := by
 have b := h.mul hp
 rw [zlS]; unfold zha; walk_at "ev"
 rw [zgL h.a hp (by omega) (by omega), zgL h.b hp (by omega) (by omega), zgL h.c hp (by omega) (by omega)]; walk_at "ev"
 rw [show ([D.int (dot m.1 p), D.int (dot m.2.1 p), D.int (dot m.2.2 p)] : List D) = [D.int (mul m p).1, D.int (mul m p).2.1, D.int (mul m p).2.2] from rfl, zn6 b.x b.y b.z hz (by omega)]; walk_at "ev"
 rfl
theorem zxa {k n : Nat} {m : M3} {p : P3} (h : BM k m) (hp : BP n p) (hk : k + n ≤ 8000) (hz : Nz (mul m p)) : zn3 [zaA m, ptD p] = .ok (ptD (low (mul m p))) := by
 rw [zsd]; unfold zsc; walk_at "ev"
 rw [zcN]; walk_at "ev"
 rw [zqG h hp hk hz]; walk_at "ev"
theorem zqH (n m : Nat) (s a : Option D) (zbs : DSt) : za8 (zax (eOp gNe (zad 3) (eC (.int 0)))) (zuf [] [1, 3] (zea 2) (zfr (zaa (zad 3) (zaa (eOp zfn (zad 1) (zad 3)) zaf)))) (s :: some (.int (m : Int)) :: a :: some (.int (n : Int)) :: zbs) = .ok (.nx (s :: some (.int ((Nat.gcd m n : Nat) : Int)) :: a :: some (.int 0) :: zbs)) := by
 induction n using Nat.strongRecOn generalizing m with
 | _ n ih =>
  by_cases hn : n = 0
  ·subst hn
   rw [znf (by walk_at "ev"; rfl), Nat.gcd_zero_right]; rfl
  ·have hlt : m % n < n := Nat.mod_lt _ (by omega)
   have h := ih (m % n) hlt n
   rw [zne (σ' := s :: some (.int (n : Int)) :: a :: some (.int ((m % n : Nat) : Int)) :: zbs) ?_ ?_, h, Mth.gcd_step]
   ·walk_at "ev"
    rw [decide_eq_false (by omega)]; rfl
   ·walk_at "ev"
    rw [zb4 _ _ (by omega)]
    walk_at "ev"
    rfl
theorem zqI : ∀ (ns : List Int) (g : Nat) (s a r : Option D) (zbs : DSt), ∃ a' r', zis [2] zar (zaE (zaC 3 (zb0 zrX (zaa (zad 2) zaf))) (za8 (zax (eOp gNe (zad 3) (eC (.int 0)))) (zuf [] [1, 3] (zea 2) (zfr (zaa (zad 3) (zaa (eOp zfn (zad 1) (zad 3)) zaf)))))) (ns.map .int) (s :: some (.int (g : Int)) :: a :: r :: zbs) = .ok (.nx (s :: some (.int ((ns.foldl (fun g n => Nat.gcd g n.natAbs) g : Nat) : Int)) :: a' :: r' :: zbs))
 | [], g, s, a, r, zbs => ⟨a, r, rfl⟩
 | n :: ns, g, s, a, r, zbs => by
  obtain ⟨a', r', h⟩ := zqI ns (Nat.gcd g n.natAbs) s (some (.int n)) (some (.int 0)) zbs
  refine ⟨a', r', ?_⟩
  rw [List.map_cons, zco]; walk_at "ev"
  rw [zqH]; walk_at "ev"
  exact h
theorem znx (ns : List Int) (s a r : Option D) (zbs : DSt) : ∃ a' r', zis [2] zar (zaE (zaC 3 (zb0 zrX (zaa (zad 2) zaf))) (za8 (zax (eOp gNe (zad 3) (eC (.int 0)))) (zuf [] [1, 3] (zea 2) (zfr (zaa (zad 3) (zaa (eOp zfn (zad 1) (zad 3)) zaf)))))) (ns.map .int) (s :: some (.int 0) :: a :: r :: zbs) = .ok (.nx (s :: some (.int ((ns.foldl (fun g n => Nat.gcd g n.natAbs) 0 : Nat) : Int)) :: a' :: r' :: zbs)) := zqI ns 0 s a r zbs
theorem zjS : ∀ {ns : List Int}, zaI ns ≠ 0 → gIx (.lst (((ns.map D.int).filter fun d => !eqD d (.int 0)).map id)) (.int 0) = .ok (.int (zaI ns))
 | [], h => absurd rfl h
 | n :: ns, h => by
  unfold zaI at h ⊢
  rw [List.map_cons, List.filter_cons, zdY]
  by_cases e : n = 0
  ·rw [if_pos e] at h ⊢
   rw [decide_eq_true e]
   exact zjS h
  ·rw [if_neg e, decide_eq_false e]
   exact zse _ _
theorem zgb {ns : List Int} {s : Int} {σ : DSt} (hl : ns.length ≤ 1000) (h : zpy s = true) {j : Nat} (hj : zad j σ = .ok (.int s)) : lcK 1 [0] (.ok (ns.map D.int)) zar za1 (eOp zf6 (zad 0) (zad (j + 1))) σ = .ok ((ns.map fun n => n.fdiv s).map .int) := by
 rw [zqm (g := fun d => match d with | .int n => .int (n.fdiv s) | d => d) (by rw [List.length_map]; omega) (fun d hd => ?_)]
 ·rw [List.map_map, List.map_map]; rfl
 ·obtain ⟨n, _, rfl⟩ := List.mem_map.mp hd
  walk_at "ev"
  rw [hj]; walk_at "ev"
  exact zdN _ _ h
theorem zqJ {k n : Nat} {ns : List Int} (hb : ∀ i ∈ ns, B n i) (h : zaI ns ≠ 0) (hn : n ≤ 9000) : zpy (zdH ns) = true := by
 refine zlH (n := n) ?_ (zcy h) hn
 have := zt6 (ns := ns) (k := 2 ^ n - 1) fun i hi => zxw (hb i hi)
 have p : 0 < 2 ^ n := Nat.pow_pos (by decide)
 unfold B; omega
theorem zqK {n : Nat} {s : D} {x y z : Int} (hs : zpl s = .ok [.int x, .int y, .int z]) (hx : B n x) (hy : B n y) (hz : B n z) (h : NZ x y z) (hn : n ≤ 9000) : zbc [s] = .ok (zyK x y z) := by
 have hd := znw hx hy hz h hn
 have sq : znY (.ok s) = .ok ([x, y, z].map D.int) := hs
 rw [zk6]; unfold zfQ zh1 zgw ze7 zep zeq; walk_at "ev"
 rw [sq]; walk_at "ev"
 obtain ⟨a', r', e⟩ := znx [x, y, z] (some s) none none [none]
 rw [e]; walk_at "ev"
 simp only [List.foldl_cons, List.foldl_nil, Nat.gcd_zero_left]
 unfold zh0 zhZ zhY; walk_at "ev"
 rw [sq]
 have l := zqF x y z h [some s, some (.int (((x.natAbs.gcd y.natAbs).gcd z.natAbs : Nat) : Int)), a', r', none]
 have hc : ∀ (σ : DSt), ∀ d ∈ [D.int x, D.int y, D.int z], zax (eOp gNe (zad 0) (eC (.int 0))) (some d :: σ) = .ok (!eqD d (.int 0)) := by
  intro σ d hd
  simp only [List.mem_cons, List.not_mem_nil, or_false] at hd
  rcases hd with rfl | rfl | rfl <;> (walk_at "ev"; rw [zdY])
 rw [zc0 (p := fun d => !eqD d (.int 0)) (g := id) (by simp) (hc _) (fun d hd _ => rfl), zjE, zhw] at l
 rw [show ([x, y, z].map D.int) = [.int x, .int y, .int z] from rfl, zc0 (p := fun d => !eqD d (.int 0)) (g := id) (by simp) (hc _) (fun d hd _ => rfl)]
 walk_at "ev"
 rw [l]; walk_at "ev"
 rcases zi5 x y z with ⟨hl, hs'⟩ | ⟨hl, hs'⟩
 ·rw [decide_eq_true hl]; walk_at "ev"
  rw [show 0 - (((Nat.gcd (Nat.gcd x.natAbs y.natAbs) z.natAbs : Nat)) : Int) = zeb x y z from by rw [hs', Int.zero_sub]; rfl, sq, zgb (j := 1) (by simp) hd rfl]; walk_at "ev"
  rfl
 ·rw [decide_eq_false hl]; walk_at "ev"
  rw [show (((Nat.gcd (Nat.gcd x.natAbs y.natAbs) z.natAbs : Nat)) : Int) = zeb x y z from hs'.symm, sq, zgb (j := 1) (by simp) hd rfl]; walk_at "ev"
  rfl
theorem zh8 {n : Nat} {p : P3} (h : BP n p) (hz : Nz p) (hn : n ≤ 9000) : zbc [l3 p.1 p.2.1 p.2.2] = .ok (ptD (low p)) := zqK rfl h.x h.y h.z hz hn
theorem zfd {n : Nat} {s : D} {m : M3} (hs : zpl s = .ok ((za6 m).map .int)) (h : BM n m) (hz : NzM m) (hn : n ≤ 9000) : zaz [s] = .ok (zaA (zbz m)) := by
 have hd := zqJ (k := 0) h.all hz hn
 have sq : znY (.ok s) = .ok ((za6 m).map D.int) := hs
 rw [zf8]; unfold zcq zd1 zdy zc6 zcD zcE; walk_at "ev"
 rw [sq]; walk_at "ev"
 obtain ⟨a', r', e⟩ := znx (za6 m) (some s) none none []
 rw [e]; walk_at "ev"
 unfold zd0 zdZ; walk_at "ev"
 rw [sq, zc0 (p := fun d => !eqD d (.int 0)) (g := id) (by rw [List.length_map]; exact (by decide : 9 ≤ 1000000)) (fun d hd => ?_) (fun d hd _ => rfl)]
 ·walk_at "ev"
  rw [zjS hz]; walk_at "ev"
  have hs : zdH (za6 m) = if zaI (za6 m) < 0 then -((zoZ (za6 m) : Nat) : Int) else ((zoZ (za6 m) : Nat) : Int) := rfl
  by_cases hf : zaI (za6 m) < 0
  ·rw [if_pos hf] at hs
   rw [decide_eq_true hf]; walk_at "ev"
   rw [show (0 : Int) - (((za6 m).foldl (fun g n => Nat.gcd g n.natAbs) 0 : Nat) : Int) = zdH (za6 m) from by rw [hs, Int.zero_sub]; rfl, sq, zgb (j := 1) (show (za6 m).length ≤ 1000 from (by decide : 9 ≤ 1000)) hd rfl]; walk_at "ev"
   rfl
  ·rw [if_neg hf] at hs
   rw [decide_eq_false hf]; walk_at "ev"
   rw [show (((za6 m).foldl (fun g n => Nat.gcd g n.natAbs) 0 : Nat) : Int) = zdH (za6 m) from hs.symm, sq, zgb (j := 1) (show (za6 m).length ≤ 1000 from (by decide : 9 ≤ 1000)) hd rfl]; walk_at "ev"
   rfl
 ·obtain ⟨i, _, rfl⟩ := List.mem_map.mp hd
  walk_at "ev"; rw [zdY]
theorem zeE {n : Nat} {m : M3} (h : BM n m) (hz : NzM m) (hn : n ≤ 9000) : zaz [.lst ((za6 m).map .int)] = .ok (zaA (zbz m)) := zfd rfl h hz hn
theorem zbV (c k : Int) (h0 : 0 ≤ k) (h1 : k ≤ 1000) : ∃ r, zaB [.int c, .int k] = .ok (.int r) ∧ 0 ≤ r ∧ r < 2147483629 := by
 rw [zk5]; unfold zfP; walk_at "evd"
 by_cases h : (10 : Int) ^ 18 ≤ c
 ·rw [decide_eq_true h]; walk_at "evd"
  have := zdA (i := c / 2 ^ (20 * k).toNat) (j := 1048576) (by decide)
  exact ⟨_, rfl, by omega, by omega⟩
 ·rw [decide_eq_false h]; walk_at "ev"
  have m1 := zdA (i := c) (j := 2147483647) (by decide)
  have kk : 0 ≤ 48271 * k * k ∧ 48271 * k * k ≤ 48271000 * 1000 := ⟨Int.mul_nonneg (by omega) h0, Int.mul_le_mul (by omega) h1 h0 (by decide)⟩
  unfold zhX; walk_at "evd"
  generalize 48271 * k * k = q at kk ⊢
  generalize c % 2147483647 = w at m1 ⊢
  have m2 := zdA (i := (w + q + k + 1) * 69621) (j := 2147483629) (by decide)
  generalize (w + q + k + 1) * 69621 % 2147483629 = u at m2 ⊢
  unfold zhW; walk_at "evd"
  generalize u * u + 7919 * k + 5 = t
  have m3 := zdA (i := t) (j := 2147483587) (by decide)
  generalize t % 2147483587 = v at m3 ⊢
  unfold zhV; walk_at "evd"
  exact ⟨_, rfl, zdA (by decide)⟩
end LmD
set_option Elab.async false
set_option linter.all false
set_option maxRecDepth 100000
open PySem L2 DL Mir
namespace LmB
open Mth LmP LmA LmD
theorem zn7 {n : Nat} {p : P3} (h : BP n p) (hz : Nz p) (hn : n ≤ 9000) : zbn [t3 p.1 p.2.1 p.2.2] = .ok (ptD (low p)) := zh7 h.x h.y h.z hz hn
theorem zn8 {n : Nat} {p q : P3} (hp : BP n p) (hq : BP n q) (hn : n ≤ 4000) (hne : p ≠ q) (hL : Nz (crs p q)) : zaS [ptD p, ptD q] = .ok (ptD (low (crs p q))) := by
 rw [zfp]; unfold zbI zdi; walk_at "ev"
 rw [decide_eq_false (fun h => hne ((eqP p q).mp h))]; walk_at "ev"
 rw [zfV hp hq (by omega) (by omega)]; walk_at "ev"
 rw [zn7 (hp.crs hq) hL (by omega)]; walk_at "ev"
theorem zbv {n : Nat} {p q : P3} (hp : BP n p) (hq : BP n q) (hn : n ≤ 4000) (hne : p ≠ q) (hL : Nz (crs p q)) : zaF [ptD p, ptD q] = .ok (ptD (low (crs p q))) := by
 rw [zhN]; unfold zdj; walk_at "ev"
 rw [zn8 hp hq hn hne hL]; walk_at "ev"
theorem zlU {m n : Nat} {p q : P3} (hp : BP m p) (hq : BP n q) (hm : m ≤ 10000) (hn : n ≤ 10000) : zbb [ptD p, ptD q] = .ok (.bl (decide (dot p q = 0))) := by
 rw [zkX]; unfold zfE; walk_at "ev"
 rw [zgL hp hq hm hn]; walk_at "ev"
theorem zny (bs : List Bool) : zur [.lst (bs.map D.bl)] = .ok (.bl (bs.all id)) := by
 show zwy (.lst (bs.map D.bl)) = _
 simp only [zwy, zkt]
theorem zjT {α : Type} {xs : List α} {f : α → D} {e : DSt → R D} {σ : DSt} {g : α → D} (hl : xs.length ≤ 1000000) (h : ∀ a ∈ xs, e (some (f a) :: σ) = .ok (g a)) : lcK 1 [0] (.ok (xs.map f)) zar za1 e σ = .ok (xs.map g) := by
 have go : ∀ xs : List α, (∀ a ∈ xs, e (some (f a) :: σ) = .ok (g a)) → lcD [0] zar za1 e (List.replicate 1 none ++ σ) (xs.map f) = .ok (xs.map g) := by
  intro xs
  induction xs with
  | nil => intro _; rfl
  | cons d ds ih =>
   intro h
   show (e (some (f d) :: σ)).bind (fun y => (lcD [0] zar za1 e (List.replicate 1 none ++ σ) (ds.map f)).bind fun ys => .ok (y :: ys)) = _
   rw [h d List.mem_cons_self, ih fun d' hd => h d' (List.mem_cons_of_mem _ hd)]; rfl
 show (bif most (xs.map f).length then _ else _) = _
 rw [zlN (by rw [List.length_map]; exact hl), go xs h]; rfl
structure Pts (n : Nat) (ps : List P3) : Prop where
 nrm : ∀ p ∈ ps, Nrm p
 bd : ∀ p ∈ ps, BP n p
theorem zla {n : Nat} {ps : List P3} (h : Pts n ps) (hn : n ≤ 4000) (hl : ps.length ≤ 100000) : ∃ b, za2 [.lst (ps.map ptD)] = .ok (.bl b) ∧ (b = true ↔ Col ps) := by
 rw [ziu]; unfold zdO; walk_at "ev"
 cases ps with
 | nil =>
  refine ⟨true, ?_, fun _ => Col.same (p0 := (0, 0, 0)) (by simp), fun _ => rfl⟩
  rfl
 | cons p0 ps =>
  rw [zc0 (p := fun d => !eqD d (ptD p0)) (g := id) (by rw [List.length_map]; omega) (fun d hd => ?_) (fun d hd _ => ?_)]
  ·rw [List.map_id]
   have hf : ((p0 :: ps).map ptD).filter (fun d => !eqD d (ptD p0)) = ((p0 :: ps).filter fun p => !decide (p = p0)).map ptD := by
    rw [List.filter_map]
    congr 1
    apply List.filter_congr
    intro p _
    exact congrArg _ (ztt p p0)
   rw [hf]; walk_at "ev"
   unfold zfH; walk_at "ev"
   cases ho : (p0 :: ps).filter (fun p => !decide (p = p0)) with
   | nil =>
    refine ⟨true, by rfl, fun _ => Col.same (p0 := p0) fun p hp => ?_, fun _ => rfl⟩
    by_cases e : p = p0
    ·exact e
    ·have : p ∈ (p0 :: ps).filter (fun p => !decide (p = p0)) := List.mem_filter.mpr ⟨hp, by simp [e]⟩
     rw [ho] at this; cases this
   | cons o os =>
    have mo : o ∈ p0 :: ps ∧ o ≠ p0 := by
     have : o ∈ (p0 :: ps).filter (fun p => !decide (p = p0)) := by rw [ho]; exact List.mem_cons_self
     rw [List.mem_filter] at this
     exact ⟨this.1, by simpa using this.2⟩
    have m0 : p0 ∈ p0 :: ps := List.mem_cons_self
    have hL : Nz (crs p0 o) := zbG (h.nrm _ m0) (h.nrm _ mo.1) fun e => mo.2 e.symm
    have hthru := zbv (h.bd _ m0) (h.bd _ mo.1) hn (fun e => mo.2 e.symm) hL
    rw [decide_eq_false (by simp; omega)]; walk_at "ev"
    simp only [List.map_cons]
    unfold zfG; walk_at "ev"
    rw [zse, zse]; walk_at "ev"
    rw [hthru]; walk_at "ev"
    unfold zfF; walk_at "ev"
    have hos : ∀ p ∈ o :: os, p ∈ p0 :: ps := fun p hp => by
     rw [← ho] at hp; exact (List.mem_filter.mp hp).1
    have hle : (o :: os).length ≤ 100000 := by
     rw [← ho]; exact Nat.le_trans (List.length_filter_le _ _) hl
    rw [← List.map_cons (f := ptD), zjT (g := fun p => .bl (decide (dot p (low (crs p0 o)) = 0))) (by omega) (fun p hp => ?_)]
    ·walk_at "ev"
     rw [show (o :: os).map (fun p => D.bl (decide (dot p (low (crs p0 o)) = 0))) = ((o :: os).map fun p => decide (dot p (low (crs p0 o)) = 0)).map D.bl by rw [List.map_map]; rfl, zny]; walk_at "ev"
     refine ⟨_, rfl, ?_⟩
     rw [Col.iff m0 mo.1 hL, List.all_map, List.all_eq_true]
     constructor
     ·intro q p hp
      by_cases e : p = p0
      ·subst e; unfold dot crs; grind
      ·have : p ∈ o :: os := by rw [← ho]; exact List.mem_filter.mpr ⟨hp, by simp [e]⟩
       exact (zjm hL).mp (of_decide_eq_true (q p this))
     ·intro q p hp
      exact decide_eq_true ((zjm hL).mpr (q p (hos p hp)))
    ·walk_at "ev"
     rw [zlU (h.bd _ (hos p hp)) (((h.bd _ m0).crs (h.bd _ mo.1)).low hL) (by omega) (by omega)]
  ·obtain ⟨p, _, rfl⟩ := List.mem_map.mp hd
   walk_at "ev"
   rw [List.map_cons, zse]; walk_at "ev"
   rw [zkN]
  ·rfl
end LmB
set_option Elab.async false
set_option linter.all false
set_option maxRecDepth 100000
open PySem L2 DL Mir
namespace LmE
open Mth LmP LmA LmD
theorem zxb (a b c d e f g h i : D) : zr4 (.ok [a, b, c, d, e, f, g, h, i]) = .ok [a, b, c, d, e, f, g, h, i] := rfl
theorem znz (own : List Nat) (i : Nat) (fk fe : DSt → R D) (σ : DSt) : zwZ own i fk fe σ = zxt i (zdv σ i) (fe (mask own σ)) (fk (mask own σ)) σ := rfl
theorem zqL {i j : Nat} {ds : List D} {d : D} {σ : DSt} (hj : j < ds.length) : zxt i (.ok ds) (.ok d) (.ok (.int (j : Int))) σ = .ok (.nx (σ.set i (some (.lst (ds.set j d))))) := by
 show (match ixN ds.length (j : Int) with | some j => R.ok (Out.nx (σ.set i (some (.lst (ds.set j d))))) | none => .bad) = _
 have : ixN ds.length (j : Int) = some j := by
  unfold ixN; rw [if_pos (by omega), if_pos (by omega)]; rfl
 rw [this]
theorem zlV {m n : Nat} {p q : P3} (hp : BP m p) (hq : BP n q) (hm : m ≤ 10000) (hn : n ≤ 10000) : zbL [ptD p, ptD q] = .ok (ptD (crs p q)) := by
 rw [ze8]; unfold zc5 zdV zdU; walk_at "ev"
 rw [zan _ _ (zai hp.y hm) (zai hq.z hn), zan _ _ (zai hp.z hm) (zai hq.y hn)]; walk_at "ev"
 rw [zan _ _ (zai hp.z hm) (zai hq.x hn), zan _ _ (zai hp.x hm) (zai hq.z hn)]; walk_at "ev"
 rw [zan _ _ (zai hp.x hm) (zai hq.y hn), zan _ _ (zai hp.y hm) (zai hq.x hn)]; walk_at "ev"
 rfl
noncomputable abbrev ptL (p : P3) : D := l3 p.1 p.2.1 p.2.2
theorem zlW {m n : Nat} {p q : P3} (hp : BP m p) (hq : BP n q) (hm : m ≤ 10000) (hn : n ≤ 10000) : zbL [ptL p, ptL q] = .ok (ptD (crs p q)) := by
 rw [ze8]; unfold zc5 zdV zdU; walk_at "ev"
 rw [zan _ _ (zai hp.y hm) (zai hq.z hn), zan _ _ (zai hp.z hm) (zai hq.y hn)]; walk_at "ev"
 rw [zan _ _ (zai hp.z hm) (zai hq.x hn), zan _ _ (zai hp.x hm) (zai hq.z hn)]; walk_at "ev"
 rw [zan _ _ (zai hp.x hm) (zai hq.y hn), zan _ _ (zai hp.y hm) (zai hq.x hn)]; walk_at "ev"
 rfl
theorem zqM {n : Nat} {m : M3} (h : BM n m) (hn : n ≤ 4000) : zb8 [ptL m.1, ptL m.2.1, ptL m.2.2] = .ok (.int (det m)) := by
 have bc := h.a.crs h.b
 rw [zgx]; unfold zer zfq; walk_at "ev"
 rw [zlW h.a h.b (by omega) (by omega)]; walk_at "ev"
 rw [zan _ _ (zai bc.x (by omega)) (zai h.c.x (by omega)), zan _ _ (zai bc.y (by omega)) (zai h.c.y (by omega)), zan _ _ (zai bc.z (by omega)) (zai h.c.z (by omega))]; walk_at "ev"
 rw [show (crs m.1 m.2.1).1 * m.2.2.1 + (crs m.1 m.2.1).2.1 * m.2.2.2.1 + (crs m.1 m.2.1).2.2 * m.2.2.2.2 = det m from by unfold det dot crs; grind]
theorem b20 {i : Int} (h1 : -524288 ≤ i) (h2 : i ≤ 524288) : B 20 i := B.of (k := 524288) (by omega)
theorem zbo (c : Int) (k : Nat) (hk : k ≤ 100) : ∃ p, zaT [.int c, .int (k : Int)] = .ok (ptD p) ∧ Nrm p ∧ BP 20 p := by
 rw [zjQ]; unfold zeV; walk_at "evd"
 obtain ⟨w, ew, w0, w1⟩ := zbV c (4 * (k : Int)) (by omega) (by omega)
 rw [ew]; walk_at "ev"
 unfold zgA; walk_at "ev"
 unfold zgz; walk_at "evd"
 have turn : ∀ (j : Nat) (d : D) (σ : DSt), (zgi 0 3)[j]? = some d → (∃ ns : List Int, ns.length = j ∧ (∀ i ∈ ns, B 20 i) ∧ ∃ a b, σ = [some (.int c), some (.int (k : Int)), some (.int w), some (.lst (ns.map .int)), a, b]) → ∃ σ', (zb9 (σ.set 4 (some d)) = .ok (.nx σ') ∨ zb9 (σ.set 4 (some d)) = .ok (.ct σ')) ∧ ∃ ns : List Int, ns.length = j + 1 ∧ (∀ i ∈ ns, B 20 i) ∧ ∃ a b, σ' = [some (.int c), some (.int (k : Int)), some (.int w), some (.lst (ns.map .int)), a, b] := by
  rintro j d σ hd ⟨ns, hl, hb, a, b, rfl⟩
  have hj : j < 3 := by
   have := (List.getElem?_eq_some_iff.mp hd).1
   simpa [zgi] using this
  obtain rfl : d = .int (j : Int) := by
   unfold zgi at hd
   rw [List.getElem?_map, List.getElem?_range hj] at hd
   simpa using hd.symm
  obtain ⟨r, er, r0, r1⟩ := zbV c (4 * (k : Int) + 1 + (j : Int)) (by omega) (by omega)
  unfold zb9; walk_at "evd"
  rw [er]; walk_at "ev"
  unfold zes; walk_at "evd"
  have f1 := zdA (i := r) (j := 7) (by decide)
  have f2 := zdA (i := r) (j := 81) (by decide)
  have f3 := zdA (i := r) (j := 1048576) (by decide)
  have f4 := zdA (i := w) (j := 4) (by decide)
  obtain ⟨v, ev, bv⟩ : ∃ v : Int, opK gIx (.ok (.lst [.int (r % 7 - 3), .int (r % 81 - 40), .int (r % 1048576 - 524288)])) (gIx (.lst [.int 0, .int 0, .int 1, .int 2]) (.int (w % 4))) = .ok (.int v) ∧ B 20 v := by
   rcases (show w % 4 = 0 ∨ w % 4 = 1 ∨ w % 4 = 2 ∨ w % 4 = 3 by omega) with e | e | e | e <;> rw [e]
   ·exact ⟨_, rfl, b20 (by omega) (by omega)⟩
   ·exact ⟨_, rfl, b20 (by omega) (by omega)⟩
   ·exact ⟨_, rfl, b20 (by omega) (by omega)⟩
   ·exact ⟨_, rfl, b20 (by omega) (by omega)⟩
  rw [ev, zf7 _ _ _ _ (by rw [List.length_map]; omega)]
  refine ⟨_, .inl rfl, ns ++ [v], by simp [hl], fun i hi => ?_, some (.int (j : Int)), some (.int r), ?_⟩
  ·rcases List.mem_append.mp hi with hi | hi
   ·exact hb i hi
   ·rw [List.mem_singleton.mp hi]; exact bv
  ·rw [List.map_append]; rfl
 obtain ⟨σ', e1, ns, hl, hb, a, b, rfl⟩ := zjI (i := 4) (fb := zb9) _ _ turn [some (.int c), some (.int (k : Int)), some (.int w), some (.lst []), none, none] ⟨[], rfl, by simp, _, _, rfl⟩
 rw [e1]; walk_at "ev"
 have hl : ns.length = 3 := hl
 match ns, hl with
 | [x, y, z], _ =>
  have bx := hb x (by simp)
  have bY := hb y (by simp)
  have bz := hb z (by simp)
  have tail : ∀ x y z : Int, B 20 x → B 20 y → B 20 z → ∃ p, fin (zeu [some (.int c), some (.int (k : Int)), some (.int w), some (l3 x y z), a, b]) = .ok (ptD p) ∧ Nrm p ∧ BP 20 p := by
   intro x y z bx bY bz
   have last : ∀ x y z : Int, B 20 x → B 20 y → B 20 z → NZ x y z → ∃ p, fin (zet [some (.int c), some (.int (k : Int)), some (.int w), some (l3 x y z), a, b]) = .ok (ptD p) ∧ Nrm p ∧ BP 20 p := by
    intro x y z bx bY bz hz
    unfold zet; walk_at "ev"
    rw [zh8 (p := (x, y, z)) ⟨bx, bY, bz⟩ hz (by decide)]; walk_at "ev"
    exact ⟨_, rfl, zhj (p := (x, y, z)) hz, BP.low (p := (x, y, z)) ⟨bx, bY, bz⟩ hz⟩
   unfold zeu; walk_at "evd"
   by_cases hz : x = 0 ∧ y = 0 ∧ z = 0
   ·rw [decide_eq_true hz]; walk_at "evd"
    rw [znz]; walk_at "evd"
    have f := zdA (i := w / 16) (j := 3) (by decide)
    obtain ⟨j, hj⟩ : ∃ j : Nat, w / 16 % 3 = (j : Int) := ⟨(w / 16 % 3).toNat, by omega⟩
    have hj3 : j < 3 := by omega
    rw [hj, zqL (by simpa using hj3)]; walk_at "ev"
    obtain ⟨rfl, rfl, rfl⟩ := hz
    have b1 : B 20 1 := B.of (k := 1) (by decide)
    have b0 : B 20 0 := B.of (k := 0) (by decide)
    rcases (show j = 0 ∨ j = 1 ∨ j = 2 by omega) with rfl | rfl | rfl
    ·exact last 1 0 0 b1 b0 b0 (by decide)
    ·exact last 0 1 0 b0 b1 b0 (by decide)
    ·exact last 0 0 1 b0 b0 b1 (by decide)
   ·rw [decide_eq_false hz]; walk_at "ev"
    exact last x y z bx bY bz hz
  unfold zgy; walk_at "evd"
  by_cases hw : w / 4 % 4 = 0
  ·rw [decide_eq_true hw]; walk_at "evd"
   rw [znz]; walk_at "ev"
   rw [show (2 : Int) = ((2 : Nat) : Int) from rfl, zqL (by simp)]; walk_at "ev"
   exact tail x y 0 bx bY (B.of (k := 0) (by decide))
  ·rw [decide_eq_false hw]; walk_at "ev"
   exact tail x y z bx bY bz
theorem zyL (x0 x1 x2 : Option D) (m : M3) (zbs : DSt) : eSl (zad 3) ze1 (zdc (eC (.int 3))) (x0 :: x1 :: x2 :: some (.lst ((za6 m).map .int)) :: zbs) = .ok (ptL m.1) := rfl
theorem zyM (x0 x1 x2 : Option D) (m : M3) (zbs : DSt) : eSl (zad 3) (zdc (eC (.int 3))) (zdc (eC (.int 6))) (x0 :: x1 :: x2 :: some (.lst ((za6 m).map .int)) :: zbs) = .ok (ptL m.2.1) := rfl
theorem zyN (x0 x1 x2 : Option D) (m : M3) (zbs : DSt) : eSl (zad 3) (zdc (eC (.int 6))) ze1 (x0 :: x1 :: x2 :: some (.lst ((za6 m).map .int)) :: zbs) = .ok (ptL m.2.2) := rfl
theorem zlX (c : Int) (k : Nat) (hk : k ≤ 50) : ∃ m, zch [.int c, .int (k : Int)] = .ok (zaA m) ∧ det m ≠ 0 ∧ BM 20 m ∧ zbz m = m := by
 rw [zjR]; unfold zeW; walk_at "evd"
 obtain ⟨w, ew, w0, w1⟩ := zbV c (10 * (k : Int)) (by omega) (by omega)
 rw [ew]; walk_at "ev"
 unfold zgD; walk_at "ev"
 unfold zgC; walk_at "evd"
 have turn : ∀ (j : Nat) (d : D) (σ : DSt), (zgi 0 9)[j]? = some d → (∃ ns : List Int, ns.length = j ∧ (∀ i ∈ ns, B 20 i) ∧ ∃ a b, σ = [some (.int c), some (.int (k : Int)), some (.int w), some (.lst (ns.map .int)), a, b]) → ∃ σ', (zca (σ.set 4 (some d)) = .ok (.nx σ') ∨ zca (σ.set 4 (some d)) = .ok (.ct σ')) ∧ ∃ ns : List Int, ns.length = j + 1 ∧ (∀ i ∈ ns, B 20 i) ∧ ∃ a b, σ' = [some (.int c), some (.int (k : Int)), some (.int w), some (.lst (ns.map .int)), a, b] := by
  rintro j d σ hd ⟨ns, hl, hb, a, b, rfl⟩
  have hj : j < 9 := by
   have := (List.getElem?_eq_some_iff.mp hd).1
   simpa [zgi] using this
  obtain rfl : d = .int (j : Int) := by
   unfold zgi at hd
   rw [List.getElem?_map, List.getElem?_range hj] at hd
   simpa using hd.symm
  obtain ⟨r, er, r0, r1⟩ := zbV c (10 * (k : Int) + 1 + (j : Int)) (by omega) (by omega)
  unfold zca; walk_at "evd"
  rw [er]; walk_at "ev"
  unfold zev; walk_at "evd"
  have f1 := zdA (i := r) (j := 7) (by decide)
  have f3 := zdA (i := r) (j := 1048576) (by decide)
  obtain ⟨v, ev, bv⟩ : ∃ v : Int, gIx (.lst [.int (r % 7 - 3), .int (r % 1048576 - 524288)]) (.int (if decide (w % 3 = 2) = true then 1 else 0)) = .ok (.int v) ∧ B 20 v := by
   by_cases e : w % 3 = 2
   ·rw [decide_eq_true e]; exact ⟨_, rfl, b20 (by omega) (by omega)⟩
   ·rw [decide_eq_false e]; exact ⟨_, rfl, b20 (by omega) (by omega)⟩
  rw [ev, zf7 _ _ _ _ (by rw [List.length_map]; omega)]
  refine ⟨_, .inl rfl, ns ++ [v], by simp [hl], fun i hi => ?_, some (.int (j : Int)), some (.int r), ?_⟩
  ·rcases List.mem_append.mp hi with hi | hi
   ·exact hb i hi
   ·rw [List.mem_singleton.mp hi]; exact bv
  ·rw [List.map_append]; rfl
 obtain ⟨σ', e1, ns, hl, hb, a, b, rfl⟩ := zjI (i := 4) (fb := zca) _ _ turn [some (.int c), some (.int (k : Int)), some (.int w), some (.lst []), none, none] ⟨[], rfl, by simp, _, _, rfl⟩
 rw [e1]; walk_at "ev"
 have hl : ns.length = 9 := hl
 obtain ⟨m, rfl⟩ : ∃ m : M3, ns = za6 m := by
  match ns, hl with
  | [a, b, c, d, e, f, g, h, i], _ => exact ⟨((a, b, c), (d, e, f), (g, h, i)), rfl⟩
 have bm : BM 20 m := BM.of hb
 have last : ∀ m : M3, BM 20 m → det m ≠ 0 → ∃ m', fin (zew [some (.int c), some (.int (k : Int)), some (.int w), some (.lst ((za6 m).map .int)), a, b]) = .ok (zaA m') ∧ det m' ≠ 0 ∧ BM 20 m' ∧ zbz m' = m' := by
  intro m bm hd
  have hz := NzM.of_det hd
  unfold zew; walk_at "ev"
  rw [zeE bm hz (by decide)]; walk_at "ev"
  exact ⟨_, rfl, zo0 hd, bm.low hz, zjp hz⟩
 unfold zgB; walk_at "ev"
 rw [zyL, zyM, zyN]; walk_at "ev"
 rw [zqM bm (by decide)]; walk_at "ev"
 by_cases hd : det m = 0
 ·rw [decide_eq_true hd]; walk_at "evd"
  have f5 := zdA (i := w) (j := 5) (by decide)
  rw [show gIx (.lst ((za6 m).map .int)) (.int 1) = .ok (.int m.1.2.1) from rfl, show gIx (.lst ((za6 m).map .int)) (.int 2) = .ok (.int m.1.2.2) from rfl, show gIx (.lst ((za6 m).map .int)) (.int 5) = .ok (.int m.2.1.2.2) from rfl]; walk_at "ev"
  rw [zxb]; walk_at "ev"
  have b1 : B 20 1 := B.of (k := 1) (by decide)
  have b0 : B 20 0 := B.of (k := 0) (by decide)
  exact last ((1 + w % 5, m.1.2.1, m.1.2.2), (0, 1, m.2.1.2.2), (0, 0, 1)) ⟨⟨(b20 (by omega) (by omega) : B 20 (1 + w % 5)), bm.a.y, bm.a.z⟩, ⟨b0, b1, bm.b.z⟩, ⟨b0, b0, b1⟩⟩ (by
   have : det ((1 + w % 5, m.1.2.1, m.1.2.2), (0, 1, m.2.1.2.2), (0, 0, 1)) = 1 + w % 5 := by unfold det dot crs; simp
   rw [this]; omega)
 ·rw [decide_eq_false hd]; walk_at "ev"
  exact last m bm hd
noncomputable def rowOf (m : M3) : Nat → P3
 | 0 => m.1
 | 1 => m.2.1
 | _ => m.2.2
theorem zuQ {k n : Nat} {m : M3} {p : P3} (h : BM k m) (hp : BP n p) (hk : k + n ≤ 8000) (l : Option D) (j : Nat) (hj : j < 3) : zb0 zuq (zaa (zdf (eLC 1 [0] (zb1 zgk (zaa (eC (.int 3)) zaf)) zar za1 (eOp zbJ (eOp gIx (zad 1) (eOp zbR (eOp zbJ (eC (.int 3)) (zad 4)) (zad 0))) (eOp gIx (zad 2) (zad 0))))) zaf) [some (zaA m), some (ptD p), l, some (.int (j : Int))] = .ok (.int (dot (rowOf m j) p)) := by
 have mb := fun {i : Int} (h : B k i) => zai h (by omega)
 have mp := fun {i : Int} (h : B n i) => zai h (by omega)
 walk_at "evd"
 rw [show zgi 0 3 = [.int 0, .int 1, .int 2] from rfl]
 have row : ∀ r : P3, BP k r → (∀ i : Nat, i < 3 → eOp gIx (zad 1) (eOp zbR (eOp zbJ (eC (.int 3)) (zad 4)) (zad 0)) [some (.int (i : Int)), some (zaA m), some (ptD p), l, some (.int (j : Int))] = .ok (.int (match i with | 0 => r.1 | 1 => r.2.1 | _ => r.2.2))) → zyz zuq (zr2 (zpO (lcK 1 [0] (.ok [.int 0, .int 1, .int 2]) zar za1 (eOp zbJ (eOp gIx (zad 1) (eOp zbR (eOp zbJ (eC (.int 3)) (zad 4)) (zad 0))) (eOp gIx (zad 2) (zad 0))) [some (zaA m), some (ptD p), l, some (.int (j : Int))])) (.ok [])) = .ok (.int (dot r p)) := by
  intro r hr hi
  rw [zqm (g := fun d => match d with | .int 0 => .int (r.1 * p.1) | .int 1 => .int (r.2.1 * p.2.1) | _ => .int (r.2.2 * p.2.2)) (by simp) (fun d hd => ?_)]
  ·show R.ok (D.int [r.1 * p.1, r.2.1 * p.2.1, r.2.2 * p.2.2].sum) = _
   congr 2
   show r.1 * p.1 + (r.2.1 * p.2.1 + (r.2.2 * p.2.2 + 0)) = _
   unfold dot; omega
  ·simp only [List.mem_cons, List.not_mem_nil, or_false] at hd
   rcases hd with rfl | rfl | rfl
   ·have := hi 0 (by decide)
    rw [zeh]
    refine (congrArg (fun z => opK zbJ z _) this).trans ?_
    exact zan _ _ (mb hr.x) (mp hp.x)
   ·have := hi 1 (by decide)
    rw [zeh]
    refine (congrArg (fun z => opK zbJ z _) this).trans ?_
    exact zan _ _ (mb hr.y) (mp hp.y)
   ·have := hi 2 (by decide)
    rw [zeh]
    refine (congrArg (fun z => opK zbJ z _) this).trans ?_
    exact zan _ _ (mb hr.z) (mp hp.z)
 rcases (show j = 0 ∨ j = 1 ∨ j = 2 by omega) with rfl | rfl | rfl
 ·refine row m.1 h.a fun i hi => ?_
  rcases (show i = 0 ∨ i = 1 ∨ i = 2 by omega) with rfl | rfl | rfl <;> rfl
 ·refine row m.2.1 h.b fun i hi => ?_
  rcases (show i = 0 ∨ i = 1 ∨ i = 2 by omega) with rfl | rfl | rfl <;> rfl
 ·refine row m.2.2 h.c fun i hi => ?_
  rcases (show i = 0 ∨ i = 1 ∨ i = 2 by omega) with rfl | rfl | rfl <;> rfl
theorem zjU {k n : Nat} {m : M3} {p : P3} (h : BM k m) (hp : BP n p) (hk : k + n ≤ 8000) (ds : List D) (hl : ds.length ≤ 1000) (j : Nat) (hj : j < 3) : zex [some (zaA m), some (ptD p), some (.lst ds), some (.int (j : Int))] = .ok (.nx [some (zaA m), some (ptD p), some (.lst (ds ++ [.int (dot (rowOf m j) p)])), some (.int (j : Int))]) := by
 unfold zex
 rw [zg6, show (mask [2] [some (zaA m), some (ptD p), some (.lst ds), some (.int (j : Int))]) = [some (zaA m), some (ptD p), none, some (.int (j : Int))] from rfl, zuQ h hp hk none j hj, show zdv [some (zaA m), some (ptD p), some (.lst ds), some (.int (j : Int))] 2 = .ok ds from rfl, zf7 _ _ _ _ (by omega)]
 rfl
theorem zn9 {k n : Nat} {m : M3} {p : P3} (h : BM k m) (hp : BP n p) (hk : k + n ≤ 8000) (hz : Nz (mul m p)) : zc7 [zaA m, ptD p] = .ok (ptD (low (mul m p))) := by
 rw [zk7]; unfold zfR zh3; walk_at "evd"
 rw [show zgi 0 3 = [.int ((0 : Nat) : Int), .int ((1 : Nat) : Int), .int ((2 : Nat) : Int)] from rfl]
 simp only [zco, zfy]; walk_at "ev"
 rw [zjU h hp hk _ (by simp) 0 (by decide)]; walk_at "ev"
 rw [zjU h hp hk _ (by simp) 1 (by decide)]; walk_at "ev"
 rw [zjU h hp hk _ (by simp) 2 (by decide)]; walk_at "ev"
 unfold zh2; walk_at "ev"
 have e := zh8 (h.mul hp) hz (by omega)
 have e : zbc [.lst ([] ++ [D.int (dot (rowOf m 0) p)] ++ [D.int (dot (rowOf m 1) p)] ++ [D.int (dot (rowOf m 2) p)])] = _ := e
 rw [e]; walk_at "ev"
end LmE
set_option Elab.async false
set_option linter.all false
set_option maxRecDepth 100000
open PySem L2 DL Mir
namespace LmF
open Mth LmP LmA LmD LmE
theorem zqN : ∀ (ns : List Int) (g : Nat) (s a : Option D), ∃ a', zis [2] zar (zaC 1 (zah zbm (zaa (zad 1) (zaa (zad 2) zaf)))) (ns.map .int) [s, some (.int (g : Int)), a] = .ok (.nx [s, some (.int ((ns.foldl (fun g n => Nat.gcd g n.natAbs) g : Nat) : Int)), a'])
 | [], g, s, a => ⟨a, rfl⟩
 | n :: ns, g, s, a => by
  obtain ⟨a', h⟩ := zqN ns (Nat.gcd g n.natAbs) s (some (.int n))
  refine ⟨a', ?_⟩
  rw [List.map_cons, zco]; walk_at "ev"
  rw [zga, Int.natAbs_natCast]; walk_at "ev"
  exact h
theorem zsf (ns : List Int) (s a : Option D) : ∃ a', zis [2] zar (zaC 1 (zah zbm (zaa (zad 1) (zaa (zad 2) zaf)))) (ns.map .int) [s, some (.int 0), a] = .ok (.nx [s, some (.int ((ns.foldl (fun g n => Nat.gcd g n.natAbs) 0 : Nat) : Int)), a']) := zqN ns 0 s a
theorem zh9 {n : Nat} {s : D} {m : M3} (hs : zpl s = .ok ((za6 m).map .int)) (h : BM n m) (hz : NzM m) (hn : n ≤ 9000) : zcp [s] = .ok (zaA (zbz m)) := by
 have hd := zqJ (k := 0) h.all hz hn
 have sq : znY (.ok s) = .ok ((za6 m).map D.int) := hs
 rw [zlR]; unfold zg9 ziW zhO; walk_at "ev"
 rw [sq]; walk_at "ev"
 obtain ⟨a', e⟩ := zsf (za6 m) (some s) none
 rw [e]; walk_at "ev"
 unfold ziV ziU; walk_at "ev"
 rw [sq, zc0 (p := fun d => !eqD d (.int 0)) (g := id) (by rw [List.length_map]; exact (by decide : 9 ≤ 1000000)) (fun d hd => ?_) (fun d hd _ => rfl)]
 ·walk_at "ev"
  rw [zjS hz]; walk_at "ev"
  have hs : zdH (za6 m) = if zaI (za6 m) < 0 then -((zoZ (za6 m) : Nat) : Int) else ((zoZ (za6 m) : Nat) : Int) := rfl
  by_cases hf : zaI (za6 m) < 0
  ·rw [if_pos hf] at hs
   rw [decide_eq_true hf]; walk_at "ev"
   rw [show -(((za6 m).foldl (fun g n => Nat.gcd g n.natAbs) 0 : Nat) : Int) = zdH (za6 m) from hs.symm, sq, zgb (j := 1) (show (za6 m).length ≤ 1000 from (by decide : 9 ≤ 1000)) hd rfl]; walk_at "ev"
   rfl
  ·rw [if_neg hf] at hs
   rw [decide_eq_false hf]; walk_at "ev"
   rw [show (((za6 m).foldl (fun g n => Nat.gcd g n.natAbs) 0 : Nat) : Int) = zdH (za6 m) from hs.symm, sq, zgb (j := 1) (show (za6 m).length ≤ 1000 from (by decide : 9 ≤ 1000)) hd rfl]; walk_at "ev"
   rfl
 ·obtain ⟨i, _, rfl⟩ := List.mem_map.mp hd
  walk_at "ev"; rw [zdY]
theorem zi6 (m : M3) : zaZ [.lst [ptD m.1, ptD m.2.1, ptD m.2.2]] = .ok (.lst [ptD (tr m).1, ptD (tr m).2.1, ptD (tr m).2.2]) := by
 rw [zhQ]; rfl
theorem zxx {a b c x y z : D} {e : DSt → R D} {σ : DSt} (ha : e (some a :: σ) = .ok x) (hb : e (some b :: σ) = .ok y) (hc : e (some c :: σ) = .ok z) : lcK 1 [0] (.ok [a, b, c]) zar za1 e σ = .ok [x, y, z] := by
 have t : lcD [0] zar za1 e (List.replicate 1 none ++ σ) [a, b, c] = (e (some a :: σ)).bind (fun y => ((e (some b :: σ)).bind fun y' => ((e (some c :: σ)).bind fun y'' => (R.ok ([] : List D)).bind fun ys => .ok (y'' :: ys)).bind fun ys => .ok (y' :: ys)).bind fun ys => .ok (y :: ys)) := rfl
 show (bif most 3 then (lcD [0] zar za1 e (List.replicate 1 none ++ σ) [a, b, c]).noerr else .bad) = _
 rw [t, ha, hb, hc]; rfl
theorem BM.tr {n : Nat} {m : M3} (h : BM n m) : BM n (Mth.tr m) := ⟨⟨h.a.x, h.b.x, h.c.x⟩, ⟨h.a.y, h.b.y, h.c.y⟩, ⟨h.a.z, h.b.z, h.c.z⟩⟩
theorem BM.mm {k n : Nat} {a b : M3} (ha : BM k a) (hb : BM n b) : BM (k + n + 2) (Mth.mm b a) := ⟨BM.mul (BM.tr ha) hb.a, BM.mul (BM.tr ha) hb.b, BM.mul (BM.tr ha) hb.c⟩
theorem zuR {k n : Nat} {a b : M3} (ha : BM k a) (hb : BM n b) (hk : k + n ≤ 8000) (hz : NzM (mm b a)) : ziX [zaA a, zaA b] = .ok (zaA (zbz (mm b a))) := by
 have ht := BM.tr ha
 rw [zqC]; unfold znl; walk_at "ev"
 rw [zcN]; walk_at "ev"
 rw [zi6]; walk_at "ev"
 unfold znk; walk_at "ev"
 unfold znj; walk_at "ev"
 rw [zcN]; walk_at "ev"
 have row : ∀ (r : P3) (ds : List D), BP n r → ds.length ≤ 100 → zhR [some (zaA a), some (zaA b), some (.lst [ptD (tr a).1, ptD (tr a).2.1, ptD (tr a).2.2]), some (.lst ds), some (ptD r)] = .ok (.nx [some (zaA a), some (zaA b), some (.lst [ptD (tr a).1, ptD (tr a).2.1, ptD (tr a).2.2]), some (.lst (ds ++ [.int (mul (tr a) r).1, .int (mul (tr a) r).2.1, .int (mul (tr a) r).2.2])), some (ptD r)]) := by
  intro r ds hr hl
  unfold zhR; rw [zg7]; walk_at "ev"
  rw [zxx (x := .int (mul (tr a) r).1) (y := .int (mul (tr a) r).2.1) (z := .int (mul (tr a) r).2.2) ?_ ?_ ?_]
  ·walk_at "ev"
   rw [zjJ _ _ _ _ (by simp; omega)]; walk_at "ev"
  ·walk_at "ev"
   rw [zgL hr ht.a (by omega) (by omega), zg3]; rfl
  ·walk_at "ev"
   rw [zgL hr ht.b (by omega) (by omega), zg3]; rfl
  ·walk_at "ev"
   rw [zgL hr ht.c (by omega) (by omega), zg3]; rfl
 rw [row b.1 _ hb.a (by simp)]; walk_at "ev"
 rw [row b.2.1 _ hb.b (by simp)]; walk_at "ev"
 rw [row b.2.2 _ hb.c (by simp)]; walk_at "ev"
 unfold zni; walk_at "ev"
 rw [zh9 (m := mm b a) rfl (BM.mm ha hb) hz (by omega)]; walk_at "ev"
theorem zoa {k : Nat} {a : M3} (ha : BM k a) (hk : k ≤ 4000) (hz : NzM (adj a)) : zdx [zaA a] = .ok (zaA (zbz (adj a))) := by
 rw [zk2]; unfold zfL; walk_at "ev"
 rw [zcN]; walk_at "ev"
 rw [zk9 ha (by omega)]; walk_at "ev"
 rw [zi6]; walk_at "ev"
 unfold zhS; walk_at "ev"
 rw [show zbR (ptD (tr (cof a)).1) (ptD (tr (cof a)).2.1) = .ok (.tup [.int (adj a).1.1, .int (adj a).1.2.1, .int (adj a).1.2.2, .int (adj a).2.1.1, .int (adj a).2.1.2.1, .int (adj a).2.1.2.2]) from rfl]; walk_at "ev"
 rw [show zbR (.tup [.int (adj a).1.1, .int (adj a).1.2.1, .int (adj a).1.2.2, .int (adj a).2.1.1, .int (adj a).2.1.2.1, .int (adj a).2.1.2.2]) (ptD (tr (cof a)).2.2) = .ok (zaA (adj a)) from rfl]; walk_at "ev"
 rw [zh9 (m := adj a) rfl (BM.tr ha.cof) hz (by omega)]; walk_at "ev"
end LmF
set_option Elab.async false
set_option linter.all false
set_option maxRecDepth 100000
open PySem L2 DL Mir
namespace Lk42
open Mth LmP LmA LmD LmE
theorem zuS (p : P3) (F : List P3) : in2 (ptD p) (F.map ptD) = true := by
 unfold in2
 rw [Bool.and_eq_true, List.all_eq_true]
 refine ⟨rfl, fun d hd => ?_⟩
 obtain ⟨q, _, rfl⟩ := List.mem_map.mp hd
 rfl
theorem zqO (p : P3) : ∀ F : List P3, inD (ptD p) (F.map ptD) = decide (p ∈ F)
 | [] => rfl
 | q :: F => by
  have ih := zqO p F
  unfold inD at ih ⊢
  rw [List.map_cons, List.any_cons, ih, ztt]
  by_cases e : p = q
  ·subst e; simp
  ·have e' : ¬ q = p := fun z => e z.symm
   simp [e, e']
theorem nin_pts (p : P3) (F : List P3) : zop (ptD p) (.lst (F.map ptD)) = .ok (.bl (!decide (p ∈ F))) := by
 rw [zuH (zuS p F), zqO]
theorem eSl_to (fe f : DSt → R D) (σ : DSt) (ds : List D) (n : Nat) (h1 : fe σ = .ok (.lst ds)) (h2 : f σ = .ok (.int (n : Int))) : eSl fe ze1 (zdc f) σ = .ok (.lst (ds.take n)) := by
 unfold eSl ze1 zdc
 rw [h1, h2]
 show R.ok (D.lst (zq8 ds none (some (n : Int)))) = _
 unfold zq8
 rw [HT.sIx_none, HT.sIx_nat, List.drop_zero, Nat.sub_zero, ← List.take_eq_take_min]
theorem gAdd_ll {xs ys : List D} (h : xs.length + ys.length ≤ 1000000) : zbR (.lst xs) (.lst ys) = .ok (.lst (xs ++ ys)) := by
 show (bif zlI (xs.length + ys.length) then _ else _) = _
 rw [show zlI (xs.length + ys.length) = true from decide_eq_true (Nat.le_trans h (by decide))]; rfl
end Lk42
set_option Elab.async false
set_option linter.all false
set_option maxRecDepth 100000
open PySem L2 DL Mir
namespace Lk43
open Mth LmP LmA LmD LmE LmF
theorem BM.rowOf {n : Nat} {m : M3} (h : BM n m) (j : Nat) : BP n (rowOf m j) := by
 unfold LmE.rowOf; split
 ·exact h.a
 ·exact h.b
 ·exact h.c
theorem zob {k n : Nat} {a b : M3} (ha : BM k a) (hb : BM n b) (hk : k + n ≤ 8000) (l : Option D) (i j : Nat) (hi : i < 3) (hj : j < 3) : zb0 zuq (zaa (zdf (eLC 1 [0] (zb1 zgk (zaa (eC (.int 3)) zaf)) zar za1 (eOp zbJ (eOp gIx (zad 2) (eOp zbR (eOp zbJ (eC (.int 3)) (zad 4)) (zad 0))) (eOp gIx (zad 1) (eOp zbR (eOp zbJ (eC (.int 3)) (zad 0)) (zad 5)))))) zaf) [some (zaA a), some (zaA b), l, some (.int (i : Int)), some (.int (j : Int))] = .ok (.int (dot (rowOf (tr a) j) (rowOf b i))) := by
 have br := BM.rowOf hb i
 have bc := BM.rowOf (BM.tr ha) j
 walk_at "evd"
 rw [show zgi 0 3 = [.int 0, .int 1, .int 2] from rfl]
 have g1 : ∀ t : Nat, t < 3 → eOp gIx (zad 2) (eOp zbR (eOp zbJ (eC (.int 3)) (zad 4)) (zad 0)) [some (.int (t : Int)), some (zaA a), some (zaA b), l, some (.int (i : Int)), some (.int (j : Int))] = .ok (.int (match t with | 0 => (rowOf b i).1 | 1 => (rowOf b i).2.1 | _ => (rowOf b i).2.2)) := by
  intro t ht
  rcases (show i = 0 ∨ i = 1 ∨ i = 2 by omega) with rfl | rfl | rfl <;> rcases (show t = 0 ∨ t = 1 ∨ t = 2 by omega) with rfl | rfl | rfl <;> rfl
 have g2 : ∀ t : Nat, t < 3 → eOp gIx (zad 1) (eOp zbR (eOp zbJ (eC (.int 3)) (zad 0)) (zad 5)) [some (.int (t : Int)), some (zaA a), some (zaA b), l, some (.int (i : Int)), some (.int (j : Int))] = .ok (.int (match t with | 0 => (rowOf (tr a) j).1 | 1 => (rowOf (tr a) j).2.1 | _ => (rowOf (tr a) j).2.2)) := by
  intro t ht
  rcases (show j = 0 ∨ j = 1 ∨ j = 2 by omega) with rfl | rfl | rfl <;> rcases (show t = 0 ∨ t = 1 ∨ t = 2 by omega) with rfl | rfl | rfl <;> rfl
 generalize rowOf b i = r at *
 generalize rowOf (tr a) j = c at *
 rw [zxx (x := .int (r.1 * c.1)) (y := .int (r.2.1 * c.2.1)) (z := .int (r.2.2 * c.2.2)) ?_ ?_ ?_]
 ·show R.ok (D.int [r.1 * c.1, r.2.1 * c.2.1, r.2.2 * c.2.2].sum) = _
  congr 2
  show r.1 * c.1 + (r.2.1 * c.2.1 + (r.2.2 * c.2.2 + 0)) = _
  unfold dot; grind
 ·rw [zeh, show (some (D.int 0)) = some (D.int ((0 : Nat) : Int)) from rfl, g1 0 (by decide), g2 0 (by decide)]
  exact zan _ _ (zai br.x (by omega)) (zai bc.x (by omega))
 ·rw [zeh, show (some (D.int 1)) = some (D.int ((1 : Nat) : Int)) from rfl, g1 1 (by decide), g2 1 (by decide)]
  exact zan _ _ (zai br.y (by omega)) (zai bc.y (by omega))
 ·rw [zeh, show (some (D.int 2)) = some (D.int ((2 : Nat) : Int)) from rfl, g1 2 (by decide), g2 2 (by decide)]
  exact zan _ _ (zai br.z (by omega)) (zai bc.z (by omega))
theorem zqP {k n : Nat} {a b : M3} (ha : BM k a) (hb : BM n b) (hk : k + n ≤ 8000) (hz : NzM (mm b a)) : zbT [zaA a, zaA b] = .ok (zaA (zbz (mm b a))) := by
 rw [zh4]; unfold zdk zfa; walk_at "evd"
 rw [show zgi 0 3 = [.int ((0 : Nat) : Int), .int ((1 : Nat) : Int), .int ((2 : Nat) : Int)] from rfl]
 have row : ∀ (i : Nat) (ds : List D) (j : Option D), i < 3 → ds.length ≤ 100 → zc8 [some (zaA a), some (zaA b), some (.lst ds), some (.int (i : Int)), j] = .ok (.nx [some (zaA a), some (zaA b), some (.lst (ds ++ [.int (dot (tr a).1 (rowOf b i)), .int (dot (tr a).2.1 (rowOf b i)), .int (dot (tr a).2.2 (rowOf b i))])), some (.int (i : Int)), some (.int 2)]) := by
  intro i ds j hi hl
  have one : ∀ (ds : List D) (j : Nat), ds.length ≤ 1000 → j < 3 → zcB [some (zaA a), some (zaA b), some (.lst ds), some (.int (i : Int)), some (.int (j : Int))] = .ok (.nx [some (zaA a), some (zaA b), some (.lst (ds ++ [.int (dot (rowOf (tr a) j) (rowOf b i))])), some (.int (i : Int)), some (.int (j : Int))]) := by
   intro ds j hl hj
   unfold zcB
   rw [zg6, show (mask [2] [some (zaA a), some (zaA b), some (.lst ds), some (.int (i : Int)), some (.int (j : Int))]) = [some (zaA a), some (zaA b), none, some (.int (i : Int)), some (.int (j : Int))] from rfl, zob ha hb hk none i j hi hj, show zdv [some (zaA a), some (zaA b), some (.lst ds), some (.int (i : Int)), some (.int (j : Int))] 2 = .ok ds from rfl, zf7 _ _ _ _ (by omega)]
   rfl
  unfold zc8; walk_at "evd"
  rw [show zgi 0 3 = [.int ((0 : Nat) : Int), .int ((1 : Nat) : Int), .int ((2 : Nat) : Int)] from rfl]
  simp only [zco, zfy]; walk_at "ev"
  rw [one _ 0 (by omega) (by decide)]; walk_at "ev"
  rw [one _ 1 (by simp; omega) (by decide)]; walk_at "ev"
  rw [one _ 2 (by simp; omega) (by decide)]; walk_at "ev"
  simp only [List.append_assoc, List.cons_append, List.nil_append]
  rfl
 simp only [zco, zfy]; walk_at "ev"
 rw [row 0 _ _ (by decide) (by simp)]; walk_at "ev"
 rw [row 1 _ _ (by decide) (by simp)]; walk_at "ev"
 rw [row 2 _ _ (by decide) (by simp)]; walk_at "ev"
 unfold ze9; walk_at "ev"
 have e := zeE (m := mm b a) (BM.mm ha hb) hz (by omega)
 rw [show ((za6 (mm b a)).map D.int) = ([] ++ [D.int (dot (tr a).1 (rowOf b 0)), .int (dot (tr a).2.1 (rowOf b 0)), .int (dot (tr a).2.2 (rowOf b 0))] ++ [D.int (dot (tr a).1 (rowOf b 1)), .int (dot (tr a).2.1 (rowOf b 1)), .int (dot (tr a).2.2 (rowOf b 1))] ++ [D.int (dot (tr a).1 (rowOf b 2)), .int (dot (tr a).2.1 (rowOf b 2)), .int (dot (tr a).2.2 (rowOf b 2))]) from rfl] at e
 rw [e]; walk_at "ev"
end Lk43
set_option Elab.async false
set_option linter.all false
set_option maxRecDepth 100000
open PySem L2 DL Mir
namespace LmH
open Mth LmP LmA LmD LmB LmE LmF
theorem zlb {n : Nat} {p : P3} (hp : BP n p) (h : Nrm p) (hn : n ≤ 9000) : zce [ptD p] = .ok (.bl true) := by
 rw [zn5 hp.x hp.y hp.z h.nz hn, show zeb p.1 p.2.1 p.2.2 = 1 from h.one, zeJ, zeJ, zeJ]
 simp
noncomputable def key (p : P3) : List Int := [p.1, p.2.1, p.2.2]
theorem zuT {p q : P3} (h : key p = key q) : p = q := by
 simp only [key, List.cons.injEq, and_true] at h
 exact Prod.ext h.1 (Prod.ext h.2.1 h.2.2)
theorem znA : ∀ ps : List P3, zbS (ps.map ptD) = some (ps.map key)
 | [] => rfl
 | p :: ps => by
  have ih := znA ps
  rw [List.map_cons, List.map_cons]
  unfold zbS
  rw [ih]; rfl
theorem zqQ : ∀ {ps : List P3}, ps.Nodup → (ps.map key).Nodup
 | [], _ => List.nodup_nil
 | p :: ps, h => by
  rw [List.nodup_cons] at h
  rw [List.map_cons, List.nodup_cons]
  refine ⟨fun q => ?_, zqQ h.2⟩
  obtain ⟨r, h1, h2⟩ := List.mem_map.mp q
  rw [zuT h2] at h1
  exact h.1 h1
theorem zlY (f : DSt → R D) (σ : DSt) : zlP f σ = (f σ).bind zej := rfl
theorem zqR {ps : List P3} (nd : ps.Nodup) (hl : ps.length ≤ 12) : zej (.lst (ps.map ptD)) = .ok (.int ps.length) := by
 show (match zbS (ps.map ptD) with | some kss => (bif decide kss.Nodup && Nat.ble kss.length 18 then R.ok (D.int kss.length) else .bad) | none => .bad) = _
 rw [znA]
 show (bif decide (ps.map key).Nodup && Nat.ble (ps.map key).length 18 then R.ok (D.int (ps.map key).length) else .bad) = _
 rw [decide_eq_true (zqQ nd), List.length_map, show Nat.ble ps.length 18 = true from by rw [Nat.ble_eq]; omega]; rfl
theorem zia {n : Nat} {ps : List P3} (h : Pts n ps) (hn : n ≤ 4000) (nd : ps.Nodup) (h1 : 1 ≤ ps.length) (h12 : ps.length ≤ 12) : zbt [.lst (ps.map ptD)] = .ok (.bl true) := by
 rw [zjP]; unfold zeT; walk_at "ev"
 rw [show zdP = .int 12 from rfl]; walk_at "ev"
 rw [List.length_map, show (decide (1 ≤ (ps.length : Int)) && decide ((ps.length : Int) ≤ 12)) = true from by rw [decide_eq_true (by omega), decide_eq_true (by omega)]; rfl]; walk_at "ev"
 unfold zgt; walk_at "ev"
 rw [zjT (g := fun _ => .bl true) (by omega) (fun p hp => ?_)]
 ·walk_at "ev"
  rw [show ps.map (fun _ => D.bl true) = (ps.map fun _ => true).map D.bl from by rw [List.map_map]; rfl, zny, show (ps.map fun _ => true).all id = true from by rw [List.all_map, List.all_eq_true]; intro _ _; rfl]; walk_at "ev"
  unfold zgs; walk_at "ev"
  rw [zlY]; walk_at "ev"
  rw [show (R.ok (D.lst (ps.map ptD))).bind zej = .ok (.int ps.length) from zqR nd h12, List.length_map]; walk_at "ev"
 ·walk_at "ev"
  exact zlb (h.bd p hp) (h.nrm p hp) (by omega)
theorem zeX {n : Nat} {ps : List P3} (h : Pts n ps) (hn : n ≤ 4000) (nd : ps.Nodup) (h1 : 1 ≤ ps.length) (h12 : ps.length ≤ 12) : zbD [.lst (ps.map ptD)] = .ok .non := by
 rw [zk1]; unfold zfI; walk_at "ev"
 rw [zia h hn nd h1 h12]; walk_at "ev"
structure F4 (n : Nat) (a b c d : P3) : Prop where
 g : G4 a b c d
 pts : Pts n [a, b, c, d]
theorem zda (p q : P3) : det3 p p q = 0 ∧ det3 p q p = 0 ∧ det3 q p p = 0 := by
 unfold det3 dot crs; refine ⟨?_, ?_, ?_⟩ <;> grind
theorem F4.nd {n : Nat} {a b c d : P3} (h : F4 n a b c d) : [a, b, c, d].Nodup := by
 have e1 : a ≠ b := fun e => h.g.d3 (by rw [e]; exact (zda b c).1)
 have e2 : a ≠ c := fun e => h.g.d3 (by rw [e]; exact (zda c b).2.1)
 have e3 : b ≠ c := fun e => h.g.d3 (by rw [e]; exact (zda c a).2.2)
 have e4 : a ≠ d := fun e => h.g.d2 (by rw [e]; exact (zda d b).2.1)
 have e5 : b ≠ d := fun e => h.g.d2 (by rw [e]; exact (zda d a).2.2)
 have e6 : c ≠ d := fun e => h.g.d1 (by rw [e]; exact (zda d a).2.2)
 simp [e1, e2, e3, e4, e5, e6]
noncomputable abbrev zoq (a b c d : P3) : D := .lst [ptD a, ptD b, ptD c, ptD d]
theorem zqS (a b c d : D) : gIx (.lst [a, b, c, d]) (.int 0) = .ok a := rfl
theorem zqT (a b c d : D) : gIx (.lst [a, b, c, d]) (.int 1) = .ok b := rfl
theorem zqU (a b c d : D) : gIx (.lst [a, b, c, d]) (.int 2) = .ok c := rfl
theorem znB (a b c d : D) : gIx (.lst [a, b, c, d]) (.int 3) = .ok d := rfl
theorem off {n m : Nat} {p q r : P3} (hp : BP n p) (hq : BP m q) (hr : BP m r) (hn : n ≤ 4000) (hm : m ≤ 4000) (hz : Nz (crs q r)) (h : det3 p q r ≠ 0) : zbb [ptD p, ptD (low (crs q r))] = .ok (.bl false) := by
 rw [zlU hp ((hq.crs hr).low hz) (by omega) (by omega), decide_eq_false (fun z => h ((zjm hz).mp z))]
theorem zqV {n : Nat} {a b c d : P3} (h : F4 n a b c d) (hn : n ≤ 2000) : zbK [zoq a b c d, .int 0, .int 1, .int 2] = .ok (.int 3) := by
 have nd := h.nd
 simp only [List.nodup_cons, List.mem_cons, List.not_mem_nil, or_false, not_or] at nd
 obtain ⟨⟨ab, ac, ad⟩, ⟨bc, bd⟩, cd, _⟩ := nd
 have na := h.pts.nrm a (by simp)
 have nb := h.pts.nrm b (by simp)
 have nc := h.pts.nrm c (by simp)
 have ba := h.pts.bd a (by simp)
 have bb := h.pts.bd b (by simp)
 have bc' := h.pts.bd c (by simp)
 have bd' := h.pts.bd d (by simp)
 have z1 := zbG na nb ab
 have z2 := zbG nb nc bc
 have z3 := zbG na nc ac
 rw [ze6]; unfold zc2; walk_at "ev"
 rw [zqS, zqT, zqU]; walk_at "ev"
 rw [zbv ba bb (by omega) ab z1, zbv bb bc' (by omega) bc z2, zbv ba bc' (by omega) ac z3]; walk_at "ev"
 unfold zdQ; walk_at "ev"
 rw [show (([ptD a, ptD b, ptD c, ptD d] : List D).length : Int) = 4 from rfl]
 rw [show zlC [.int (2 + 1), .int 4] = .ok [.int 3] from rfl]; walk_at "ev"
 unfold zbd; walk_at "ev"
 rw [zxx (x := .bl false) (y := .bl false) (z := .bl false) ?_ ?_ ?_]
 ·walk_at "ev"
  rw [show zwz [.lst [.bl false, .bl false, .bl false]] = .ok (.bl false) from rfl]; walk_at "ev"
 ·walk_at "ev"
  rw [znB]; walk_at "ev"
  exact off bd' ba bb (by omega) (by omega) z1 (fun z => h.g.d2 (by rw [← z]; unfold det3 dot crs; grind))
 ·walk_at "ev"
  rw [znB]; walk_at "ev"
  exact off bd' bb bc' (by omega) (by omega) z2 h.g.d0
 ·walk_at "ev"
  rw [znB]; walk_at "ev"
  have e3 : det3 a d c = -det3 d a c := by unfold det3 dot crs; grind
  exact off bd' ba bc' (by omega) (by omega) z3 (fun z => h.g.d1 (by rw [e3, z]; rfl))
theorem zuU {n : Nat} {a b c d : P3} (h : F4 n a b c d) (hn : n ≤ 2000) : zbe [zoq a b c d] = .ok (.tup [.int 0, .int 1, .int 2, .int 3]) := by
 have nd := h.nd
 have la := zeX h.pts (by omega) nd (by simp) (by simp)
 have la : zbD [zoq a b c d] = _ := la
 simp only [List.nodup_cons, List.mem_cons, List.not_mem_nil, or_false, not_or] at nd
 obtain ⟨⟨ab, ac, ad⟩, ⟨bc, bd⟩, cd, _⟩ := nd
 have na := h.pts.nrm a (by simp)
 have nb := h.pts.nrm b (by simp)
 have ba := h.pts.bd a (by simp)
 have bb := h.pts.bd b (by simp)
 have bc' := h.pts.bd c (by simp)
 have z1 := zbG na nb ab
 rw [zfK]; unfold zdw; walk_at "ev"
 rw [la]; walk_at "ev"
 unfold zel; walk_at "ev"
 rw [show (([ptD a, ptD b, ptD c, ptD d] : List D).length : Int) = 4 from rfl]
 rw [show zgk [.int 4] = .ok [.int 0, .int 1, .int 2, .int 3] from rfl]; walk_at "ev"
 unfold zb6; walk_at "ev"
 rw [show (([ptD a, ptD b, ptD c, ptD d] : List D).length : Int) = 4 from rfl]
 rw [show zlC [.int (0 + 1), .int 4] = .ok [.int 1, .int 2, .int 3] from rfl]; walk_at "ev"
 unfold zbE; walk_at "ev"
 rw [zqS, zqT]; walk_at "ev"
 rw [zbv ba bb (by omega) ab z1]; walk_at "ev"
 unfold zcA; walk_at "ev"
 rw [show (([ptD a, ptD b, ptD c, ptD d] : List D).length : Int) = 4 from rfl]
 rw [show zlC [.int (1 + 1), .int 4] = .ok [.int 2, .int 3] from rfl]; walk_at "ev"
 unfold zaY; walk_at "ev"
 rw [zqU]; walk_at "ev"
 rw [off bc' ba bb (by omega) (by omega) z1 (fun z => h.g.d3 (by rw [← z]; unfold det3 dot crs; grind))]; walk_at "ev"
 unfold zb5; walk_at "ev"
 rw [zqV h hn]; walk_at "ev"
 unfold zaX; walk_at "ev"
theorem zi7 {n : Nat} {a b c d : P3} (h : F4 n a b c d) (hn : n ≤ 2000) : zc3 [zoq a b c d] = .ok (.bl true) := by
 have fl := zia h.pts (by omega) h.nd (by simp) (by simp)
 have fl : zbt [zoq a b c d] = _ := fl
 rw [zk3]; unfold zfM; walk_at "ev"
 rw [fl]; walk_at "ev"
 rw [show (([ptD a, ptD b, ptD c, ptD d] : List D).length : Int) = 4 from rfl]; walk_at "ev"
 rw [zuU h hn]; walk_at "ev"
theorem zdW {n : Nat} {x y z : P3} (hx : BP n x) (hy : BP n y) (hz : BP n z) (hn : n ≤ 3000) : zaV [ptD x, ptD y, ptD z] = .ok (.int (det3 x y z)) := by
 rw [zgW]; unfold zcJ; walk_at "ev"
 rw [zfV hy hz (by omega) (by omega)]; walk_at "ev"
 rw [zgL hx (hy.crs hz) (by omega) (by omega)]; walk_at "ev"
 rfl
theorem BP.det3 {n : Nat} {x y z : P3} (hx : BP n x) (hy : BP n y) (hz : BP n z) : B (3 * n + 3) (Mth.det3 x y z) := (hx.dot (hy.crs hz)).mono (by omega)
theorem B.tms {m n : Nat} {k : Int} {p : P3} (hk : B m k) (hp : BP n p) : BP (m + n) (Mth.tms k p) := ⟨hk.mul hp.x, hk.mul hp.y, hk.mul hp.z⟩
theorem BM.sp {n : Nat} {a b c d : P3} (ha : BP n a) (hb : BP n b) (hc : BP n c) (hd : BP n d) : BM (3 * n + 3 + n) (Sp a b c d) :=
 LmF.BM.tr ⟨B.tms (BP.det3 hd hb hc) ha, B.tms (BP.det3 ha hd hc) hb, B.tms (BP.det3 ha hb hd) hc⟩
theorem zlc {n : Nat} {a b c d : P3} (h : F4 n a b c d) (hn : n ≤ 1000) : zdS [zoq a b c d] = .ok (zaA (zbz (Sp a b c d))) := by
 have ba := h.pts.bd a (by simp)
 have bb := h.pts.bd b (by simp)
 have bc := h.pts.bd c (by simp)
 have bd := h.pts.bd d (by simp)
 rw [zlT]; unfold zhb zi4 zi3 zi2; walk_at "ev"
 rw [zqS]; walk_at "ev"
 rw [zqT]; walk_at "ev"
 rw [zqU]; walk_at "ev"
 rw [znB]; walk_at "ev"
 unfold zi1; walk_at "ev"
 rw [zdW bd bb bc (by omega), zdW ba bd bc (by omega), zdW ba bb bd (by omega)]; walk_at "ev"
 have b0 := BP.det3 bd bb bc
 have b1 := BP.det3 ba bd bc
 have b2 := BP.det3 ba bb bd
 unfold zi0; walk_at "ev"
 unfold ziZ; walk_at "evd"
 rw [show zgi 0 3 = [.int 0, .int 1, .int 2] from rfl]; walk_at "ev"
 have mb := fun {i : Int} (z : B (3 * n + 3) i) => zai z (by omega)
 have mp := fun {i : Int} (z : B n i) => zai z (by omega)
 unfold zhT; rw [zg7]; walk_at "ev"
 rw [zan _ _ (mb b0) (mp ba.x), zan _ _ (mb b1) (mp bb.x), zan _ _ (mb b2) (mp bc.x)]; walk_at "ev"
 rw [zjJ _ _ _ _ (by simp)]; walk_at "ev"
 rw [zg7]; walk_at "ev"
 rw [zan _ _ (mb b0) (mp ba.y), zan _ _ (mb b1) (mp bb.y), zan _ _ (mb b2) (mp bc.y)]; walk_at "ev"
 rw [zjJ _ _ _ _ (by simp)]; walk_at "ev"
 rw [zg7]; walk_at "ev"
 rw [zan _ _ (mb b0) (mp ba.z), zan _ _ (mb b1) (mp bb.z), zan _ _ (mb b2) (mp bc.z)]; walk_at "ev"
 rw [zjJ _ _ _ _ (by simp)]; walk_at "ev"
 unfold ziY; walk_at "ev"
 rw [zh9 (m := Sp a b c d) rfl (BM.sp ba bb bc bd) (NzM.of_det h.g.det) (by omega)]; walk_at "ev"
theorem zoc {n : Nat} {a b c d a' b' c' d' : P3} (h : F4 n a b c d) (h' : F4 n a' b' c' d') (hn : n ≤ 200) (hz : NzM (mm (Sp a' b' c' d') (adj (Sp a b c d)))) : zc4 [zoq a b c d, zoq a' b' c' d'] = .ok (zaA (zbz (mm (Sp a' b' c' d') (adj (Sp a b c d))))) := by
 obtain ⟨k1, k2⟩ := btw h.g.det h'.g.det hz
 obtain ⟨k3, k4⟩ := zmm h.g.det
 have bS := BM.sp (h.pts.bd a (by simp)) (h.pts.bd b (by simp)) (h.pts.bd c (by simp)) (h.pts.bd d (by simp))
 have bS' := BM.sp (h'.pts.bd a' (by simp)) (h'.pts.bd b' (by simp)) (h'.pts.bd c' (by simp)) (h'.pts.bd d' (by simp))
 have bL := bS.low (NzM.of_det h.g.det)
 have bL' := bS'.low (NzM.of_det h'.g.det)
 rw [zk4]; unfold zfN; walk_at "ev"
 rw [zi7 h (by omega)]; walk_at "ev"
 rw [zi7 h' (by omega)]; walk_at "ev"
 unfold zhU; walk_at "ev"
 rw [zlc h (by omega), zlc h' (by omega)]; walk_at "ev"
 rw [zoa bL (by omega) k3]; walk_at "ev"
 rw [zuR (a := zbz (adj (zbz (Sp a b c d)))) ((LmF.BM.tr bL.cof).low k3) bL' (by omega) k1, k2]; walk_at "ev"
end LmH
set_option Elab.async false
set_option linter.all false
set_option maxRecDepth 100000
open PySem L2 DL Mir
namespace Lk44
open Mth LmP LmA LmD LmB LmE LmF LmH Lk43
theorem lc_4 {a b c d x y z u : D} {e : DSt → R D} {σ : DSt} (ha : e (some a :: σ) = .ok x) (hb : e (some b :: σ) = .ok y) (hc : e (some c :: σ) = .ok z) (hd : e (some d :: σ) = .ok u) : lcK 1 [0] (.ok [a, b, c, d]) zar za1 e σ = .ok [x, y, z, u] := by
 have t : lcD [0] zar za1 e (List.replicate 1 none ++ σ) [a, b, c, d] = (e (some a :: σ)).bind (fun y1 => ((e (some b :: σ)).bind fun y2 => ((e (some c :: σ)).bind fun y3 => ((e (some d :: σ)).bind fun y4 => (R.ok ([] : List D)).bind fun ys => .ok (y4 :: ys)).bind fun ys => .ok (y3 :: ys)).bind fun ys => .ok (y2 :: ys)).bind fun ys => .ok (y1 :: ys)) := rfl
 show (bif most 4 then (lcD [0] zar za1 e (List.replicate 1 none ++ σ) [a, b, c, d]).noerr else .bad) = _
 rw [t, ha, hb, hc, hd]; rfl
theorem zqW {n : Nat} {x y z : P3} (hx : BP n x) (hy : BP n y) (hz : BP n z) (hn : n ≤ 3000) : zb8 [ptD x, ptD y, ptD z] = .ok (.int (det3 x y z)) := by
 have bc := hx.crs hy
 rw [zgx]; unfold zer zfq; walk_at "ev"
 rw [zlV hx hy (by omega) (by omega)]; walk_at "ev"
 rw [zan _ _ (zai bc.x (by omega)) (zai hz.x (by omega)), zan _ _ (zai bc.y (by omega)) (zai hz.y (by omega)), zan _ _ (zai bc.z (by omega)) (zai hz.z (by omega))]; walk_at "ev"
 rw [show (crs x y).1 * z.1 + (crs x y).2.1 * z.2.1 + (crs x y).2.2 * z.2.2 = det3 x y z from by unfold det3 dot crs; grind]
theorem general_ok {n : Nat} {a b c d : P3} (ha : BP n a) (hb : BP n b) (hc : BP n c) (hd : BP n d) (hn : n ≤ 3000) : ∃ t, zaO [zoq a b c d] = .ok (.bl t) ∧ (t = true → G4 a b c d) := by
 have one : ∀ (k : Int) (x y z : P3) (u : Option D), BP n x → BP n y → BP n z → (eOp zbR (eSl (zad 0) ze1 (zdc (zad 1))) (eSl (zad 0) (zdc (eOp zbR (zad 1) (eC (.int 1)))) ze1)) [some (zoq a b c d), some (.int k), u] = .ok (.lst [ptD x, ptD y, ptD z]) → zds [some (zoq a b c d), some (.int k), u] = bif decide (det3 x y z = 0) then .ok (.rt (.bl false)) else .ok (.nx [some (zoq a b c d), some (.int k), some (.lst [ptD x, ptD y, ptD z])]) := by
  intro k x y z u hx hy hz e
  unfold zds
  rw [zfx, zhx, e]; walk_at "ev"
  unfold zd2; walk_at "ev"
  rw [zqW hx hy hz hn]; walk_at "ev"
  cases decide (det3 x y z = 0) <;> rfl
 rw [zgY]; unfold zcL; walk_at "ev"
 rw [show zgk [.int 4] = .ok [.int 0, .int 1, .int 2, .int 3] from rfl]; walk_at "ev"
 rw [one 0 b c d _ hb hc hd rfl]
 by_cases h0 : det3 b c d = 0
 ·rw [decide_eq_true h0]; exact ⟨false, rfl, fun z => by cases z⟩
 rw [decide_eq_false h0]; walk_at "ev"
 rw [one 1 a c d _ ha hc hd rfl]
 by_cases h1 : det3 a c d = 0
 ·rw [decide_eq_true h1]; exact ⟨false, rfl, fun z => by cases z⟩
 rw [decide_eq_false h1]; walk_at "ev"
 rw [one 2 a b d _ ha hb hd rfl]
 by_cases h2 : det3 a b d = 0
 ·rw [decide_eq_true h2]; exact ⟨false, rfl, fun z => by cases z⟩
 rw [decide_eq_false h2]; walk_at "ev"
 rw [one 3 a b c _ ha hb hc rfl]
 by_cases h3 : det3 a b c = 0
 ·rw [decide_eq_true h3]; exact ⟨false, rfl, fun z => by cases z⟩
 rw [decide_eq_false h3]; walk_at "ev"
 unfold zey; walk_at "ev"
 have e0 : det3 d b c = det3 b c d := by unfold det3 dot crs; grind
 have e1 : det3 a d c = -det3 a c d := by unfold det3 dot crs; grind
 exact ⟨true, rfl, fun _ => ⟨by rw [e0]; exact h0, by rw [e1]; omega, h2, h3⟩⟩
theorem pts4 {n : Nat} {a b c d : P3} (na : Nrm a) (nb : Nrm b) (nc : Nrm c) (nd : Nrm d) (ba : BP n a) (bb : BP n b) (bc : BP n c) (bd : BP n d) : Pts n [a, b, c, d] := by
 refine ⟨fun p hp => ?_, fun p hp => ?_⟩ <;> (simp only [List.mem_cons, List.not_mem_nil, or_false] at hp; rcases hp with rfl | rfl | rfl | rfl <;> assumption)
noncomputable def cell (ns : List Int) (k : Nat) : Int := ns.getD k 0
theorem cell_ok (ns : List Int) (k : Nat) : zaW [.lst (ns.map .int), .int (k : Int)] = .ok (.int (cell ns k)) := by
 rw [zgX]; unfold zcK zeo; walk_at "ev"
 rw [List.length_map]
 by_cases h : k < ns.length
 ·rw [decide_eq_true (by omega)]; walk_at "ev"
  rw [zjG (d := .int ns[k]) (by simp [h])]; walk_at "ev"
  simp [cell, h]
 ·rw [decide_eq_false (by omega)]; walk_at "ev"
  simp [cell, h]
end Lk44
set_option Elab.async false
set_option linter.all false
set_option maxRecDepth 100000
open PySem L2 DL Mir
namespace LmI
open Mth LmP LmA LmD LmB LmE LmF LmH
theorem zyO {a b c d f g x y z : D} {e : DSt → R D} {σ : DSt} (h1 : e (some a :: some b :: σ) = .ok x) (h2 : e (some c :: some d :: σ) = .ok y) (h3 : e (some f :: some g :: σ) = .ok z) : lcK 2 [0, 1] (.ok [.tup [a, b], .tup [c, d], .tup [f, g]]) (zea 2) za1 e σ = .ok [x, y, z] := by
 have t : lcD [0, 1] (zea 2) za1 e (List.replicate 2 none ++ σ) [.tup [a, b], .tup [c, d], .tup [f, g]] = (e (some a :: some b :: σ)).bind (fun y1 => ((e (some c :: some d :: σ)).bind fun y2 => ((e (some f :: some g :: σ)).bind fun y3 => (R.ok ([] : List D)).bind fun ys => .ok (y3 :: ys)).bind fun ys => .ok (y2 :: ys)).bind fun ys => .ok (y1 :: ys)) := rfl
 show (bif most 3 then (lcD [0, 1] (zea 2) za1 e (List.replicate 2 none ++ σ) [.tup [a, b], .tup [c, d], .tup [f, g]]).noerr else .bad) = _
 rw [t, h1, h2, h3]; rfl
theorem b3 {i : Int} (h : -3 ≤ i ∧ i ≤ 3) : B 3 i := B.of (k := 3) (by omega)
theorem lin {m n : Nat} {s t x y : Int} (hs : B 3 s) (ht : B 3 t) (hx : B n x) (hy : B n y) : B (n + 4) (s * x + t * y) := ((hs.mul hx).add (ht.mul hy)).mono (by omega)
theorem Pts.snoc {n : Nat} {ps : List P3} {r : P3} (h : Pts n ps) (hr : Nrm r) (br : BP n r) : Pts n (ps ++ [r]) :=
 ⟨fun p hp => (List.mem_append.mp hp).elim (h.nrm p) fun z => by rw [List.mem_singleton.mp z]; exact hr, fun p hp => (List.mem_append.mp hp).elim (h.bd p) fun z => by rw [List.mem_singleton.mp z]; exact br⟩
theorem zsg (c : Int) : ∃ f : Nat → P3, ∀ k : Nat, k ≤ 100 → zaT [.int c, .int (k : Int)] = .ok (ptD (f k)) ∧ Nrm (f k) ∧ BP 20 (f k) :=
 ⟨fun k => if h : k ≤ 100 then Classical.choose (zbo c k h) else (0, 0, 1), fun k h => by
  have e : (if h : k ≤ 100 then Classical.choose (zbo c k h) else (0, 0, 1)) = Classical.choose (zbo c k h) := dif_pos h
  have z := Classical.choose_spec (zbo c k h)
  rw [← e] at z
  exact z⟩
theorem mix7 (h k : Int) (h0 : 0 ≤ k) (h1 : k ≤ 1000) : ∃ r, zaB [.int h, .int k] = .ok (.int r) ∧ -3 ≤ r % 7 - 3 ∧ r % 7 - 3 ≤ 3 := by
 obtain ⟨r, e, _, _⟩ := zbV h k h0 h1
 exact ⟨r, e, by omega, by omega⟩
end LmI
set_option Elab.async false
set_option linter.all false
set_option maxRecDepth 100000
open PySem L2 DL Mir
namespace LmJ
open Mth LmP LmA LmD LmB LmE LmF LmH LmI
noncomputable def rg (lo m : Nat) : List Nat := (List.range (m - lo)).map (lo + ·)
theorem zcx {lo m k : Nat} : k ∈ rg lo m ↔ lo ≤ k ∧ k < m := by
 unfold rg
 rw [List.mem_map]
 constructor
 ·rintro ⟨i, hi, rfl⟩
  have := List.mem_range.mp hi
  omega
 ·rintro ⟨h1, h2⟩
  exact ⟨k - lo, List.mem_range.mpr (by omega), by omega⟩
theorem zdX (lo m : Nat) : zgi (lo : Int) ((m : Int) - (lo : Int)).toNat = (rg lo m).map fun k : Nat => D.int (k : Int) := by
 unfold zgi rg
 rw [List.map_map, show ((m : Int) - (lo : Int)).toNat = m - lo by omega]
 congr 1
theorem zib {i : Nat} {fb : DSt → R Out} (I : DSt → Prop) (g : Nat → Option D) : ∀ (ks : List Nat), (∀ k ∈ ks, ∀ σ, I σ → (∃ v, g k = some v ∧ fb (σ.set i (some (.int (k : Int)))) = .ok (.rt v)) ∨ (g k = none ∧ ∃ σ', fb (σ.set i (some (.int (k : Int)))) = .ok (.nx σ') ∧ I σ')) → ∀ σ, I σ →
  (∃ v, ks.findSome? g = some v ∧ zis [i] zar fb (ks.map fun k : Nat => .int (k : Int)) σ = .ok (.rt v)) ∨ (ks.findSome? g = none ∧ ∃ σ', zis [i] zar fb (ks.map fun k : Nat => .int (k : Int)) σ = .ok (.nx σ') ∧ I σ')
 | [], _, σ, h => .inr ⟨rfl, σ, rfl, h⟩
 | k :: ks, hs, σ, h => by
  rw [List.map_cons, zco, List.findSome?_cons]
  rcases hs k (by simp) σ h with ⟨v, e1, e2⟩ | ⟨e1, σ', e2, h'⟩
  ·rw [e1, e2]; exact .inl ⟨v, rfl, rfl⟩
  ·rw [e1, e2, zjH]
   exact zib I g ks (fun k hk => hs k (by simp [hk])) σ' h'
structure Fl (ps : List P3) : Prop where
 pts : Pts 24 ps
 nd : ps.Nodup
 one : 1 ≤ ps.length
 most : ps.length ≤ 12
noncomputable def pk (ps : List P3) (k : Nat) : P3 := ps.getD k (0, 0, 1)
theorem zic {ps : List P3} {k : Nat} (h : k < ps.length) : ps[k]? = some (pk ps k) := by simp [pk, h]
theorem zld {ps : List P3} {k : Nat} (h : k < ps.length) : pk ps k ∈ ps := List.mem_of_getElem? (zic h)
theorem Fl.ix {ps : List P3} {k : Nat} (h : k < ps.length) : gIx (.lst (ps.map ptD)) (.int (k : Int)) = .ok (ptD (pk ps k)) := zjG (by rw [List.getElem?_map, zic h]; rfl)
noncomputable def zfe (ps : List P3) (a b c d : Nat) : Bool := !(decide (det3 (pk ps d) (pk ps a) (pk ps b) = 0) || (decide (det3 (pk ps d) (pk ps b) (pk ps c) = 0) || decide (det3 (pk ps d) (pk ps a) (pk ps c) = 0)))
theorem any3 (x y z : Bool) : zwz [.lst [.bl x, .bl y, .bl z]] = .ok (.bl (x || (y || z))) := by cases x <;> cases y <;> cases z <;> rfl
noncomputable def zid (ps : List P3) (a b c : Nat) : Option D := (rg (c + 1) ps.length).findSome? fun d => if zfe ps a b c d then some (.int (d : Int)) else none
noncomputable def zuV (ps : List P3) (a b c d : Nat) : Bool := !decide (det3 (pk ps c) (pk ps a) (pk ps b) = 0) && zfe ps a b c d
noncomputable def zvd (a b c d : Nat) : D := .tup [.int (a : Int), .int (b : Int), .int (c : Int), .int (d : Int)]
noncomputable def zle (ps : List P3) (a b c : Nat) : Option D := (rg (c + 1) ps.length).findSome? fun d => if zuV ps a b c d then some (zvd a b c d) else none
noncomputable def zuW (ps : List P3) (a b : Nat) : Option D := (rg (b + 1) ps.length).findSome? fun c => zle ps a b c
noncomputable def zuX (ps : List P3) (a : Nat) : Option D := (rg (a + 1) ps.length).findSome? fun b => zuW ps a b
noncomputable def zjV (ps : List P3) : Option D := (rg 0 ps.length).findSome? fun a => zuX ps a
theorem zsh {ps : List P3} {a b c : Nat} (h : det3 (pk ps c) (pk ps a) (pk ps b) = 0) : zle ps a b c = none := by
 unfold zle
 rw [List.findSome?_eq_none_iff]
 intro d _
 unfold zuV
 rw [decide_eq_true h]; rfl
theorem zsi {ps : List P3} {a b c : Nat} (h : det3 (pk ps c) (pk ps a) (pk ps b) ≠ 0) : (zid ps a b c = none ∧ zle ps a b c = none) ∨ ∃ d : Nat, zid ps a b c = some (.int (d : Int)) ∧ zle ps a b c = some (zvd a b c d) := by
 unfold zid zle
 generalize rg (c + 1) ps.length = ks
 induction ks with
 | nil => exact .inl ⟨rfl, rfl⟩
 | cons k ks ih =>
  rw [List.findSome?_cons, List.findSome?_cons]
  have e : zuV ps a b c k = zfe ps a b c k := by unfold zuV; rw [decide_eq_false h]; rfl
  rw [e]
  cases zfe ps a b c k with
  | true => exact .inr ⟨k, rfl, rfl⟩
  | false => exact ih
end LmJ
set_option Elab.async false
set_option linter.all false
set_option maxRecDepth 100000
open PySem L2 DL Mir
namespace LmK
open Mth LmP LmA LmD LmB LmE LmF LmH LmI LmJ
theorem zqX (lo m : Nat) : (rg lo m).length = m - lo := by simp [rg]
theorem ztu (ps : List P3) (a b c d : Nat) : zuV ps a b c d = (!(decide (det3 (pk ps b) (pk ps c) (pk ps d) = 0)) && (!(decide (det3 (pk ps a) (pk ps c) (pk ps d) = 0)) && (!(decide (det3 (pk ps a) (pk ps b) (pk ps d) = 0)) && !(decide (det3 (pk ps a) (pk ps b) (pk ps c) = 0))))) := by
 have rot : ∀ x y z : P3, det3 z x y = det3 x y z := fun x y z => by unfold det3 dot crs; grind
 unfold zuV zfe
 rw [rot (pk ps a) (pk ps b) (pk ps c), rot (pk ps a) (pk ps b) (pk ps d), rot (pk ps b) (pk ps c) (pk ps d), rot (pk ps a) (pk ps c) (pk ps d)]
 cases decide (det3 (pk ps b) (pk ps c) (pk ps d) = 0) <;> cases decide (det3 (pk ps a) (pk ps c) (pk ps d) = 0) <;> cases decide (det3 (pk ps a) (pk ps b) (pk ps d) = 0) <;> cases decide (det3 (pk ps a) (pk ps b) (pk ps c) = 0) <;> rfl
end LmK
set_option Elab.async false
set_option linter.all false
set_option maxRecDepth 100000
open PySem L2 DL Mir
namespace Lk12
open Mth LmP LmA LmD LmB LmE LmF LmH LmI LmJ LmK
theorem ne_same {d : D} (h : zdt 9 d = true) : gNe d d = .ok (.bl false) := by
 rw [zmZ (by unfold zoo; rw [h]; rfl), zjz 9 _ h]; rfl
theorem m1 : Nrm (1, 0, 0) := ⟨fun h => absurd h.1 (by decide), by decide⟩
theorem m2 : Nrm (0, 1, 0) := ⟨fun h => absurd h.2.1 (by decide), by decide⟩
theorem m3 : Nrm (0, 0, 1) := ⟨fun h => absurd h.2.2 (by decide), by decide⟩
theorem m4 : Nrm (1, 1, 1) := ⟨fun h => absurd h.1 (by decide), by decide⟩
end Lk12
set_option Elab.async false
set_option linter.all false
set_option maxRecDepth 100000
open PySem L2 DL Mir
namespace LmL
open Mth LmP LmA LmD LmB LmE LmF LmH LmI LmJ LmK
theorem eSl_to (fe f : DSt → R D) (σ : DSt) (ds : List D) (n : Nat) (h1 : fe σ = .ok (.lst ds)) (h2 : f σ = .ok (.int (n : Int))) : eSl fe ze1 (zdc f) σ = .ok (.lst (ds.take n)) := Lk42.eSl_to fe f σ ds n h1 h2
theorem eSl_from (fe f : DSt → R D) (σ : DSt) (ds : List D) (n : Nat) (h1 : fe σ = .ok (.lst ds)) (h2 : f σ = .ok (.int (n : Int))) : eSl fe (zdc f) ze1 σ = .ok (.lst (ds.drop n)) := by
 unfold eSl ze1 zdc
 rw [h1, h2]
 show R.ok (D.lst (zq8 ds (some (n : Int)) none)) = _
 unfold zq8
 rw [HT.sIx_none, HT.sIx_nat]
 congr 2
 by_cases h : n ≤ ds.length
 ·rw [Nat.min_eq_left h, List.take_of_length_le (by rw [List.length_drop]; omega)]
 ·rw [Nat.min_eq_right (by omega), List.drop_of_length_le (by omega), List.drop_of_length_le (by omega)]; simp
theorem zqY {ps : List P3} {p : P3} {m : Nat} (h : p ∈ ps.eraseIdx m) : ∃ i, i < ps.length ∧ i ≠ m ∧ pk ps i = p := by
 obtain ⟨i, hi, e⟩ := List.mem_eraseIdx_iff_getElem?.mp h
 have hl := (List.getElem?_eq_some_iff.mp e).1
 refine ⟨i, hl, hi, ?_⟩
 have := zic hl
 rw [e] at this
 exact (Option.some.inj this).symm
end LmL
set_option Elab.async false
set_option linter.all false
set_option maxRecDepth 100000
open PySem L2 DL Mir
namespace LmR
open Mth LmP LmA LmD LmB LmE LmF LmH LmI LmJ LmK LmL
structure Fl6 (ps : List P3) : Prop where
 pts : Pts 100 ps
 nd : ps.Nodup
 one : 1 ≤ ps.length
 most : ps.length ≤ 12
theorem Fl6.nrm {ps : List P3} (F : Fl6 ps) {k : Nat} (h : k < ps.length) : Nrm (pk ps k) := F.pts.nrm _ (zld h)
theorem Fl6.bd {ps : List P3} (F : Fl6 ps) {k : Nat} (h : k < ps.length) : BP 100 (pk ps k) := F.pts.bd _ (zld h)
theorem Fl6.ne {ps : List P3} (F : Fl6 ps) {i j : Nat} (hi : i < j) (hj : j < ps.length) : pk ps i ≠ pk ps j := fun e => by
 have h1 := zic (ps := ps) (k := i) (by omega)
 have h2 := zic hj
 rw [e, ← h2] at h1
 exact absurd ((List.getElem?_inj (by omega) F.nd).mp h1) (by omega)
theorem znC {p q r : P3} (hp : BP 100 p) (hq : BP 100 q) (hr : BP 100 r) (hz : Nz (crs q r)) : zbb [ptD p, ptD (low (crs q r))] = .ok (.bl (decide (det3 p q r = 0))) := by
 rw [zlU hp ((hq.crs hr).low hz) (by decide) (by decide), decide_eq_decide.mpr (zjm hz)]; rfl
theorem zsj {ps : List P3} (F : Fl6 ps) {a b c : Nat} (hab : a < b) (hbc : b < c) (hc : c < ps.length) : zbK [.lst (ps.map ptD), .int (a : Int), .int (b : Int), .int (c : Int)] = .ok ((zid ps a b c).getD .non) := by
 have ha : a < ps.length := by omega
 have hb : b < ps.length := by omega
 have z1 := zbG (F.nrm ha) (F.nrm hb) (F.ne hab hb)
 have z2 := zbG (F.nrm hb) (F.nrm hc) (F.ne hbc hc)
 have z3 := zbG (F.nrm ha) (F.nrm hc) (F.ne (by omega) hc)
 have hm := F.most
 rw [ze6]; unfold zc2; walk_at "ev"
 rw [Fl.ix ha, Fl.ix hb, Fl.ix hc]; walk_at "ev"
 rw [zbv (F.bd ha) (F.bd hb) (by decide) (F.ne hab hb) z1, zbv (F.bd hb) (F.bd hc) (by decide) (F.ne hbc hc) z2, zbv (F.bd ha) (F.bd hc) (by decide) (F.ne (by omega) hc) z3]; walk_at "ev"
 unfold zdQ; walk_at "ev"
 rw [List.length_map, show (c : Int) + 1 = ((c + 1 : Nat) : Int) by omega, zfo _ _ (zcv (by omega) (by omega)) (zcv (by omega) (by omega)), zdX]; walk_at "ev"
 have turn : ∀ d ∈ rg (c + 1) ps.length, ∀ σ, (∃ x, σ = [some (.lst (ps.map ptD)), some (.int (a : Int)), some (.int (b : Int)), some (.int (c : Int)), some (.lst [ptD (low (crs (pk ps a) (pk ps b))), ptD (low (crs (pk ps b) (pk ps c))), ptD (low (crs (pk ps a) (pk ps c)))]), x]) →
   (∃ v, (if zfe ps a b c d then some (D.int (d : Int)) else none) = some v ∧ zbd (σ.set 5 (some (.int (d : Int)))) = .ok (.rt v)) ∨ ((if zfe ps a b c d then some (D.int (d : Int)) else none) = none ∧ ∃ σ', zbd (σ.set 5 (some (.int (d : Int)))) = .ok (.nx σ') ∧ ∃ x, σ' = [some (.lst (ps.map ptD)), some (.int (a : Int)), some (.int (b : Int)), some (.int (c : Int)), some (.lst [ptD (low (crs (pk ps a) (pk ps b))), ptD (low (crs (pk ps b) (pk ps c))), ptD (low (crs (pk ps a) (pk ps c)))]), x]) := by
  rintro d hd σ ⟨x, rfl⟩
  obtain ⟨d1, d2⟩ := zcx.mp hd
  have e : zbd [some (.lst (ps.map ptD)), some (.int (a : Int)), some (.int (b : Int)), some (.int (c : Int)), some (.lst [ptD (low (crs (pk ps a) (pk ps b))), ptD (low (crs (pk ps b) (pk ps c))), ptD (low (crs (pk ps a) (pk ps c)))]), some (.int (d : Int))] = bif zfe ps a b c d then .ok (.rt (.int (d : Int))) else .ok (.nx [some (.lst (ps.map ptD)), some (.int (a : Int)), some (.int (b : Int)), some (.int (c : Int)), some (.lst [ptD (low (crs (pk ps a) (pk ps b))), ptD (low (crs (pk ps b) (pk ps c))), ptD (low (crs (pk ps a) (pk ps c)))]), some (.int (d : Int))]) := by
   unfold zbd; walk_at "ev"
   rw [zxx (x := .bl (decide (det3 (pk ps d) (pk ps a) (pk ps b) = 0))) (y := .bl (decide (det3 (pk ps d) (pk ps b) (pk ps c) = 0))) (z := .bl (decide (det3 (pk ps d) (pk ps a) (pk ps c) = 0))) ?_ ?_ ?_]
   ·walk_at "ev"
    rw [any3]; walk_at "ev"
    unfold zfe
    cases decide (det3 (pk ps d) (pk ps a) (pk ps b) = 0) <;> cases decide (det3 (pk ps d) (pk ps b) (pk ps c) = 0) <;> cases decide (det3 (pk ps d) (pk ps a) (pk ps c) = 0) <;> rfl
   ·walk_at "ev"
    rw [Fl.ix d2]; walk_at "ev"
    exact znC (F.bd d2) (F.bd ha) (F.bd hb) z1
   ·walk_at "ev"
    rw [Fl.ix d2]; walk_at "ev"
    exact znC (F.bd d2) (F.bd hb) (F.bd hc) z2
   ·walk_at "ev"
    rw [Fl.ix d2]; walk_at "ev"
    exact znC (F.bd d2) (F.bd ha) (F.bd hc) z3
  rw [show List.set _ 5 _ = [some (.lst (ps.map ptD)), some (.int (a : Int)), some (.int (b : Int)), some (.int (c : Int)), some (.lst [ptD (low (crs (pk ps a) (pk ps b))), ptD (low (crs (pk ps b) (pk ps c))), ptD (low (crs (pk ps a) (pk ps c)))]), some (.int (d : Int))] from rfl, e]
  cases zfe ps a b c d with
  | true => exact .inl ⟨_, rfl, rfl⟩
  | false => exact .inr ⟨rfl, _, rfl, _, rfl⟩
 unfold zid
 rcases zib _ _ _ turn _ ⟨none, rfl⟩ with ⟨v, e1, e2⟩ | ⟨e1, σ', e2, x, rfl⟩
 ·rw [e1, e2]; walk_at "ev"
  rfl
 ·rw [e1, e2]; walk_at "ev"
  unfold zfJ; walk_at "ev"
  rfl
theorem zuY {ps : List P3} (F : Fl6 ps) : zbe [.lst (ps.map ptD)] = .ok ((zjV ps).getD .non) := by
 have hm := F.most
 have la := zeX F.pts (by decide) F.nd F.one F.most
 have t3 : ∀ a b : Nat, a < b → b < ps.length → ∀ c ∈ rg (b + 1) ps.length, ∀ σ, (∃ x y, σ = [some (.lst (ps.map ptD)), some (.int (a : Int)), some (.int (b : Int)), some (ptD (low (crs (pk ps a) (pk ps b)))), x, y]) →
   (∃ v, zle ps a b c = some v ∧ zaY (σ.set 4 (some (.int (c : Int)))) = .ok (.rt v)) ∨ (zle ps a b c = none ∧ ∃ σ', zaY (σ.set 4 (some (.int (c : Int)))) = .ok (.nx σ') ∧ ∃ x y, σ' = [some (.lst (ps.map ptD)), some (.int (a : Int)), some (.int (b : Int)), some (ptD (low (crs (pk ps a) (pk ps b)))), x, y]) := by
  rintro a b hab hb c hc σ ⟨x, y, rfl⟩
  obtain ⟨c1, c2⟩ := zcx.mp hc
  have ha : a < ps.length := by omega
  have z1 := zbG (F.nrm ha) (F.nrm hb) (F.ne hab hb)
  rw [show List.set _ 4 _ = [some (.lst (ps.map ptD)), some (.int (a : Int)), some (.int (b : Int)), some (ptD (low (crs (pk ps a) (pk ps b)))), some (.int (c : Int)), y] from rfl]
  unfold zaY; walk_at "ev"
  rw [Fl.ix c2]; walk_at "ev"
  rw [znC (F.bd c2) (F.bd ha) (F.bd hb) z1]; walk_at "ev"
  by_cases hz : det3 (pk ps c) (pk ps a) (pk ps b) = 0
  ·rw [decide_eq_true hz]; walk_at "ev"
   exact .inr ⟨zsh hz, _, rfl, _, _, rfl⟩
  ·rw [decide_eq_false hz]; walk_at "ev"
   unfold zb5; walk_at "ev"
   rw [zsj F hab (by omega) c2]
   rcases zsi hz with ⟨e1, e2⟩ | ⟨d, e1, e2⟩
   ·rw [e1, e2]
    show (_ ∨ _)
    rw [show (none : Option D).getD .non = .non from rfl]; walk_at "ev"
    unfold zaX; walk_at "ev"
    exact .inr ⟨trivial, _, rfl, _, _, rfl⟩
   ·rw [e1, e2, show (some (D.int (d : Int))).getD .non = .int (d : Int) from rfl]; walk_at "ev"
    unfold zaX; walk_at "ev"
    exact .inl ⟨_, rfl, rfl⟩
 have t2 : ∀ a : Nat, a < ps.length → ∀ b ∈ rg (a + 1) ps.length, ∀ σ, (∃ x y z w, σ = [some (.lst (ps.map ptD)), some (.int (a : Int)), x, y, z, w]) →
   (∃ v, zuW ps a b = some v ∧ zbE (σ.set 2 (some (.int (b : Int)))) = .ok (.rt v)) ∨ (zuW ps a b = none ∧ ∃ σ', zbE (σ.set 2 (some (.int (b : Int)))) = .ok (.nx σ') ∧ ∃ x y z w, σ' = [some (.lst (ps.map ptD)), some (.int (a : Int)), x, y, z, w]) := by
  rintro a ha b hb σ ⟨x, y, z, w, rfl⟩
  obtain ⟨b1, b2⟩ := zcx.mp hb
  have z1 := zbG (F.nrm ha) (F.nrm b2) (F.ne (by omega) b2)
  rw [show List.set _ 2 _ = [some (.lst (ps.map ptD)), some (.int (a : Int)), some (.int (b : Int)), y, z, w] from rfl]
  unfold zbE; walk_at "ev"
  rw [Fl.ix ha, Fl.ix b2]; walk_at "ev"
  rw [zbv (F.bd ha) (F.bd b2) (by decide) (F.ne (by omega) b2) z1]; walk_at "ev"
  unfold zcA; walk_at "ev"
  rw [List.length_map, show (b : Int) + 1 = ((b + 1 : Nat) : Int) by omega, zfo _ _ (zcv (by omega) (by omega)) (zcv (by omega) (by omega)), zdX]; walk_at "ev"
  rcases zib _ _ _ (t3 a b (by omega) b2) _ ⟨z, w, rfl⟩ with ⟨v, e1, e2⟩ | ⟨e1, σ', e2, x', y', rfl⟩
  ·exact .inl ⟨v, e1, e2⟩
  ·exact .inr ⟨e1, _, e2, _, _, _, _, rfl⟩
 have t1 : ∀ a ∈ rg 0 ps.length, ∀ σ, (∃ u x y z w, σ = [some (.lst (ps.map ptD)), u, x, y, z, w]) →
   (∃ v, zuX ps a = some v ∧ zb6 (σ.set 1 (some (.int (a : Int)))) = .ok (.rt v)) ∨ (zuX ps a = none ∧ ∃ σ', zb6 (σ.set 1 (some (.int (a : Int)))) = .ok (.nx σ') ∧ ∃ u x y z w, σ' = [some (.lst (ps.map ptD)), u, x, y, z, w]) := by
  rintro a ha σ ⟨u, x, y, z, w, rfl⟩
  obtain ⟨_, a2⟩ := zcx.mp ha
  rw [show List.set _ 1 _ = [some (.lst (ps.map ptD)), some (.int (a : Int)), x, y, z, w] from rfl]
  unfold zb6; walk_at "ev"
  rw [List.length_map, show (a : Int) + 1 = ((a + 1 : Nat) : Int) by omega, zfo _ _ (zcv (by omega) (by omega)) (zcv (by omega) (by omega)), zdX]; walk_at "ev"
  rcases zib _ _ _ (t2 a a2) _ ⟨x, y, z, w, rfl⟩ with ⟨v, e1, e2⟩ | ⟨e1, σ', e2, x', y', z', w', rfl⟩
  ·exact .inl ⟨v, e1, e2⟩
  ·exact .inr ⟨e1, _, e2, _, _, _, _, _, rfl⟩
 rw [zfK]; unfold zdw; walk_at "ev"
 rw [la]; walk_at "ev"
 unfold zel; walk_at "ev"
 rw [List.length_map, zkO _ (zcv (by omega) (by omega)), show zgi 0 (ps.length : Int).toNat = (rg 0 ps.length).map fun k : Nat => D.int (k : Int) from by have := zdX 0 ps.length; simpa using this]; walk_at "ev"
 unfold zjV
 rcases zib _ _ _ t1 _ ⟨none, none, none, none, none, rfl⟩ with ⟨v, e1, e2⟩ | ⟨e1, σ', e2, u, x, y, z, w, rfl⟩
 ·rw [e1, e2]; walk_at "ev"
  rfl
 ·rw [e1, e2]; walk_at "ev"
  unfold zgu; walk_at "ev"
  rfl
theorem zgc {m : M3} (hm : det m ≠ 0) {x y z : P3} (hx : Nz x) (hy : Nz y) (hz : Nz z) : det3 (low (mul m x)) (low (mul m y)) (low (mul m z)) = 0 ↔ det3 x y z = 0 := by
 have nx := zge hm hx
 have ny := zge hm hy
 have nz := zge hm hz
 have e := zcG (sOf (mul m x)) (sOf (mul m y)) (sOf (mul m z)) (low (mul m x)) (low (mul m y)) (low (mul m z))
 rw [← zdp nx, ← zdp ny, ← zdp nz, zdd] at e
 have s0 : sOf (mul m x) * sOf (mul m y) * sOf (mul m z) ≠ 0 := zby (zby (zdu nx).1 (zdu ny).1) (zdu nz).1
 constructor
 ·intro h
  rw [h, Int.mul_zero] at e
  exact zed hm e
 ·intro h
  rw [h, Int.mul_zero] at e
  exact zed s0 e.symm
theorem zxc {m : M3} (hm : det m ≠ 0) {x y : P3} (hx : Nrm x) (hy : Nrm y) (h : x ≠ y) : low (mul m x) ≠ low (mul m y) := fun e => h (by
 have b1 := (zjr hm hx).2
 have b2 := (zjr hm hy).2
 rw [e] at b1
 rw [← b1, b2])
noncomputable def zcQ (m : M3) (ps : List P3) : List P3 := ps.map fun p => low (mul m p)
theorem zuZ {m : M3} (hm : det m ≠ 0) {ps : List P3} (h : ∀ p ∈ ps, Nz p) : Col (zcQ m ps) ↔ Col ps := by
 constructor
 ·intro c p hp q hq r hr
  exact (zgc hm (h p hp) (h q hq) (h r hr)).mp (c _ (List.mem_map.mpr ⟨p, hp, rfl⟩) _ (List.mem_map.mpr ⟨q, hq, rfl⟩) _ (List.mem_map.mpr ⟨r, hr, rfl⟩))
 ·intro c p' hp' q' hq' r' hr'
  obtain ⟨p, hp, e1⟩ := List.mem_map.mp hp'
  obtain ⟨q, hq, e2⟩ := List.mem_map.mp hq'
  obtain ⟨r, hr, e3⟩ := List.mem_map.mp hr'
  rw [← e1, ← e2, ← e3]
  exact (zgc hm (h p hp) (h q hq) (h r hr)).mpr (c p hp q hq r hr)
theorem zdm {m : M3} {ps : List P3} {k : Nat} (hk : k < ps.length) : pk (zcQ m ps) k = low (mul m (pk ps k)) := by
 unfold pk zcQ
 rw [List.getD_eq_getElem?_getD, List.getD_eq_getElem?_getD, List.getElem?_map, List.getElem?_eq_getElem hk]; rfl
theorem zeY (m : M3) (ps : List P3) : (zcQ m ps).length = ps.length := List.length_map _
theorem Fl6.led {m : M3} {k n : Nat} {ps : List P3} (F : Fl6 ps) (hm : det m ≠ 0) (bm : BM k m) (hb : ∀ p ∈ ps, BP n p) (hk : k + n + 2 ≤ 100) : Fl6 (zcQ m ps) := by
 refine ⟨⟨fun p hp => ?_, fun p hp => ?_⟩, ?_, by rw [zeY]; exact F.one, by rw [zeY]; exact F.most⟩
 ·obtain ⟨q, hq, rfl⟩ := List.mem_map.mp hp
  exact zhj (zge hm (F.pts.nrm q hq).nz)
 ·obtain ⟨q, hq, rfl⟩ := List.mem_map.mp hp
  exact ((bm.mul (hb q hq)).low (zge hm (F.pts.nrm q hq).nz)).mono hk
 ·refine List.pairwise_iff_getElem.mpr fun i j hi hj hij e => ?_
  have hi' : i < ps.length := by rw [zeY] at hi; exact hi
  have hj' : j < ps.length := by rw [zeY] at hj; exact hj
  have a1 := zic hi
  have a2 := zic hj
  rw [List.getElem?_eq_getElem hi] at a1
  rw [List.getElem?_eq_getElem hj] at a2
  have e1 := Option.some.inj a1
  have e2 := Option.some.inj a2
  rw [zdm hi'] at e1
  rw [zdm hj'] at e2
  rw [e1, e2] at e
  exact zxc hm (F.nrm hi') (F.nrm hj') (F.ne hij hj') e
theorem zsk {ps : List P3} (F : Fl6 ps) {m : M3} (hm : det m ≠ 0) (F' : Fl6 (zcQ m ps)) : zcg [.lst (ps.map ptD), .lst ((zcQ m ps).map ptD)] = .ok .non := by
 have hmo := F.most
 have ll := zeY m ps
 have t3 : ∀ i j : Nat, i < ps.length → j < ps.length → ∀ d ∈ (rg (j + 1) ps.length).map (fun k : Nat => D.int (k : Int)), ∀ σ, (∃ x, σ = [some (.lst (ps.map ptD)), some (.lst ((zcQ m ps).map ptD)), some (.int (i : Int)), some (.int (j : Int)), x]) → ∃ σ', (zbF (σ.set 4 (some d)) = .ok (.nx σ') ∨ zbF (σ.set 4 (some d)) = .ok (.ct σ')) ∧ ∃ x, σ' = [some (.lst (ps.map ptD)), some (.lst ((zcQ m ps).map ptD)), some (.int (i : Int)), some (.int (j : Int)), x] := by
  rintro i j hi hj d hd σ ⟨x, rfl⟩
  obtain ⟨k, hk, rfl⟩ := List.mem_map.mp hd
  have hk := (zcx.mp hk).2
  rw [show List.set _ 4 _ = [some (.lst (ps.map ptD)), some (.lst ((zcQ m ps).map ptD)), some (.int (i : Int)), some (.int (j : Int)), some (.int (k : Int))] from rfl]
  have mem : ∀ p ∈ [pk ps i, pk ps j, pk ps k], Nrm p ∧ BP 100 p := fun p hp => by
   simp only [List.mem_cons, List.not_mem_nil, or_false] at hp
   rcases hp with rfl | rfl | rfl
   ·exact ⟨F.nrm hi, F.bd hi⟩
   ·exact ⟨F.nrm hj, F.bd hj⟩
   ·exact ⟨F.nrm hk, F.bd hk⟩
  have mem' : ∀ p ∈ zcQ m [pk ps i, pk ps j, pk ps k], Nrm p ∧ BP 100 p := fun p hp => by
   obtain ⟨q, hq, rfl⟩ := List.mem_map.mp hp
   simp only [List.mem_cons, List.not_mem_nil, or_false] at hq
   rcases hq with rfl | rfl | rfl
   ·rw [← zdm hi]; exact ⟨F'.nrm (by omega), F'.bd (by omega)⟩
   ·rw [← zdm hj]; exact ⟨F'.nrm (by omega), F'.bd (by omega)⟩
   ·rw [← zdm hk]; exact ⟨F'.nrm (by omega), F'.bd (by omega)⟩
  obtain ⟨b1, o1, c1⟩ := zla (ps := [pk ps i, pk ps j, pk ps k]) ⟨fun p hp => (mem p hp).1, fun p hp => (mem p hp).2⟩ (by decide) (by simp)
  obtain ⟨b2, o2, c2⟩ := zla (ps := zcQ m [pk ps i, pk ps j, pk ps k]) ⟨fun p hp => (mem' p hp).1, fun p hp => (mem' p hp).2⟩ (by decide) (by simp [zcQ])
  have e : b1 = b2 := by
   rw [Bool.eq_iff_iff, c1, c2, zuZ hm fun p hp => (mem p hp).1.nz]
  unfold zbF; walk_at "ev"
  rw [Fl.ix hi, Fl.ix hj, Fl.ix hk, Fl.ix (ps := zcQ m ps) (k := i) (by omega), Fl.ix (ps := zcQ m ps) (k := j) (by omega), Fl.ix (ps := zcQ m ps) (k := k) (by omega), zdm hi, zdm hj, zdm hk]; walk_at "ev"
  rw [show za2 [.lst [ptD (pk ps i), ptD (pk ps j), ptD (pk ps k)]] = _ from o1, show za2 [.lst [ptD (low (mul m (pk ps i))), ptD (low (mul m (pk ps j))), ptD (low (mul m (pk ps k)))]] = _ from o2, e]; walk_at "ev"
  rw [show (b2 == b2) = true from by cases b2 <;> rfl]; walk_at "ev"
  exact ⟨_, .inl rfl, _, rfl⟩
 have t2 : ∀ i : Nat, i < ps.length → ∀ d ∈ (rg (i + 1) ps.length).map (fun k : Nat => D.int (k : Int)), ∀ σ, (∃ x y, σ = [some (.lst (ps.map ptD)), some (.lst ((zcQ m ps).map ptD)), some (.int (i : Int)), x, y]) → ∃ σ', (zb7 (σ.set 3 (some d)) = .ok (.nx σ') ∨ zb7 (σ.set 3 (some d)) = .ok (.ct σ')) ∧ ∃ x y, σ' = [some (.lst (ps.map ptD)), some (.lst ((zcQ m ps).map ptD)), some (.int (i : Int)), x, y] := by
  rintro i hi d hd σ ⟨x, y, rfl⟩
  obtain ⟨j, hj, rfl⟩ := List.mem_map.mp hd
  have hj := (zcx.mp hj).2
  rw [show List.set _ 3 _ = [some (.lst (ps.map ptD)), some (.lst ((zcQ m ps).map ptD)), some (.int (i : Int)), some (.int (j : Int)), y] from rfl]
  unfold zb7; walk_at "ev"
  rw [List.length_map, show (j : Int) + 1 = ((j + 1 : Nat) : Int) by omega, zfo _ _ (zcv (by omega) (by omega)) (zcv (by omega) (by omega)), zdX]; walk_at "ev"
  obtain ⟨σ', e, x', rfl⟩ := zfz (i := 4) (fb := zbF) _ _ (t3 i j hi hj) [some (.lst (ps.map ptD)), some (.lst ((zcQ m ps).map ptD)), some (.int (i : Int)), some (.int (j : Int)), y] ⟨_, rfl⟩
  exact ⟨_, .inl e, _, _, rfl⟩
 have t1 : ∀ d ∈ (rg 0 ps.length).map (fun k : Nat => D.int (k : Int)), ∀ σ, (∃ x y z, σ = [some (.lst (ps.map ptD)), some (.lst ((zcQ m ps).map ptD)), x, y, z]) → ∃ σ', (zcw (σ.set 2 (some d)) = .ok (.nx σ') ∨ zcw (σ.set 2 (some d)) = .ok (.ct σ')) ∧ ∃ x y z, σ' = [some (.lst (ps.map ptD)), some (.lst ((zcQ m ps).map ptD)), x, y, z] := by
  rintro d hd σ ⟨x, y, z, rfl⟩
  obtain ⟨i, hi, rfl⟩ := List.mem_map.mp hd
  have hi := (zcx.mp hi).2
  rw [show List.set _ 2 _ = [some (.lst (ps.map ptD)), some (.lst ((zcQ m ps).map ptD)), some (.int (i : Int)), y, z] from rfl]
  unfold zcw; walk_at "ev"
  rw [List.length_map, show (i : Int) + 1 = ((i + 1 : Nat) : Int) by omega, zfo _ _ (zcv (by omega) (by omega)) (zcv (by omega) (by omega)), zdX]; walk_at "ev"
  obtain ⟨σ', e, x', y', rfl⟩ := zfz (i := 3) (fb := zb7) _ _ (t2 i hi) [some (.lst (ps.map ptD)), some (.lst ((zcQ m ps).map ptD)), some (.int (i : Int)), y, z] ⟨_, _, rfl⟩
  exact ⟨_, .inl e, _, _, _, rfl⟩
 rw [ziw]; unfold zdT; walk_at "ev"
 rw [List.length_map, zkO _ (zcv (by omega) (by omega)), show zgi 0 (ps.length : Int).toNat = (rg 0 ps.length).map fun k : Nat => D.int (k : Int) from by have := zdX 0 ps.length; simpa using this]; walk_at "ev"
 obtain ⟨σ', e, x, y, z, rfl⟩ := zfz (i := 2) (fb := zcw) _ _ t1 [some (.lst (ps.map ptD)), some (.lst ((zcQ m ps).map ptD)), none, none, none] ⟨_, _, _, rfl⟩
 rw [e]; walk_at "ev"
 unfold zfO; walk_at "ev"
theorem zu0 {ps : List P3} (h : zjV ps ≠ none) : ∃ a b c d : Nat, zjV ps = some (zvd a b c d) ∧ a < ps.length ∧ b < ps.length ∧ c < ps.length ∧ d < ps.length ∧ G4 (pk ps a) (pk ps b) (pk ps c) (pk ps d) := by
 obtain ⟨v, hv⟩ := Option.ne_none_iff_exists'.mp h
 have hv0 := hv
 obtain ⟨a, ha, h⟩ := List.exists_of_findSome?_eq_some hv
 obtain ⟨b, hb, h⟩ := List.exists_of_findSome?_eq_some h
 obtain ⟨c, hc, h⟩ := List.exists_of_findSome?_eq_some h
 obtain ⟨d, hd, h⟩ := List.exists_of_findSome?_eq_some h
 by_cases hg : zuV ps a b c d = true
 ·rw [if_pos hg] at h
  refine ⟨a, b, c, d, by rw [hv0, ← h], (zcx.mp ha).2, (zcx.mp hb).2, (zcx.mp hc).2, (zcx.mp hd).2, ?_⟩
  rw [ztu] at hg
  simp only [Bool.and_eq_true, Bool.not_eq_true', decide_eq_false_iff_not] at hg
  obtain ⟨h1, h2, h3, h4⟩ := hg
  exact ⟨fun e => h1 (C3.rot (C3.rot e)), fun e => h2 (C3.s23 e), fun e => h3 e, fun e => h4 e⟩
 ·rw [if_neg hg] at h; cases h
theorem zlZ {ps : List P3} (F : Fl6 ps) {m : M3} (hm : det m ≠ 0) (bm : BM 100 m) (F' : Fl6 (zcQ m ps)) (hf : zjV ps ≠ none) : zgv [.lst (ps.map ptD), .lst ((zcQ m ps).map ptD)] = .ok (.tup [.str "change", zaA (zbz m)]) := by
 have hmo := F.most
 have ll := zeY m ps
 obtain ⟨a, b, c, d, e0, ha, hb, hc, hd, g⟩ := zu0 hf
 have la := zeX F.pts (by decide) F.nd F.one F.most
 have lb := zeX F'.pts (by decide) F'.nd F'.one F'.most
 have pn : ∀ {k : Nat}, k < ps.length → Nz (mul m (pk ps k)) := fun hk => zge hm (F.nrm hk).nz
 have L : znS m (pk ps a) (pk ps b) (pk ps c) (pk ps d) (low (mul m (pk ps a))) (low (mul m (pk ps b))) (low (mul m (pk ps c))) (low (mul m (pk ps d))) (sOf (mul m (pk ps a))) (sOf (mul m (pk ps b))) (sOf (mul m (pk ps c))) (sOf (mul m (pk ps d))) :=
  ⟨zdp (pn ha), zdp (pn hb), zdp (pn hc), zdp (pn hd), (zdu (pn ha)).1, (zdu (pn hb)).1, (zdu (pn hc)).1, (zdu (pn hd)).1⟩
 obtain ⟨zb, eb⟩ := zlx L hm g
 have f1 : F4 100 (pk ps a) (pk ps b) (pk ps c) (pk ps d) := ⟨g, Lk44.pts4 (F.nrm ha) (F.nrm hb) (F.nrm hc) (F.nrm hd) (F.bd ha) (F.bd hb) (F.bd hc) (F.bd hd)⟩
 have nn : ∀ {k : Nat}, k < ps.length → Nrm (low (mul m (pk ps k))) ∧ BP 100 (low (mul m (pk ps k))) := fun {k} hk => by rw [← zdm hk]; exact ⟨F'.nrm (by omega), F'.bd (by omega)⟩
 have f2 : F4 100 (low (mul m (pk ps a))) (low (mul m (pk ps b))) (low (mul m (pk ps c))) (low (mul m (pk ps d))) := ⟨L.g4 hm g, Lk44.pts4 (nn ha).1 (nn hb).1 (nn hc).1 (nn hd).1 (nn ha).2 (nn hb).2 (nn hc).2 (nn hd).2⟩
 have btw := zoc f1 f2 (by decide) zb
 rw [eb] at btw
 rw [zqE]; unfold znv; walk_at "ev"
 rw [la]; walk_at "ev"
 unfold znu; walk_at "ev"
 rw [lb]; walk_at "ev"
 unfold znt; walk_at "ev"
 rw [List.length_map, List.length_map, ll, decide_eq_true rfl]; walk_at "ev"
 unfold zns; walk_at "ev"
 rw [zuY F, e0, show (some (zvd a b c d)).getD .non = zvd a b c d from rfl]; unfold zvd; walk_at "ev"
 unfold znr; walk_at "ev"
 unfold znq; walk_at "ev"
 rw [zsk F hm F']; walk_at "ev"
 unfold znp; walk_at "ev"
 unfold zno; walk_at "ev"
 rw [Lk44.lc_4 (x := ptD (pk ps a)) (y := ptD (pk ps b)) (z := ptD (pk ps c)) (u := ptD (pk ps d)) (by walk_at "ev"; exact Fl.ix ha) (by walk_at "ev"; exact Fl.ix hb) (by walk_at "ev"; exact Fl.ix hc) (by walk_at "ev"; exact Fl.ix hd)]
 rw [Lk44.lc_4 (x := ptD (low (mul m (pk ps a)))) (y := ptD (low (mul m (pk ps b)))) (z := ptD (low (mul m (pk ps c)))) (u := ptD (low (mul m (pk ps d)))) (by walk_at "ev"; rw [Fl.ix (ps := zcQ m ps) (by omega), zdm ha]) (by walk_at "ev"; rw [Fl.ix (ps := zcQ m ps) (by omega), zdm hb]) (by walk_at "ev"; rw [Fl.ix (ps := zcQ m ps) (by omega), zdm hc]) (by walk_at "ev"; rw [Fl.ix (ps := zcQ m ps) (by omega), zdm hd])]; walk_at "ev"
 rw [show zc4 [.lst [ptD (pk ps a), ptD (pk ps b), ptD (pk ps c), ptD (pk ps d)], .lst [ptD (low (mul m (pk ps a))), ptD (low (mul m (pk ps b))), ptD (low (mul m (pk ps c))), ptD (low (mul m (pk ps d)))]] = _ from btw]; walk_at "ev"
 unfold znn; walk_at "ev"
 rw [List.length_map, zkO _ (zcv (by omega) (by omega)), show zgi 0 (ps.length : Int).toNat = (rg 0 ps.length).map fun k : Nat => D.int (k : Int) from by have := zdX 0 ps.length; simpa using this]
 rw [zc0 (p := fun _ => false) (g := id) (by rw [List.length_map, zqX]; omega) (fun e he => ?_) (fun e he h => by cases h)]
 ·rw [show ((rg 0 ps.length).map fun k : Nat => D.int (k : Int)).filter (fun _ => false) = [] from by rw [List.filter_eq_nil_iff]; simp]; walk_at "ev"
  unfold znm; walk_at "ev"
  rfl
 ·obtain ⟨k, hk, rfl⟩ := List.mem_map.mp he
  have hk := (zcx.mp hk).2
  obtain ⟨z1, z2⟩ := zrH (pn hk)
  walk_at "ev"
  rw [Fl.ix hk, Fl.ix (ps := zcQ m ps) (by omega), zdm hk]; walk_at "ev"
  rw [zxa (k := 100) (n := 100) (bm.low (NzM.of_det hm)) (F.bd hk) (by decide) z1, z2]; walk_at "ev"
  rfl
end LmR
set_option Elab.async false
set_option linter.all false
set_option maxRecDepth 100000
open PySem L2 DL Mir
namespace Lk65
open Mth LmP LmA LmD LmB LmE LmF Lk43 LmH LmI LmJ LmK LmL LmR
theorem zyP {ps : List P3} (F : Fl6 ps) (h : zjV ps = none) (hc : ¬ Col ps) : ∃ k, k < ps.length ∧ Col (ps.eraseIdx k) := by
 have q : ∀ a b c d, a < b → b < c → c < d → d < ps.length → C3 (pk ps a) (pk ps b) (pk ps c) ∨ C3 (pk ps a) (pk ps b) (pk ps d) ∨ C3 (pk ps a) (pk ps c) (pk ps d) ∨ C3 (pk ps b) (pk ps c) (pk ps d) := by
  intro a b c d h1 h2 h3 h4
  have e1 := List.findSome?_eq_none_iff.mp h a (zcx.mpr ⟨by omega, by omega⟩)
  have e2 := List.findSome?_eq_none_iff.mp e1 b (zcx.mpr ⟨by omega, by omega⟩)
  have e3 := List.findSome?_eq_none_iff.mp e2 c (zcx.mpr ⟨by omega, by omega⟩)
  have e4 := List.findSome?_eq_none_iff.mp e3 d (zcx.mpr ⟨by omega, by omega⟩)
  rw [ztu] at e4
  apply Classical.byContradiction
  intro z
  have z1 : ¬ det3 (pk ps a) (pk ps b) (pk ps c) = 0 := fun y => z (.inl y)
  have z2 : ¬ det3 (pk ps a) (pk ps b) (pk ps d) = 0 := fun y => z (.inr (.inl y))
  have z3 : ¬ det3 (pk ps a) (pk ps c) (pk ps d) = 0 := fun y => z (.inr (.inr (.inl y)))
  have z4 : ¬ det3 (pk ps b) (pk ps c) (pk ps d) = 0 := fun y => z (.inr (.inr (.inr y)))
  rw [decide_eq_false z1, decide_eq_false z2, decide_eq_false z3, decide_eq_false z4] at e4
  cases e4
 have ne : ∀ i j, i < ps.length → j < ps.length → i ≠ j → pk ps i ≠ pk ps j := fun i j hi hj hij => by
  by_cases h : i < j
  ·exact F.ne h hj
  ·exact fun e => F.ne (show j < i by omega) hi e.symm
 rcases zrK (f := pk ps) (n := ps.length) (fun i hi => F.nrm hi) ne q with all | ⟨m, hm, all⟩
 ·refine (hc fun p hp q hq r hr => ?_).elim
  obtain ⟨i, hi, e⟩ := List.getElem_of_mem hp
  obtain ⟨j, hj, e'⟩ := List.getElem_of_mem hq
  obtain ⟨k, hk, e''⟩ := List.getElem_of_mem hr
  have u := all i j k hi hj hk
  rw [show pk ps i = p by simp [pk, hi, e], show pk ps j = q by simp [pk, hj, e'], show pk ps k = r by simp [pk, hk, e'']] at u
  exact u
 ·refine ⟨m, hm, fun p hp q hq r hr => ?_⟩
  obtain ⟨i, hi, ni, rfl⟩ := zqY hp
  obtain ⟨j, hj, nj, rfl⟩ := zqY hq
  obtain ⟨k, hk, nk, rfl⟩ := zqY hr
  exact all i j k hi hj hk ni nj nk
theorem znD {ps : List P3} (F : Fl6 ps) {a b c d : P3} (ha : a ∈ ps) (hb : b ∈ ps) (hc : c ∈ ps) (hd : d ∈ ps) (g : G4 a b c d) : zjV ps ≠ none := by
 intro h
 have s := fun p q => zda p q
 by_cases col : Col ps
 ·exact g.d3 (col a ha b hb c hc)
 obtain ⟨k, hk, cl⟩ := zyP F h col
 have inn : ∀ p ∈ ps, p ≠ pk ps k → p ∈ ps.eraseIdx k := fun p hp ne => by
  obtain ⟨i, hi, e⟩ := List.getElem_of_mem hp
  refine List.mem_eraseIdx_iff_getElem?.mpr ⟨i, fun z => ne ?_, by rw [List.getElem?_eq_getElem hi, e]⟩
  subst z
  rw [← e]; simp [pk, hi]
 have ab : a ≠ b := fun e => g.d3 (by rw [e]; exact (s b c).1)
 have ac : a ≠ c := fun e => g.d3 (by rw [e]; exact (s c b).2.1)
 have bc : b ≠ c := fun e => g.d3 (by rw [e]; exact (s c a).2.2)
 have ad : a ≠ d := fun e => g.d2 (by rw [e]; exact (s d b).2.1)
 have bd : b ≠ d := fun e => g.d2 (by rw [e]; exact (s d a).2.2)
 have cd : c ≠ d := fun e => g.d1 (by rw [e]; exact (s d a).2.2)
 by_cases xa : a = pk ps k
 ·exact g.d0 (cl d (inn d hd (by rw [← xa]; exact ad.symm)) b (inn b hb (by rw [← xa]; exact ab.symm)) c (inn c hc (by rw [← xa]; exact ac.symm)))
 ·by_cases xb : b = pk ps k
  ·exact g.d1 (cl a (inn a ha xa) d (inn d hd (by rw [← xb]; exact bd.symm)) c (inn c hc (by rw [← xb]; exact bc.symm)))
  ·by_cases xc : c = pk ps k
   ·exact g.d2 (cl a (inn a ha xa) b (inn b hb xb) d (inn d hd (by rw [← xc]; exact cd.symm)))
   ·exact g.d3 (cl a (inn a ha xa) b (inn b hb xb) c (inn c hc xc))
theorem zxd (x : Int) : ∃ a b c d, zbu [.int x, .int 0] = .ok [ptD a, ptD b, ptD c, ptD d] ∧ F4 20 a b c d := by
 obtain ⟨p0, e0, n0, b0⟩ := zbo x 0 (by omega)
 obtain ⟨p1, e1, n1, b1⟩ := zbo x 1 (by omega)
 obtain ⟨p2, e2, n2, b2⟩ := zbo x 2 (by omega)
 obtain ⟨p3, e3, n3, b3⟩ := zbo x 3 (by omega)
 have ro : ∀ (u v : D) (ds : List D), zqx 2 [some u, some v, some (.lst ds)] = .ok (.rf ds) := fun _ _ _ => rfl
 rw [zgZ]; unfold zcM; walk_at "ev"
 rw [show zgk [.int 4] = .ok [.int 0, .int 1, .int 2, .int 3] from rfl, Lk44.lc_4 (x := ptD p0) (y := ptD p1) (z := ptD p2) (u := ptD p3) (by walk_at "ev"; exact e0) (by walk_at "ev"; exact e1) (by walk_at "ev"; exact e2) (by walk_at "ev"; exact e3)]
 walk_at "ev"
 unfold zeC; walk_at "ev"
 obtain ⟨t, et, ht⟩ := Lk44.general_ok b0 b1 b2 b3 (by decide)
 have et : zaO [.lst [ptD p0, ptD p1, ptD p2, ptD p3]] = _ := et
 rw [et]
 cases t with
 | true =>
  walk_at "ev"
  rw [ro, zqA, zqB]
  exact ⟨p0, p1, p2, p3, rfl, ht rfl, Lk44.pts4 n0 n1 n2 n3 b0 b1 b2 b3⟩
 | false =>
  walk_at "ev"
  unfold zeB; walk_at "ev"
  rw [show zaT [.int x, .int 0] = _ from e0]; walk_at "ev"
  have z0 : B 20 0 := B.of (k := 0) (by decide)
  have z1 : B 20 1 := B.of (k := 1) (by decide)
  have c1 : BP 20 (1, 0, 0) := ⟨z1, z0, z0⟩
  have c2 : BP 20 (0, 1, 0) := ⟨z0, z1, z0⟩
  have c3 : BP 20 (0, 0, 1) := ⟨z0, z0, z1⟩
  unfold zeA; walk_at "ev"
  obtain ⟨t, et, ht⟩ := Lk44.general_ok c1 c2 c3 b0 (by decide)
  have et : zaO [.lst [.tup [.int 1, .int 0, .int 0], .tup [.int 0, .int 1, .int 0], .tup [.int 0, .int 0, .int 1], ptD p0]] = _ := et
  rw [et]
  cases t with
  | true =>
   walk_at "ev"
   rw [ro, zqA, zqB]
   exact ⟨(1, 0, 0), (0, 1, 0), (0, 0, 1), p0, rfl, ht rfl, Lk44.pts4 Lk12.m1 Lk12.m2 Lk12.m3 n0 c1 c2 c3 b0⟩
  | false =>
   walk_at "ev"
   unfold zez
   rw [zqz]; walk_at "ev"
   have q2 : Nrm (1, 0, 1) := ⟨fun h => absurd h.1 (by decide), by decide⟩
   have q4 : Nrm (0, 1, 1) := ⟨fun h => absurd h.2.1 (by decide), by decide⟩
   exact ⟨(0, 0, 1), (1, 0, 1), (1, 1, 1), (0, 1, 1), rfl, ⟨by decide, by decide, by decide, by decide⟩, Lk44.pts4 Lk12.m3 q2 Lk12.m4 q4 c3 ⟨z1, z0, z1⟩ ⟨z1, z1, z1⟩ ⟨z0, z1, z1⟩⟩
theorem zsl {n : Nat} {p q : P3} {s t : Int} (hn : n ≤ 1000) (hp : Nrm p) (bp : BP n p) (bq : BP n q) (hs : -3 ≤ s ∧ s ≤ 3) (ht : -3 ≤ t ∧ t ≤ 3) : ∃ r, zbU [ptD p, ptD q, .int s, .int t] = .ok (ptD r) ∧ Nrm r ∧ BP (n + 4) r := by
 have one : ∀ x y : Int, B n x → B n y → eOp zbR (eOp zbJ (zad 4) (zad 0)) (eOp zbJ (zad 5) (zad 1)) [some (.int x), some (.int y), some (ptD p), some (ptD q), some (.int s), some (.int t), none] = .ok (.int (s * x + t * y)) := fun x y hx hy => by
  walk_at "ev"
  rw [zan _ _ (zai (b3 hs) (by decide)) (zai hx (by omega)), zan _ _ (zai (b3 ht) (by decide)) (zai hy (by omega))]; walk_at "ev"
 have bS : BP (n + 4) (s * p.1 + t * q.1, s * p.2.1 + t * q.2.1, s * p.2.2 + t * q.2.2) := ⟨lin (m := 0) (b3 hs) (b3 ht) bp.x bq.x, lin (m := 0) (b3 hs) (b3 ht) bp.y bq.y, lin (m := 0) (b3 hs) (b3 ht) bp.z bq.z⟩
 rw [zh5]; unfold zdl; walk_at "ev"
 rw [show zqu [ptD p, ptD q] = .ok [.tup [.int p.1, .int q.1], .tup [.int p.2.1, .int q.2.1], .tup [.int p.2.2, .int q.2.2]] from rfl, zyO (one _ _ bp.x bq.x) (one _ _ bp.y bq.y) (one _ _ bp.z bq.z)]; walk_at "ev"
 unfold zfc; walk_at "ev"
 by_cases hz : s * p.1 + t * q.1 = 0 ∧ s * p.2.1 + t * q.2.1 = 0 ∧ s * p.2.2 + t * q.2.2 = 0
 ·rw [decide_eq_true hz]; walk_at "ev"
  exact ⟨p, rfl, hp, bp.mono (by omega)⟩
 ·rw [decide_eq_false hz]; walk_at "ev"
  unfold zfb; walk_at "ev"
  rw [show (D.lst [.int (s * p.1 + t * q.1), .int (s * p.2.1 + t * q.2.1), .int (s * p.2.2 + t * q.2.2)]) = l3 (s * p.1 + t * q.1) (s * p.2.1 + t * q.2.1) (s * p.2.2 + t * q.2.2) from rfl, zh8 (p := (s * p.1 + t * q.1, s * p.2.1 + t * q.2.1, s * p.2.2 + t * q.2.2)) bS hz (by omega)]; walk_at "ev"
  exact ⟨_, rfl, zhj (p := (s * p.1 + t * q.1, s * p.2.1 + t * q.2.1, s * p.2.2 + t * q.2.2)) hz, bS.low hz⟩
theorem ztv (p : P3) : imm (ptD p) = true := rfl
theorem Pts.mono {m n : Nat} {ps : List P3} (h : Pts m ps) (hn : m ≤ n) : Pts n ps := ⟨h.nrm, fun p hp => (h.bd p hp).mono hn⟩
theorem zxe {n : Nat} {ps : List P3} {r : P3} {x0 x1 x2 x3 x4 x6 x8 x9 x10 : Option D} (h : Pts n ps) (nd : ps.Nodup) (hl : ps.length ≤ 12) (hr : Nrm r) (br : BP n r) :
  ∃ qs, zaR [x0, x1, x2, x3, x4, some (.lst (ps.map ptD)), x6, some (ptD r), x8, x9, x10] = .ok (.nx [x0, x1, x2, x3, x4, some (.lst (qs.map ptD)), x6, some (ptD r), x8, x9, x10]) ∧ Pts n qs ∧ qs.Nodup ∧ (∀ p ∈ ps, p ∈ qs) ∧ ps.length ≤ qs.length ∧ qs.length ≤ ps.length + 1 := by
 unfold zaR; walk_at "ev"
 rw [Lk42.nin_pts]; walk_at "ev"
 by_cases hm : r ∈ ps
 ·rw [decide_eq_true hm]; walk_at "ev"
  exact ⟨ps, rfl, h, nd, fun p hp => hp, by omega, by omega⟩
 ·rw [decide_eq_false hm]; walk_at "ev"
  rw [zf7 _ _ _ _ (by rw [List.length_map]; omega)]; walk_at "ev"
  refine ⟨ps ++ [r], by rw [List.map_append]; rfl, Pts.snoc h hr br, ?_, fun p hp => List.mem_append_left _ hp, by simp, by simp⟩
  rw [List.nodup_append]
  refine ⟨nd, by simp, fun a ha b hb e => hm ?_⟩
  rw [← List.mem_singleton.mp hb, ← e]; exact ha
theorem zyQ (h : Int) {ps : List P3} (l1 : 1 ≤ ps.length) (l2 : ps.length ≤ 12) (k : Int) (h0 : 0 ≤ k) (h1 : k ≤ 1000) : ∃ (r : Int) (j : Nat), zaB [.int h, .int k] = .ok (.int r) ∧ j < ps.length ∧ r % (ps.length : Int) = (j : Int) := by
 obtain ⟨r, e, _, _⟩ := zbV h k h0 h1
 have a := Int.emod_nonneg r (show (ps.length : Int) ≠ 0 by omega)
 have b := Int.emod_lt_of_pos r (show (0 : Int) < ps.length by omega)
 exact ⟨r, (r % (ps.length : Int)).toNat, e, by omega, by omega⟩
theorem zxf {h way c n : Int} {f : Nat → P3} {ps : List P3} {k N : Nat} {x7 x8 x9 x10 : Option D} (hf : ∀ k : Nat, k ≤ 100 → zaT [.int c, .int (k : Int)] = .ok (ptD (f k)) ∧ Nrm (f k) ∧ BP 20 (f k)) (hk : k < 12) (hw : way = 0 ∨ way = 1 ∨ way = 2 ∨ way = 3) (hp : Pts N ps) (hN : 20 ≤ N) (hN' : N ≤ 100) (nd : ps.Nodup) (l1 : 1 ≤ ps.length) (l2 : ps.length ≤ 12) :
  ∃ qs y7 y8 y9, zaP [some (.int c), some (.int h), some (.int n), some (.int way), some (.lst ((List.range 12).map fun k => ptD (f k))), some (.lst (ps.map ptD)), some (.int (k : Int)), x7, x8, x9, x10] = .ok (.nx [some (.int c), some (.int h), some (.int n), some (.int way), some (.lst ((List.range 12).map fun k => ptD (f k))), some (.lst (qs.map ptD)), some (.int (k : Int)), y7, y8, y9, x10]) ∧ Pts (N + 4) qs ∧ qs.Nodup ∧ (∀ p ∈ ps, p ∈ qs) ∧ ps.length ≤ qs.length ∧ qs.length ≤ ps.length + 1 := by
 have at_ : gIx (.lst ((List.range 12).map fun k => ptD (f k))) (.int (k : Int)) = .ok (ptD (f k)) := zjG (by rw [List.getElem?_map, List.getElem?_range hk]; rfl)
 obtain ⟨_, nk, bk⟩ := hf k (by omega)
 have hp4 : Pts (N + 4) ps := Pts.mono hp (by omega)
 obtain ⟨ra, ja, ea, la, ma⟩ := zyQ h l1 l2 (3 + 4 * (k : Int)) (by omega) (by omega)
 obtain ⟨rb, jb, eb, lb, mb⟩ := zyQ h l1 l2 (4 + 4 * (k : Int)) (by omega) (by omega)
 obtain ⟨u, eu, u0, u1⟩ := mix7 h (5 + 4 * (k : Int)) (by omega) (by omega)
 obtain ⟨v, ev, v0, v1⟩ := mix7 h (6 + 4 * (k : Int)) (by omega) (by omega)
 have na := hp.nrm _ (zld la)
 obtain ⟨r, er, nr, br⟩ := zsl (by omega) na (hp.bd _ (zld la)) (hp.bd _ (zld lb)) ⟨u0, u1⟩ ⟨v0, v1⟩
 have m4 : zlG 4 = true := by decide
 have mk : zlG (k : Int) = true := zai (n := 4) (B.of (k := 12) (by omega)) (by decide)
 have plain : ∃ qs y7 y8 y9, zaR [some (.int c), some (.int h), some (.int n), some (.int way), some (.lst ((List.range 12).map fun k => ptD (f k))), some (.lst (ps.map ptD)), some (.int (k : Int)), some (ptD (f k)), x8, x9, x10] = .ok (.nx [some (.int c), some (.int h), some (.int n), some (.int way), some (.lst ((List.range 12).map fun k => ptD (f k))), some (.lst (qs.map ptD)), some (.int (k : Int)), y7, y8, y9, x10]) ∧ Pts (N + 4) qs ∧ qs.Nodup ∧ (∀ p ∈ ps, p ∈ qs) ∧ ps.length ≤ qs.length ∧ qs.length ≤ ps.length + 1 := by
  obtain ⟨qs, e, a⟩ := zxe (r := f k) (x0 := some (.int c)) (x1 := some (.int h)) (x2 := some (.int n)) (x3 := some (.int way)) (x4 := some (.lst ((List.range 12).map fun k => ptD (f k)))) (x6 := some (.int (k : Int))) (x8 := x8) (x9 := x9) (x10 := x10) hp4 nd l2 nk (bk.mono (by omega))
  exact ⟨qs, _, _, _, e, a⟩
 have drawn : ∃ qs y7 y8 y9, zr1 (zbB [some (.int c), some (.int h), some (.int n), some (.int way), some (.lst ((List.range 12).map fun k => ptD (f k))), some (.lst (ps.map ptD)), some (.int (k : Int)), some (ptD (f k)), x8, x9, x10]) zaR = .ok (.nx [some (.int c), some (.int h), some (.int n), some (.int way), some (.lst ((List.range 12).map fun k => ptD (f k))), some (.lst (qs.map ptD)), some (.int (k : Int)), y7, y8, y9, x10]) ∧ Pts (N + 4) qs ∧ qs.Nodup ∧ (∀ p ∈ ps, p ∈ qs) ∧ ps.length ≤ qs.length ∧ qs.length ≤ ps.length + 1 := by
  unfold zbB
  rw [zfx, zhy]; walk_at "ev"
  rw [zan 4 (k : Int) m4 mk]; walk_at "ev"
  rw [ea, List.length_map]; walk_at "ev"
  rw [zb4 _ _ (by omega), ma, zhw, Fl.ix la, zjF _ _ _ (ztv _)]; walk_at "ev"
  unfold zcc
  rw [zfx, zhy]; walk_at "ev"
  rw [zan 4 (k : Int) m4 mk]; walk_at "ev"
  rw [eb, List.length_map]; walk_at "ev"
  rw [zb4 _ _ (by omega), mb, zhw, Fl.ix lb, zjF _ _ _ (ztv _)]; walk_at "ev"
  unfold zcb; walk_at "ev"
  rw [zan 4 (k : Int) m4 mk]; walk_at "ev"
  rw [eu, ev]; walk_at "ev"
  rw [zb4 u 7 (by decide), zb4 v 7 (by decide)]; walk_at "ev"
  rw [er]; walk_at "ev"
  obtain ⟨qs, e, a⟩ := zxe (r := r) (x0 := some (.int c)) (x1 := some (.int h)) (x2 := some (.int n)) (x3 := some (.int way)) (x4 := some (.lst ((List.range 12).map fun k => ptD (f k)))) (x6 := some (.int (k : Int))) (x8 := some (ptD (pk ps ja))) (x9 := some (ptD (pk ps jb))) (x10 := x10) hp4 nd l2 nr br
  exact ⟨qs, _, _, _, e, a⟩
 unfold zaP; walk_at "ev"
 rw [at_]; walk_at "ev"
 unfold zc9; walk_at "ev"
 rcases hw with rfl | rfl | rfl | rfl
 ·walk_at "ev"
  exact drawn
 ·walk_at "ev"
  exact drawn
 ·walk_at "ev"
  rw [zb4 (k : Int) 2 (by decide)]; walk_at "ev"
  by_cases hq : (k : Int) % 2 = 0
  ·rw [decide_eq_true hq]
   walk_at "ev"
   exact drawn
  ·rw [decide_eq_false hq]
   walk_at "ev"
   exact plain
 ·walk_at "ev"
  exact plain
structure Fr (ps : List P3) : Prop where
 fl : Fl6 ps
 bd : ∀ p ∈ ps, BP 52 p
 ex : ∃ a b c d, a ∈ ps ∧ b ∈ ps ∧ c ∈ ps ∧ d ∈ ps ∧ G4 a b c d
theorem zu1 (c h : Int) : ∃ ps, zbf [.int c, .int h] = .ok (.lst (ps.map ptD)) ∧ Fr ps := by
 obtain ⟨r0, e0, p0, _⟩ := zbV h 0 (by decide) (by decide)
 obtain ⟨r1, e1, p1, _⟩ := zbV h 1 (by decide) (by decide)
 obtain ⟨f, hf⟩ := zsg c
 obtain ⟨a, b, c', d, e4, f4⟩ := zxd c
 obtain ⟨n, hn⟩ : ∃ n : Nat, 4 + r0 % 9 = (n : Int) := ⟨(4 + r0 % 9).toNat, by omega⟩
 have n1 : 4 ≤ n ∧ n ≤ 12 := by omega
 have way : r1 % 4 = 0 ∨ r1 % 4 = 1 ∨ r1 % 4 = 2 ∨ r1 % 4 = 3 := by omega
 have turn : ∀ (j : Nat) (e : D) (σ : DSt), ((rg 4 n).map fun k : Nat => D.int (k : Int))[j]? = some e → (∃ ps x6 x7 x8 x9, σ = [some (.int c), some (.int h), some (.int (n : Int)), some (.int (r1 % 4)), some (.lst ((List.range 12).map fun k => ptD (f k))), some (.lst (ps.map ptD)), x6, x7, x8, x9, none] ∧ Pts (20 + 4 * j) ps ∧ ps.Nodup ∧ (∀ p ∈ [a, b, c', d], p ∈ ps) ∧ 4 ≤ ps.length ∧ ps.length ≤ 4 + j) → ∃ σ', (zaP (σ.set 6 (some e)) = .ok (.nx σ') ∨ zaP (σ.set 6 (some e)) = .ok (.ct σ')) ∧ ∃ ps x6 x7 x8 x9, σ' = [some (.int c), some (.int h), some (.int (n : Int)), some (.int (r1 % 4)), some (.lst ((List.range 12).map fun k => ptD (f k))), some (.lst (ps.map ptD)), x6, x7, x8, x9, none] ∧ Pts (20 + 4 * (j + 1)) ps ∧ ps.Nodup ∧ (∀ p ∈ [a, b, c', d], p ∈ ps) ∧ 4 ≤ ps.length ∧ ps.length ≤ 4 + (j + 1) := by
  rintro j e σ he ⟨ps, x6, x7, x8, x9, rfl, h1, h2, h3, h4, h5⟩
  have hj : j < n - 4 := by
   have := (List.getElem?_eq_some_iff.mp he).1
   rw [List.length_map, zqX] at this
   exact this
  obtain ⟨k, hk, rfl⟩ := List.mem_map.mp (List.mem_of_getElem? he)
  have hk := (zcx.mp hk).2
  rw [show List.set _ 6 _ = [some (.int c), some (.int h), some (.int (n : Int)), some (.int (r1 % 4)), some (.lst ((List.range 12).map fun k => ptD (f k))), some (.lst (ps.map ptD)), some (.int (k : Int)), x7, x8, x9, none] from rfl]
  obtain ⟨qs, y7, y8, y9, e, q1, q2, q3, q4, q5⟩ := zxf (h := h) (way := r1 % 4) (c := c) (n := n) (N := 20 + 4 * j) (x7 := x7) (x8 := x8) (x9 := x9) (x10 := none) hf (show k < 12 by omega) way h1 (by omega) (by omega) h2 (by omega) (by omega)
  exact ⟨_, .inl e, qs, _, _, _, _, rfl, q1, q2, fun p hp => q3 p (h3 p hp), by omega, by omega⟩
 rw [zf9]; unfold zcr; walk_at "ev"
 rw [e0]; walk_at "ev"
 rw [zb4 _ _ (by decide)]; walk_at "ev"
 rw [hn]
 unfold zd8; walk_at "ev"
 rw [e1]; walk_at "ev"
 rw [zb4 _ _ (by decide)]; walk_at "ev"
 unfold zd7; walk_at "ev"
 rw [show zgk [.int 12] = .ok ((List.range 12).map fun k : Nat => D.int (k : Int)) from rfl, zjT (g := fun k => ptD (f k)) (by simp) (fun a ha => by walk_at "ev"; exact (hf a (by have := List.mem_range.mp ha; omega)).1)]; walk_at "ev"
 unfold zd6; walk_at "ev"
 rw [zn1]; walk_at "ev"
 rw [zqw, e4]; walk_at "ev"
 unfold zd5; walk_at "ev"
 have er : zlC [.int ((4 : Nat) : Int), .int (n : Int)] = .ok ((rg 4 n).map fun k : Nat => D.int (k : Int)) := by rw [zfo _ _ (zcv (by omega) (by omega)) (zcv (by omega) (by omega)), zdX]
 rw [show zlC [.int 4, .int (n : Int)] = _ from er]; walk_at "ev"
 obtain ⟨σ', e, ps, x6, x7, x8, x9, rfl, h1, h2, h3, h4, h5⟩ := zjI (i := 6) (fb := zaP) (fun j σ => ∃ ps x6 x7 x8 x9, σ = [some (.int c), some (.int h), some (.int (n : Int)), some (.int (r1 % 4)), some (.lst ((List.range 12).map fun k => ptD (f k))), some (.lst (ps.map ptD)), x6, x7, x8, x9, none] ∧ Pts (20 + 4 * j) ps ∧ ps.Nodup ∧ (∀ p ∈ [a, b, c', d], p ∈ ps) ∧ 4 ≤ ps.length ∧ ps.length ≤ 4 + j) _ turn [some (.int c), some (.int h), some (.int (n : Int)), some (.int (r1 % 4)), some (.lst ((List.range 12).map fun k => ptD (f k))), some (.lst [ptD a, ptD b, ptD c', ptD d]), none, none, none, none, none] ⟨[a, b, c', d], _, _, _, _, rfl, f4.pts, f4.nd, fun p hp => hp, by simp, by simp⟩
 rw [e]; walk_at "ev"
 rw [List.length_map, zqX] at h1 h5
 have l12 : ps.length ≤ 12 := by omega
 unfold zd4; walk_at "ev"
 obtain ⟨r2, j, e2, lj, mj⟩ := zyQ h (ps := ps) (by omega) l12 2 (by decide) (by decide)
 rw [e2, List.length_map]; walk_at "ev"
 rw [zb4 _ _ (by omega), mj]; walk_at "ev"
 unfold zd3; walk_at "ev"
 rw [LmL.eSl_from _ _ _ (ps.map ptD) j rfl rfl, LmL.eSl_to _ _ _ (ps.map ptD) j rfl rfl, zhw, Lk42.gAdd_ll (by rw [List.length_drop, List.length_take, List.length_map]; omega), ← List.map_drop, ← List.map_take, ← List.map_append]; walk_at "ev"
 have perm : (ps.drop j ++ ps.take j).Perm ps := List.perm_append_comm.trans (by rw [List.take_append_drop])
 have mem : ∀ p, p ∈ ps.drop j ++ ps.take j ↔ p ∈ ps := fun p => perm.mem_iff
 have b52 : Pts 52 ps := Pts.mono h1 (by omega)
 exact ⟨ps.drop j ++ ps.take j, rfl, ⟨⟨fun p hp => h1.nrm p ((mem p).mp hp), fun p hp => (b52.bd p ((mem p).mp hp)).mono (by decide)⟩, perm.nodup_iff.mpr h2, by rw [perm.length_eq]; omega, by rw [perm.length_eq]; exact l12⟩, fun p hp => b52.bd p ((mem p).mp hp),
  a, b, c', d, (mem a).mpr (h3 a (by simp)), (mem b).mpr (h3 b (by simp)), (mem c').mpr (h3 c' (by simp)), (mem d).mpr (h3 d (by simp)), f4.g⟩
theorem Fr.find {ps : List P3} (F : Fr ps) : zjV ps ≠ none := by
 obtain ⟨a, b, c, d, ha, hb, hc, hd, g⟩ := F.ex
 exact znD F.fl ha hb hc hd g
theorem G4.led {m : M3} (hm : det m ≠ 0) {a b c d : P3} (na : Nz a) (nb : Nz b) (nc : Nz c) (nd : Nz d) (g : G4 a b c d) : G4 (low (mul m a)) (low (mul m b)) (low (mul m c)) (low (mul m d)) :=
 ⟨fun e => g.d0 ((zgc hm nd nb nc).mp e), fun e => g.d1 ((zgc hm na nd nc).mp e), fun e => g.d2 ((zgc hm na nb nd).mp e), fun e => g.d3 ((zgc hm na nb nc).mp e)⟩
theorem zxg (ps : List P3) (h : ∀ p ∈ ps, Nrm p) : zcQ I3 ps = ps := by
 unfold zcQ
 conv => rhs; rw [← List.map_id ps]
 exact List.map_congr_left fun p hp => by rw [zvZ, (h p hp).low]; rfl
theorem zsm {m : M3} (hm : det m ≠ 0) (ps : List P3) (h : ∀ p ∈ ps, Nrm p) : zcQ (zbz (adj m)) (zcQ m ps) = ps := by
 unfold zcQ
 rw [List.map_map]
 conv => rhs; rw [← List.map_id ps]
 exact List.map_congr_left fun p hp => (zjr hm (h p hp)).2
theorem zyR (ps qs : List P3) : zdt 9 (.lst [.lst (ps.map ptD), .lst (qs.map ptD)]) = true := by
 have one : ∀ rs : List P3, zdt 8 (.lst (rs.map ptD)) = true := fun rs => by
  show (rs.map ptD).all (zdt 7) = true
  rw [List.all_eq_true]
  intro d hd
  obtain ⟨p, _, rfl⟩ := List.mem_map.mp hd
  rfl
 show ([D.lst (ps.map ptD), .lst (qs.map ptD)]).all (zdt 8) = true
 rw [List.all_cons, List.all_cons, one, one]; rfl
theorem zyS {ps : List P3} (F : Fr ps) {m : M3} (hm : det m ≠ 0) (bm : BM 20 m) (hl : zbz m = m) (ns : D) (k : Int) (x3 x4 x5 x6 x7 : Option D) : ∃ y5 y6 y7, zr1 (zwU 4 (zpO (lcK 1 [0] (.ok (ps.map ptD)) zar za1 (zah zc7 (zaa (zad 4) (zaa (zad 0) zaf))) [some ns, some (.int k), some (.lst (ps.map ptD)), some (zaA m), x4, x5, x6, x7])) [some ns, some (.int k), some (.lst (ps.map ptD)), some (zaA m), x4, x5, x6, x7]) zeD = .ok (.nx [some ns, some (.int k), some (.lst (ps.map ptD)), some (zaA m), some (.lst ((zcQ m ps).map ptD)), y5, y6, y7]) := by
 have nz := NzM.of_det hm
 have bm' : BM 100 m := bm.mono (by decide)
 have nr : ∀ p ∈ ps, Nrm p := F.fl.pts.nrm
 have F' : Fl6 (zcQ m ps) := F.fl.led hm bm F.bd (by decide)
 have h1 := zlZ F.fl hm bm' F' F.find
 rw [hl] at h1
 have hA := NzM.adj hm
 have dA : det (adj m) ≠ 0 := by rw [show adj m = tr (cof m) from rfl, zo3, zub]; exact zby hm hm
 have dL := zo0 dA
 have bA : BM 41 (zbz (adj m)) := (LmF.BM.tr bm.cof).low hA
 have eb := zsm hm ps nr
 have fb : zjV (zcQ m ps) ≠ none := by
  obtain ⟨a, b, c, d, ha, hb, hc, hd, g⟩ := F.ex
  exact znD F' (List.mem_map.mpr ⟨a, ha, rfl⟩) (List.mem_map.mpr ⟨b, hb, rfl⟩) (List.mem_map.mpr ⟨c, hc, rfl⟩) (List.mem_map.mpr ⟨d, hd, rfl⟩) (G4.led hm (nr a ha).nz (nr b hb).nz (nr c hc).nz (nr d hd).nz g)
 have h2 := zlZ F' dL (bA.mono (by decide)) (by rw [eb]; exact F.fl) fb
 rw [eb, zjp hA] at h2
 have dI : det I3 ≠ 0 := by decide
 have h3 := zlZ F.fl (m := I3) dI (BM.mono (k := 1) (by constructor <;> constructor <;> exact B.of (k := 1) (by decide)) (by decide)) (by rw [zxg ps nr]; exact F.fl) F.find
 rw [zxg ps nr, zsv] at h3
 have bk := zo2 hm
 rw [zjT (g := fun p => ptD (low (mul m p))) (by have := F.fl.most; omega) (fun p hp => by walk_at "ev"; exact zn9 bm (F.bd p hp) (by decide) (zge hm (nr p hp).nz)), show ps.map (fun p => ptD (low (mul m p))) = (zcQ m ps).map ptD from by unfold zcQ; rw [List.map_map]; rfl]; walk_at "ev"
 unfold zeD; walk_at "ev"
 rw [show zkv [.lst (ps.map ptD)] = .ok (ps.map ptD) from rfl, show zkv [.lst ((zcQ m ps).map ptD)] = .ok ((zcQ m ps).map ptD) from rfl]; walk_at "ev"
 unfold zgI; walk_at "ev"
 rw [show gIx (.lst [.lst (ps.map ptD), .lst ((zcQ m ps).map ptD)]) (.int 0) = .ok (.lst (ps.map ptD)) from rfl, show gIx (.lst [.lst (ps.map ptD), .lst ((zcQ m ps).map ptD)]) (.int 1) = .ok (.lst ((zcQ m ps).map ptD)) from rfl]; walk_at "ev"
 rw [h1]; walk_at "ev"
 unfold zgH; walk_at "ev"
 rw [Lk12.ne_same (show zdt 9 (.tup [.str "change", zaA m]) = true from rfl)]; walk_at "ev"
 rw [Lk12.ne_same (zyR ps (zcQ m ps))]; walk_at "ev"
 unfold zgG; walk_at "ev"
 rw [h2]; walk_at "ev"
 unfold zgF; walk_at "ev"
 have i1 : gIx (.tup [.str "change", zaA (zbz (adj m))]) (.int 1) = .ok (zaA (zbz (adj m))) := rfl
 rw [show gIx (.tup [.str "change", zaA (zbz (adj m))]) (.int 0) = .ok (.str "change") from rfl, zhw, Lk12.ne_same (show zdt 9 (.str "change") = true from rfl)]; walk_at "ev"
 rw [i1]; walk_at "ev"
 rw [zqP bm bA (by decide) bk.two, bk.one]; walk_at "ev"
 rw [show gNe (zaA I3) (.tup [.int 1, .int 0, .int 0, .int 0, .int 1, .int 0, .int 0, .int 0, .int 1]) = _ from Lk12.ne_same (show zdt 9 (zaA I3) = true from rfl)]; walk_at "ev"
 unfold zgE; walk_at "ev"
 rw [i1]; walk_at "ev"
 rw [zfd rfl bA hA.low (by decide), zjp hA]; walk_at "ev"
 rw [Lk12.ne_same (show zdt 9 (zaA (zbz (adj m))) = true from rfl)]; walk_at "ev"
 rw [show zkv [.lst (ps.map ptD)] = .ok (ps.map ptD) from rfl]; walk_at "ev"
 rw [h3]; walk_at "ev"
 rw [show gNe (.tup [.str "change", zaA I3]) (.tup [.str "change", .tup [.int 1, .int 0, .int 0, .int 0, .int 1, .int 0, .int 0, .int 0, .int 1]]) = _ from Lk12.ne_same (show zdt 9 (.tup [.str "change", zaA I3]) = true from rfl)]; walk_at "ev"
 exact ⟨_, _, _, rfl⟩
theorem law_ok (ns : List Int) (hl : ns.length ≤ 63) : zfT [.lst (ns.map .int)] = .ok (.bl true) := by
 rw [zk8]; unfold zfS; walk_at "ev"
 rw [List.length_map, zkL _ _ (by decide) (by decide)]; walk_at "ev"
 obtain ⟨n, hn⟩ : ∃ n : Nat, max 1 (min 6 ((ns.length : Int) / 2)) = (n : Int) := ⟨(max 1 (min 6 ((ns.length : Int) / 2))).toNat, by omega⟩
 have hn20 : n ≤ 6 := by omega
 rw [hn, zkO _ (zcv (by omega) (by omega)), Int.toNat_natCast]; walk_at "ev"
 have turn : ∀ d ∈ zgi 0 n, ∀ σ, (∃ x1 x2 x3 x4 x5 x6 x7, σ = [some (.lst (ns.map .int)), x1, x2, x3, x4, x5, x6, x7]) → ∃ σ', (zdz (σ.set 1 (some d)) = .ok (.nx σ') ∨ zdz (σ.set 1 (some d)) = .ok (.ct σ')) ∧ ∃ x1 x2 x3 x4 x5 x6 x7, σ' = [some (.lst (ns.map .int)), x1, x2, x3, x4, x5, x6, x7] := by
  rintro d hd σ ⟨x1, x2, x3, x4, x5, x6, x7, rfl⟩
  obtain ⟨j, hj, rfl⟩ := List.mem_map.mp hd
  have hj := List.mem_range.mp hj
  rw [Int.zero_add]
  obtain ⟨ps, ep, F⟩ := zu1 (Lk44.cell ns (2 * j)) (Lk44.cell ns (2 * j + 1))
  obtain ⟨m, em, hm, bm, hlm⟩ := zlX (Lk44.cell ns (2 * j + 2)) 0 (by decide)
  have mm2 := zan 2 (j : Int) (by decide) (zai (n := 4) (B.of (k := 12) (by omega)) (by decide))
  rw [show List.set _ 1 _ = [some (.lst (ns.map .int)), some (.int (j : Int)), x2, x3, x4, x5, x6, x7] from rfl]
  unfold zdz; walk_at "ev"
  rw [mm2]; walk_at "ev"
  rw [show (2 : Int) * (j : Int) + 1 = ((2 * j + 1 : Nat) : Int) by omega, show (2 : Int) * (j : Int) = ((2 * j : Nat) : Int) by omega, Lk44.cell_ok, Lk44.cell_ok]; walk_at "ev"
  rw [ep]; walk_at "ev"
  unfold zgK; walk_at "ev"
  rw [mm2]; walk_at "ev"
  rw [show (2 : Int) * (j : Int) + 2 = ((2 * j + 2 : Nat) : Int) by omega, Lk44.cell_ok]; walk_at "ev"
  rw [show zch [.int (Lk44.cell ns (2 * j + 2)), .int 0] = _ from em]; walk_at "ev"
  unfold zgJ; walk_at "ev"
  obtain ⟨y5, y6, y7, e⟩ := zyS F hm bm hlm (.lst (ns.map .int)) (j : Int) x3 x4 x5 x6 x7
  exact ⟨_, .inl e, _, _, _, _, _, _, _, rfl⟩
 obtain ⟨σ', e, x1, x2, x3, x4, x5, x6, x7, rfl⟩ := zfz (i := 1) (fb := zdz) _ _ turn [some (.lst (ns.map .int)), none, none, none, none, none, none, none] ⟨_, _, _, _, _, _, _, rfl⟩
 rw [e]; walk_at "ev"
 unfold zh6; walk_at "ev"
end Lk65
end
section
set_option Elab.async false
set_option linter.all false
set_option maxRecDepth 100000
namespace Kx
open PySem L2 DL Mir
local macro_rules | `(tactic| walk_at "o3") => `(tactic| (first | exact Or.inl rfl | exact Or.inr (Or.inl rfl) | exact Or.inr (Or.inr rfl)))
local macro_rules | `(tactic| walk_at "o2") => `(tactic| (first | exact Or.inl rfl | exact Or.inr rfl))
local macro_rules | `(tactic| walk_at "o4") => `(tactic| (first | exact .inl rfl | exact .inr rfl | assumption))
local macro_rules | `(tactic| walk_at "C") => `(tactic| first | assumption | exact XC.lc (by assumption) _ _ _ _ _ _)
local macro_rules | `(tactic| walk_at "H") => `(tactic| first | assumption | exact XC.calm (by walk_at "C") | rfl)
local macro_rules | `(tactic| walk_at "F") => `(tactic| first | exact zlJ | exact zum | exact zyq | exact zwm | exact zuo | exact zmw | exact zyr (by walk_at "C") | exact zys (by walk_at "C") | exact zyG (by walk_at "C") | exact zw2 (by walk_at "C"))
local macro_rules | `(tactic| walk_at "E") => `(tactic| first | ((with_reducible refine @zv2 _ _ _ _ _ ?_ ?_ ?_ ?_); rfl; (first | exact Or.inl rfl | exact Or.inr (Or.inl rfl) | exact Or.inr (Or.inr rfl)); decide; decide) | ((with_reducible refine @zaJ _ _ _ _ _ _ ?_ ?_ ?_); walk_at "E"; walk_at "E"; rfl) | ((with_reducible refine @zct _ _ _ _ _)) | ((with_reducible refine @zbP _ _)) | ((with_reducible refine @zrP _ _ _ _ _ _ _ ?_ ?_ ?_); walk_at "E"; walk_at "E"; (intro _ _ ; rfl)) | ((with_reducible refine @zpi _ _ _ _ _ _ _ _ _ _ (by walk_at "C") ?_ ?_ ?_ ?_ ?_ ?_); walk_at "H"; walk_at "E"; rfl; decide; rfl; rfl) | ((with_reducible refine @zwh _ _ _ _ _ _ _ ?_ ?_); walk_at "E"; walk_at "E") | ((with_reducible refine @zwf _ _ _ _ _ _ _ ?_ ?_); walk_at "E"; walk_at "E") | ((with_reducible refine @zcd _ _ _ _ _ _ _ _ _ ?_ ?_ ?_ ?_); walk_at "F"; walk_at "E"; walk_at "E"; (first | exact zaM _ (by decide) (by decide) | rfl)) | ((with_reducible refine @zwi _ _ _ _ _ _ _ ?_ ?_); walk_at "E"; walk_at "E") | ((with_reducible refine @zv6 _ _ _ _ _ _ ?_); walk_at "E") | ((with_reducible refine @zv8 _ _ _ _ _ ?_); walk_at "E") | ((with_reducible refine @zv7 _ _ _ _ _ ?_); walk_at "E") | ((with_reducible refine @zwq _ _ _ _ _ _ _ ?_ ?_ ?_ ?_ ?_); walk_at "H"; walk_at "E"; rfl; rfl; rfl) | ((with_reducible refine @zpn _ _ _ _ _ _ _ ?_ ?_ ?_ ?_); walk_at "H"; walk_at "E"; rfl; rfl) | ((with_reducible refine @DF.val _ _ _ _ ?_); walk_at "E") | ((with_reducible refine @zwg _ _ _ _ _ _ _ ?_ ?_); walk_at "E"; walk_at "E") | ((with_reducible refine @zuw _ _ _ _ ?_); walk_at "E") | ((with_reducible refine @zuk _ _ _ _ _ _ _ ?_ ?_); walk_at "E"; walk_at "E") | ((with_reducible refine @zyy _ _ _ _ _ _ _ _ _ _ ?_ ?_ ?_); walk_at "E"; walk_at "E"; walk_at "E") | ((with_reducible refine @zuv _ _)) | ((with_reducible refine @zpo _ _ _ _ _ _ _ _ ?_ ?_ ?_ ?_ ?_); walk_at "H"; walk_at "E"; rfl; rfl; rfl) | ((with_reducible refine @zpd _ _ _ _ _ ?_); walk_at "E") | ((with_reducible refine @zpz _ _ _ _ _ _ _ _ _ ?_ ?_ ?_ ?_); walk_at "F"; walk_at "E"; walk_at "E"; (first | exact zaM _ (by decide) (by decide) | rfl)) | ((with_reducible refine @zgg _ _ _ _ _ ?_); walk_at "E") | ((with_reducible refine @zpa _ _ _ _ _)) | ((with_reducible refine @zws _ _ _ _ _ _ _ ?_ ?_ ?_ ?_ ?_); walk_at "H"; walk_at "E"; rfl; rfl; rfl) | ((with_reducible refine @zwl _ _ _ _ _ ?_); walk_at "E") | ((with_reducible refine @DW.dt _ _ _ _ ?_); walk_at "E") | ((with_reducible refine @znU _ _ _ _ _ _ _ _ ?_ ?_); walk_at "E"; walk_at "E") | ((with_reducible refine @zuu _ _ _ _ _ _ _ ?_ ?_ ?_ ?_ ?_); walk_at "H"; walk_at "E"; rfl; rfl; rfl) | ((with_reducible refine @zwj _ _ _ _ _ _ _ ?_ ?_); walk_at "E"; walk_at "E") | ((with_reducible refine @zwk _ _ _ _ _ _ _ ?_ ?_); walk_at "E"; walk_at "E") | ((with_reducible refine @zuL _ _ _ _ _ _ _ _ _ _ ?_ ?_ ?_ ?_ ?_); walk_at "H"; walk_at "E"; rfl; rfl; rfl) | ((with_reducible refine @zuM _ _ _ _ _ _ _ _ _ _ (by walk_at "C") ?_ ?_ ?_ ?_ ?_ ?_); walk_at "H"; walk_at "E"; rfl; decide; rfl; rfl) | ((with_reducible refine @zpe _ _ _ _ _ _ _ _ ?_ ?_); walk_at "E"; walk_at "E") | ((with_reducible refine @zlB _ _ _ _ _ ?_); walk_at "E") | ((with_reducible refine @zus _ _ _ _ _ _ _ ?_ ?_ ?_ ?_ ?_); walk_at "H"; walk_at "E"; rfl; rfl; rfl) | ((with_reducible refine @de_k _ _ _ _ _ ?_ ?_ ?_); walk_at "H"; rfl; decide) | ((with_reducible refine @zqs _ _ _ (by walk_at "C") ?_ ?_ _ _ _ _ _ _ ?_ ?_ ?_ ?_ ?_ ?_ ?_); walk_at "H"; walk_at "H"; walk_at "E"; rfl; rfl; rfl; rfl; rfl; rfl) | ((with_reducible refine @zww _ _ _ _ _ _ _ ?_ ?_ ?_ ?_ ?_ ?_); walk_at "H"; walk_at "H"; walk_at "E"; rfl; rfl; rfl) | ((with_reducible refine @zwv _ _ _ _ _ _ _ ?_ ?_ ?_ ?_ ?_ ?_); walk_at "H"; walk_at "H"; walk_at "E"; rfl; rfl; rfl) | ((with_reducible refine @zhp _ _ _ _ ?_ ?_); walk_at "E"; (intro _ ; rfl)) | ((with_reducible refine @zpf _ _ _ _ _ _ ?_); walk_at "E") | ((refine @zct _ _ _ _ _)) | ((refine @zcd _ _ _ _ _ _ _ _ _ ?_ ?_ ?_ ?_); walk_at "F"; walk_at "E"; walk_at "E"; (first | exact zaM _ (by decide) (by decide) | rfl)) | ((refine @zpd _ _ _ _ _ ?_); walk_at "E") | ((refine @zgg _ _ _ _ _ ?_); walk_at "E") | ((refine @zpa _ _ _ _ _)) | ((refine @DW.dt _ _ _ _ ?_); walk_at "E") | ((refine @znU _ _ _ _ _ _ _ _ ?_ ?_); walk_at "E"; walk_at "E") | ((refine @zpe _ _ _ _ _ _ _ _ ?_ ?_); walk_at "E"; walk_at "E") | ((refine @zlB _ _ _ _ _ ?_); walk_at "E") | ((refine @zhp _ _ _ _ ?_ ?_); walk_at "E"; (intro _ ; rfl)))
noncomputable def top (i : Nat) : Stmt := PySem.Challenge.pw_chalkline_k65_changes_told.main.body.getD i (.Pass ⟨0, 0, 0, 0⟩)
noncomputable abbrev zbW : Stmt := top 54
theorem zfW : zak ["_law_one", "_law_two", "_law_x", "_law_y"] ["_law_one", "_law_two"] (zab zbW) := ⟨rfl, rfl, rfl, by decide +kernel, rfl, by decide +kernel, by decide +kernel⟩
set_option maxHeartbeats 4000000 in
theorem zjW {P : Program} {w : World} {K : PySem.W.Frag} {mg : Str → Option Value} {base : Heap} {f : Addr} {fd : FuncData} {k : Nat} (F : Fun K "_law_cross" "_law_cross" zbW f fd) (hm : mg "_law_cross" = some (.ref f)) (hb : zaG K fd ["_law_one", "_law_two"] []) : zal P w K mg base (k + 1) "_law_cross" zbL := by
 refine zal.mk' (own' := []) F zfW hm hb rfl rfl fun X E hX C L => ?_
 obtain ⟨cdv, A, outer, s, H, rfl⟩ := hX
 have nd := zfW.nd
 exact (@zac _ _ _ _ _ _ _ _ _ _ (@zaj _ _ _ _ _ _ _ _ 2 nd (by walk_at "E") (by rfl) (by walk_at "o2") (by rfl) (by walk_at "o4")) (@zac _ _ _ _ _ _ _ _ _ _ (@zaj _ _ _ _ _ _ _ _ 3 nd (by walk_at "E") (by rfl) (by walk_at "o2") (by rfl) (by walk_at "o4")) (@zae _ _ _ _ _ _ _ (@zao _ _ _ _ _ _ _ _ (by walk_at "E")))))
noncomputable abbrev zcR : Stmt := top 55
theorem zie : zak ["_law_one", "_law_two", "_law_three", "_law_some"] ["_law_one", "_law_two", "_law_three"] (zab zcR) := ⟨rfl, rfl, rfl, by decide +kernel, rfl, by decide +kernel, by decide +kernel⟩
set_option maxHeartbeats 4000000 in
theorem zl0 {P : Program} {w : World} {K : PySem.W.Frag} {mg : Str → Option Value} {base : Heap} {f : Addr} {fd : FuncData} {k : Nat} (F : Fun K "_law_det" "_law_det" zcR f fd) (hm : mg "_law_det" = some (.ref f)) (hb : zaG K fd ["_law_one", "_law_two", "_law_three"] []) (F__law_cross : zal P w K mg base k "_law_cross" zbL) : zal P w K mg base (k + 1) "_law_det" zb8 := by
 refine zal.mk' (own' := []) F zie hm hb rfl rfl fun X E hX C L => ?_
 obtain ⟨cdv, A, outer, s, H, rfl⟩ := hX
 have nd := zie.nd
 exact (@zac _ _ _ _ _ _ _ _ _ _ (@zaj _ _ _ _ _ _ _ _ 3 nd (by walk_at "E") (by rfl) (by walk_at "o2") (by rfl) (by walk_at "o4")) (@zae _ _ _ _ _ _ _ (@zao _ _ _ _ _ _ _ _ (by walk_at "E"))))
noncomputable abbrev zbg : Stmt := top 61
theorem zeF : zak ["_law_some", "_law_k", "_law_three"] ["_law_some"] (zab zbg) := ⟨rfl, rfl, rfl, by decide +kernel, rfl, by decide +kernel, by decide +kernel⟩
set_option maxHeartbeats 4000000 in
theorem zif {P : Program} {w : World} {K : PySem.W.Frag} {mg : Str → Option Value} {base : Heap} {f : Addr} {fd : FuncData} {k : Nat} (F : Fun K "_law_general" "_law_general" zbg f fd) (hm : mg "_law_general" = some (.ref f)) (hb : zaG K fd ["_law_some"] []) (n_range : mg "range" = none) (F__law_det : zal P w K mg base k "_law_det" zb8) : zal P w K mg base (k + 1) "_law_general" zaO := by
 refine zal.mk' (own' := []) F zeF hm hb rfl rfl fun X E hX C L => ?_
 obtain ⟨cdv, A, outer, s, H, rfl⟩ := hX
 have nd := zeF.nd
 exact (@zac _ _ _ _ _ _ _ _ _ _ (@zbQ _ _ _ _ _ _ _ _ _ _ _ _ L C.calm (by walk_at "E") (@zap _ _ 1 _ nd (by rfl) (by walk_at "o2") (by walk_at "o4")) (@zac _ _ _ _ _ _ _ _ _ _ (@zaj _ _ _ _ _ _ _ _ 2 nd (by walk_at "E") (by rfl) (by walk_at "o2") (by rfl) (by walk_at "o4")) (@zae _ _ _ _ _ _ _ (@zbl _ _ _ _ _ _ _ _ _ _ _ _ (by walk_at "E") (@zae _ _ _ _ _ _ _ (@zao _ _ _ _ _ _ _ _ (@zho _ _ _ _ _))) (@zas _ _ _ _)))) (by rfl) (by intro _ ; rfl)) (@zae _ _ _ _ _ _ _ (@zao _ _ _ _ _ _ _ _ (@zho _ _ _ _ _))))
noncomputable abbrev zcS : Stmt := top 52
theorem zig : zak ["_law_cell", "_law_k", "_law_number"] ["_law_cell", "_law_k"] (zab zcS) := ⟨rfl, rfl, rfl, by decide +kernel, rfl, by decide +kernel, by decide +kernel⟩
set_option maxHeartbeats 4000000 in
theorem zl1 {P : Program} {w : World} {K : PySem.W.Frag} {mg : Str → Option Value} {base : Heap} {f : Addr} {fd : FuncData} {k : Nat} (F : Fun K "_law_mix" "_law_mix" zcS f fd) (hm : mg "_law_mix" = some (.ref f)) (hb : zaG K fd ["_law_cell", "_law_k"] []) : zal P w K mg base (k + 1) "_law_mix" zaB := by
 refine zal.mk' (own' := []) F zig hm hb rfl rfl fun X E hX C L => ?_
 obtain ⟨cdv, A, outer, s, H, rfl⟩ := hX
 have nd := zig.nd
 exact (@zac _ _ _ _ _ _ _ _ _ _ (@zbl _ _ _ _ _ _ _ _ _ _ _ _ (@zcd _ _ _ _ _ _ _ _ _ (@zwm _) (by walk_at "E") (by walk_at "E") (by first | exact zaM _ (by decide) (by decide) | rfl)) (@zae _ _ _ _ _ _ _ (@zao _ _ _ _ _ _ _ _ (by walk_at "E"))) (@zas _ _ _ _)) (@zac _ _ _ _ _ _ _ _ _ _ (@zaj _ _ _ _ _ _ _ _ 2 nd (by walk_at "E") (by rfl) (by walk_at "o2") (by rfl) (by walk_at "o4")) (@zac _ _ _ _ _ _ _ _ _ _ (@zaj _ _ _ _ _ _ _ _ 2 nd (by walk_at "E") (by rfl) (by walk_at "o2") (by rfl) (by walk_at "o4")) (@zae _ _ _ _ _ _ _ (@zao _ _ _ _ _ _ _ _ (by walk_at "E"))))))
noncomputable abbrev zbX : Stmt := top 53
theorem zih : zak ["_law_some", "_law_by", "_law_number", "_law_rest", "_law_ends"] ["_law_some"] (zab zbX) := ⟨rfl, rfl, rfl, by decide +kernel, rfl, by decide +kernel, by decide +kernel⟩
set_option maxHeartbeats 4000000 in
theorem zl2 {P : Program} {w : World} {K : PySem.W.Frag} {mg : Str → Option Value} {base : Heap} {f : Addr} {fd : FuncData} {k : Nat} (F : Fun K "_law_low" "_law_low" zbX f fd) (hm : mg "_law_low" = some (.ref f)) (hb : zaG K fd ["_law_some"] []) (n_abs : mg "abs" = none) (n_tuple : mg "tuple" = none) : zal P w K mg base (k + 1) "_law_low" zbc := by
 refine zal.mk' (own' := []) F zih hm hb rfl rfl fun X E hX C L => ?_
 obtain ⟨cdv, A, outer, s, H, rfl⟩ := hX
 have nd := zih.nd
 exact (@zac _ _ _ _ _ _ _ _ _ _ (@zaj _ _ _ _ _ _ _ _ 1 nd (@zct _ _ _ _ _) (by rfl) (by walk_at "o2") (by rfl) (by walk_at "o4")) (@zac _ _ _ _ _ _ _ _ _ _ (@zbQ _ _ _ _ _ _ _ _ _ _ _ _ L C.calm (by walk_at "E") (@zap _ _ 2 _ nd (by rfl) (by walk_at "o2") (by walk_at "o4")) (@zac _ _ _ _ _ _ _ _ _ _ (@zaj _ _ _ _ _ _ _ _ 3 nd (by walk_at "E") (by rfl) (by walk_at "o2") (by rfl) (by walk_at "o4")) (@zae _ _ _ _ _ _ _ (@zjy _ _ _ _ _ _ _ _ _ L (by walk_at "E") (@zae _ _ _ _ _ _ _ (@zsD _ _ _ _ _ _ _ _ _ _ (by walk_at "E") (@zpk _ _ _ _ [1, 3] 2 C.calm (@zeH _ _ _ _ _ (@zfk _ _ (1) _ nd rfl (by walk_at "o2") (by walk_at "o4")) (@zeH _ _ _ _ _ (@zfk _ _ (3) _ nd rfl (by walk_at "o2") (by walk_at "o4")) (@zls _) (by rfl)) (by rfl)) (by rfl) (by rfl) (by rfl)) (by rfl) (by rfl) (by rfl) (by rfl)))))) (by rfl) (by intro _ ; rfl)) (@zac _ _ _ _ _ _ _ _ _ _ (@zeN _ _ _ _ _ _ _ _ _ _ _ _ _ _ _ _ _ _ _ _ 4 C.calm nd (LC.of (k := 1) (NY := ["_law_number", "_law_some", "_law_by", "?_law_number", "_law_rest", "_law_ends"]) (N := ["_law_some", "_law_by", "_law_number", "_law_rest", "_law_ends"]) (sc0 := (zab zbX)) rfl rfl (by decide +kernel)) rfl (by walk_at "E") (fun _ _ _ _ nd2 => ⟨(@zap _ _ 0 _ nd2 (by rfl) (by walk_at "o2") (by walk_at "o4")), (@zf3 _ _ _ _ (by walk_at "E")), (by walk_at "E")⟩) (by rfl) (by rfl) (by rfl) (by rfl) (by intro _ ; rfl)) (@zac _ _ _ _ _ _ _ _ _ _ (@zbl _ _ _ _ _ _ _ _ _ _ _ _ (@zcd _ _ _ _ _ _ _ _ _ (@zlJ _) (by walk_at "E") (@zct _ _ _ _ _) (by first | exact zaM _ (by decide) (by decide) | rfl)) (@zae _ _ _ _ _ _ _ (@zaj _ _ _ _ _ _ _ _ 1 nd (by walk_at "E") (by rfl) (by walk_at "o2") (by rfl) (by walk_at "o4"))) (@zas _ _ _ _)) (@zae _ _ _ _ _ _ _ (@zao _ _ _ _ _ _ _ _ (@zjC _ _ _ _ _ _ _ n_tuple (@zaJ _ _ _ _ _ _ (@DF.val _ _ _ _ (@zeg _ _ _ _ _ _ _ _ _ _ _ _ _ _ _ C.calm (LC.of (k := 1) (NY := ["_law_number", "_law_some", "_law_by", "?_law_number", "_law_rest", "_law_ends"]) (N := ["_law_some", "_law_by", "_law_number", "_law_rest", "_law_ends"]) (sc0 := (zab zbX)) rfl rfl (by decide +kernel)) rfl (by walk_at "E") (fun _ _ _ _ nd2 => ⟨(@zap _ _ 0 _ nd2 (by rfl) (by walk_at "o2") (by walk_at "o4")), (@zbi _ _), (by walk_at "E")⟩) (by intro _ ; rfl))) (@zbP _ _) (by rfl)) (by rfl) (by rfl) (by rfl))))))))
noncomputable abbrev zci : Stmt := top 56
theorem zgM : zak ["_law_cell", "_law_k", "_law_way", "_law_some", "_law_j", "_law_number"] ["_law_cell", "_law_k"] (zab zci) := ⟨rfl, rfl, rfl, by decide +kernel, rfl, by decide +kernel, by decide +kernel⟩
set_option maxHeartbeats 4000000 in
theorem zlf {P : Program} {w : World} {K : PySem.W.Frag} {mg : Str → Option Value} {base : Heap} {f : Addr} {fd : FuncData} {k : Nat} (F : Fun K "_law_spot" "_law_spot" zci f fd) (hm : mg "_law_spot" = some (.ref f)) (hb : zaG K fd ["_law_cell", "_law_k"] []) (n_range : mg "range" = none) (F__law_mix : zal P w K mg base k "_law_mix" zaB) (F__law_low : zal P w K mg base k "_law_low" zbc) : zal P w K mg base (k + 1) "_law_spot" zaT := by
 refine zal.mk' (own' := []) F zgM hm hb rfl rfl fun X E hX C L => ?_
 obtain ⟨cdv, A, outer, s, H, rfl⟩ := hX
 have nd := zgM.nd
 exact (@zac _ _ _ _ _ _ _ _ _ _ (@zaj _ _ _ _ _ _ _ _ 2 nd (by walk_at "E") (by rfl) (by walk_at "o2") (by rfl) (by walk_at "o4")) (@zac _ _ _ _ _ _ _ _ _ _ (@zgl _ _ _ _ _ _ _ _ _ _ 3 nd (by walk_at "E") (by rfl) (by rfl) (by walk_at "o2") (by rfl) (by walk_at "o4")) (@zac _ _ _ _ _ _ _ _ _ _ (@zbQ _ _ _ _ _ _ _ _ _ _ _ _ L C.calm (by walk_at "E") (@zap _ _ 4 _ nd (by rfl) (by walk_at "o2") (by walk_at "o4")) (@zac _ _ _ _ _ _ _ _ _ _ (@zmt _ _ _ _ _ _ _ _ _ 5 nd (by walk_at "E") (by rfl) (by rfl) (by walk_at "o2") (by rfl) (by walk_at "o4")) (@zae _ _ _ _ _ _ _ (@zkr _ _ _ _ _ _ _ _ 3 _ _ _ (by walk_at "E") (by rfl) (by rfl) (by walk_at "o3") (by decide) (by decide) (by rfl) (by rfl) (by rfl) (by rfl) (by rfl) (by rfl)))) (by rfl) (by intro _ ; rfl)) (@zac _ _ _ _ _ _ _ _ _ _ (@zbl _ _ _ _ _ _ _ _ _ _ _ _ (by walk_at "E") (@zae _ _ _ _ _ _ _ (@ztp _ _ _ _ _ _ _ _ _ _ _ _ 3 (@zct _ _ _ _ _) (@zct _ _ _ _ _) (by rfl) (by rfl) (by walk_at "o3") (by decide) (by decide) (by intro _ ; rfl) (by rfl) (by rfl) (by rfl))) (@zas _ _ _ _)) (@zac _ _ _ _ _ _ _ _ _ _ (@zbl _ _ _ _ _ _ _ _ _ _ _ _ (by walk_at "E") (@zac _ _ _ _ _ _ _ _ _ _ (@ztp _ _ _ _ _ _ _ _ _ _ _ _ 3 (by walk_at "E") (@zct _ _ _ _ _) (by rfl) (by rfl) (by walk_at "o3") (by decide) (by decide) (by intro _ ; rfl) (by rfl) (by rfl) (by rfl)) (@zdr _ _ _ _ _ _ _ _ 3 (by rfl) (by rfl) (@zas _ _ _ _))) (@zdr _ _ _ _ _ _ _ _ 3 (by rfl) (by rfl) (@zas _ _ _ _))) (@zae _ _ _ _ _ _ _ (@zao _ _ _ _ _ _ _ _ (by walk_at "E"))))))))
noncomputable abbrev zbM : Stmt := top 62
theorem zgN : zak ["_law_cell", "_law_at", "_law_some"] ["_law_cell", "_law_at"] (zab zbM) := ⟨rfl, rfl, rfl, by decide +kernel, rfl, by decide +kernel, by decide +kernel⟩
set_option maxHeartbeats 4000000 in
theorem zlg {P : Program} {w : World} {K : PySem.W.Frag} {mg : Str → Option Value} {base : Heap} {f : Addr} {fd : FuncData} {k : Nat} (F : Fun K "_law_four" "_law_four" zbM f fd) (hm : mg "_law_four" = some (.ref f)) (hb : zaG K fd ["_law_cell", "_law_at"] []) (n_range : mg "range" = none) (F__law_spot : zal P w K mg base k "_law_spot" zaT) (F__law_general : zal P w K mg base k "_law_general" zaO) : zlQ P w K mg base (k + 1) "_law_four" zbu := by
 refine zlQ.mk' (own' := []) F zgN hm hb rfl rfl fun X E hX C L => ?_
 obtain ⟨cdv, A, outer, s, H, rfl⟩ := hX
 have nd := zgN.nd
 exact (@zac _ _ _ _ _ _ _ _ _ _ (@zrR _ _ _ _ _ _ _ _ _ _ _ _ _ _ _ _ _ _ _ _ _ 2 C.calm nd (LC.of (k := 1) (NY := ["_law_k", "_law_cell", "_law_at", "_law_some"]) (N := ["_law_cell", "_law_at", "_law_some"]) (sc0 := (zab zbM)) rfl rfl (by decide +kernel)) rfl (by walk_at "E") (fun _ _ _ _ nd2 => ⟨(@zap _ _ 0 _ nd2 (by rfl) (by walk_at "o2") (by walk_at "o4")), (@zbi _ _), (by walk_at "E")⟩) (by rfl) (by rfl) (by rfl) (by rfl) (by intro _ ; rfl)) (@zac _ _ _ _ _ _ _ _ _ _ (@zbl _ _ _ _ _ _ _ _ _ _ _ _ (by walk_at "E") (@zae _ _ _ _ _ _ _ (@zqy _ _ _ _ _ _ _ 2 _ (by rfl) (by rfl) (by walk_at "o3") (by decide) (by decide))) (@zas _ _ _ _)) (@zdr _ _ _ _ _ _ _ _ 2 (by rfl) (by rfl) (@zac _ _ _ _ _ _ _ _ _ _ (@zgl _ _ _ _ _ _ _ _ _ _ 2 nd (by walk_at "E") (by rfl) (by rfl) (by walk_at "o2") (by rfl) (by walk_at "o4")) (@zac _ _ _ _ _ _ _ _ _ _ (@zbl _ _ _ _ _ _ _ _ _ _ _ _ (by walk_at "E") (@zae _ _ _ _ _ _ _ (@zqy _ _ _ _ _ _ _ 2 _ (by rfl) (by rfl) (by walk_at "o3") (by decide) (by decide))) (@zas _ _ _ _)) (@zdr _ _ _ _ _ _ _ _ 2 (by rfl) (by rfl) (@zae _ _ _ _ _ _ _ (@zuP _ _ _ _ _ _ _ _ (by walk_at "E")))))))))
noncomputable abbrev za3 : Stmt := top 63
theorem zff : zak ["_law_one", "_law_two", "_law_s", "_law_t", "_law_some"] ["_law_one", "_law_two", "_law_s", "_law_t"] (zab za3) := ⟨rfl, rfl, rfl, by decide +kernel, rfl, by decide +kernel, by decide +kernel⟩
set_option maxHeartbeats 4000000 in
theorem zix {P : Program} {w : World} {K : PySem.W.Frag} {mg : Str → Option Value} {base : Heap} {f : Addr} {fd : FuncData} {k : Nat} (F : Fun K "_law_on_two" "_law_on_two" za3 f fd) (hm : mg "_law_on_two" = some (.ref f)) (hb : zaG K fd ["_law_one", "_law_two", "_law_s", "_law_t"] []) (n_zip : mg "zip" = none) (F__law_low : zal P w K mg base k "_law_low" zbc) : zal P w K mg base (k + 1) "_law_on_two" zbU := by
 refine zal.mk' (own' := []) F zff hm hb rfl rfl fun X E hX C L => ?_
 obtain ⟨cdv, A, outer, s, H, rfl⟩ := hX
 have nd := zff.nd
 exact (@zac _ _ _ _ _ _ _ _ _ _ (@zeN _ _ _ _ _ _ _ _ _ _ _ _ _ _ _ _ _ _ _ _ 4 C.calm nd (LC.of (k := 2) (NY := ["_law_a", "_law_b", "_law_one", "_law_two", "_law_s", "_law_t", "_law_some"]) (N := ["_law_one", "_law_two", "_law_s", "_law_t", "_law_some"]) (sc0 := (zab za3)) rfl rfl (by decide +kernel)) rfl (by walk_at "E") (fun _ _ _ _ nd2 => ⟨(@zpk _ _ _ _ [0, 1] 2 (XC.calm (C.lc _ _ _ _ _ _)) (@zeH _ _ _ _ _ (@zfk _ _ (0) _ nd2 rfl (by walk_at "o2") (by walk_at "o4")) (@zeH _ _ _ _ _ (@zfk _ _ (1) _ nd2 rfl (by walk_at "o2") (by walk_at "o4")) (@zls _) (by rfl)) (by rfl)) (by rfl) (by rfl) (by rfl)), (@zbi _ _), (by walk_at "E")⟩) (by rfl) (by rfl) (by rfl) (by rfl) (by intro _ ; rfl)) (@zac _ _ _ _ _ _ _ _ _ _ (@zbl _ _ _ _ _ _ _ _ _ _ _ _ (by walk_at "E") (@zae _ _ _ _ _ _ _ (@zao _ _ _ _ _ _ _ _ (by walk_at "E"))) (@zas _ _ _ _)) (@zae _ _ _ _ _ _ _ (@zao _ _ _ _ _ _ _ _ (by walk_at "E")))))
noncomputable abbrev zbp : Stmt := top 64
theorem zfX : zak ["_law_cell", "_law_how", "_law_many", "_law_way", "_law_spots", "_law_found", "_law_k", "_law_one", "_law_first", "_law_other", "_law_at"] ["_law_cell", "_law_how"] (zab zbp) := ⟨rfl, rfl, rfl, by decide +kernel, rfl, by decide +kernel, by decide +kernel⟩
set_option maxHeartbeats 4000000 in
theorem zjX {P : Program} {w : World} {K : PySem.W.Frag} {mg : Str → Option Value} {base : Heap} {f : Addr} {fd : FuncData} {k : Nat} (F : Fun K "_law_floor" "_law_floor" zbp f fd) (hm : mg "_law_floor" = some (.ref f)) (hb : zaG K fd ["_law_cell", "_law_how"] []) (n_range : mg "range" = none) (n_len : mg "len" = none) (F__law_mix : zal P w K mg base k "_law_mix" zaB) (F__law_spot : zal P w K mg base k "_law_spot" zaT) (F__law_four : zlQ P w K mg base k "_law_four" zbu) (F__law_on_two : zal P w K mg base k "_law_on_two" zbU) : zal P w K mg base (k + 1) "_law_floor" zbf := by
 refine zal.mk' (own' := []) F zfX hm hb rfl rfl fun X E hX C L => ?_
 obtain ⟨cdv, A, outer, s, H, rfl⟩ := hX
 have nd := zfX.nd
 exact (@zac _ _ _ _ _ _ _ _ _ _ (@zaj _ _ _ _ _ _ _ _ 2 nd (by walk_at "E") (by rfl) (by walk_at "o2") (by rfl) (by walk_at "o4")) (@zac _ _ _ _ _ _ _ _ _ _ (@zaj _ _ _ _ _ _ _ _ 3 nd (by walk_at "E") (by rfl) (by walk_at "o2") (by rfl) (by walk_at "o4")) (@zac _ _ _ _ _ _ _ _ _ _ (@zeN _ _ _ _ _ _ _ _ _ _ _ _ _ _ _ _ _ _ _ _ 4 C.calm nd (LC.of (k := 1) (NY := ["_law_k", "_law_cell", "_law_how", "_law_many", "_law_way", "_law_spots", "_law_found", "?_law_k", "_law_one", "_law_first", "_law_other", "_law_at"]) (N := ["_law_cell", "_law_how", "_law_many", "_law_way", "_law_spots", "_law_found", "_law_k", "_law_one", "_law_first", "_law_other", "_law_at"]) (sc0 := (zab zbp)) rfl rfl (by decide +kernel)) rfl (by walk_at "E") (fun _ _ _ _ nd2 => ⟨(@zap _ _ 0 _ nd2 (by rfl) (by walk_at "o2") (by walk_at "o4")), (@zbi _ _), (by walk_at "E")⟩) (by rfl) (by rfl) (by rfl) (by rfl) (by intro _ ; rfl)) (@zac _ _ _ _ _ _ _ _ _ _ (@zgl _ _ _ _ _ _ _ _ _ _ 5 nd (by walk_at "E") (by rfl) (by rfl) (by walk_at "o2") (by rfl) (by walk_at "o4")) (@zac _ _ _ _ _ _ _ _ _ _ (@zbQ _ _ _ _ _ _ _ _ _ _ _ _ L C.calm (by walk_at "E") (@zap _ _ 6 _ nd (by rfl) (by walk_at "o2") (by walk_at "o4")) (@zac _ _ _ _ _ _ _ _ _ _ (@zmt _ _ _ _ _ _ _ _ _ 7 nd (by walk_at "E") (by rfl) (by rfl) (by walk_at "o2") (by rfl) (by walk_at "o4")) (@zac _ _ _ _ _ _ _ _ _ _ (@zbl _ _ _ _ _ _ _ _ _ _ _ _ (@DW.dt _ _ _ _ (@znU _ _ _ _ _ _ _ _ (@zcd _ _ _ _ _ _ _ _ _ (@zlJ _) (by walk_at "E") (@zct _ _ _ _ _) (by first | exact zaM _ (by decide) (by decide) | rfl)) (by walk_at "E"))) (@zac _ _ _ _ _ _ _ _ _ _ (@zpt _ _ _ _ _ _ _ _ _ 8 nd (by walk_at "E") (by rfl) (by rfl) (by walk_at "o2") (by rfl) (by walk_at "o4")) (@zac _ _ _ _ _ _ _ _ _ _ (@zpt _ _ _ _ _ _ _ _ _ 9 nd (by walk_at "E") (by rfl) (by rfl) (by walk_at "o2") (by rfl) (by walk_at "o4")) (@zae _ _ _ _ _ _ _ (@zmt _ _ _ _ _ _ _ _ _ 7 nd (by walk_at "E") (by rfl) (by rfl) (by walk_at "o2") (by rfl) (by walk_at "o4"))))) (@zas _ _ _ _)) (@zae _ _ _ _ _ _ _ (@zbl _ _ _ _ _ _ _ _ _ _ _ _ (by walk_at "E") (@zae _ _ _ _ _ _ _ (@zkr _ _ _ _ _ _ _ _ 5 _ _ _ (by walk_at "E") (by rfl) (by rfl) (by walk_at "o3") (by decide) (by decide) (by rfl) (by rfl) (by rfl) (by rfl) (by rfl) (by rfl))) (@zas _ _ _ _))))) (by rfl) (by intro _ ; rfl)) (@zdr _ _ _ _ _ _ _ _ 5 (by rfl) (by rfl) (@zac _ _ _ _ _ _ _ _ _ _ (@zaj _ _ _ _ _ _ _ _ 10 nd (by walk_at "E") (by rfl) (by walk_at "o2") (by rfl) (by walk_at "o4")) (@zae _ _ _ _ _ _ _ (@zao _ _ _ _ _ _ _ _ (by walk_at "E"))))))))))
noncomputable abbrev zaL : Stmt := top 57
theorem zd9 : zak ["_law_some", "_law_by", "_law_number", "_law_rest"] ["_law_some"] (zab zaL) := ⟨rfl, rfl, rfl, by decide +kernel, rfl, by decide +kernel, by decide +kernel⟩
set_option maxHeartbeats 4000000 in
theorem zg0 {P : Program} {w : World} {K : PySem.W.Frag} {mg : Str → Option Value} {base : Heap} {f : Addr} {fd : FuncData} {k : Nat} (F : Fun K "_law_low_nine" "_law_low_nine" zaL f fd) (hm : mg "_law_low_nine" = some (.ref f)) (hb : zaG K fd ["_law_some"] []) (n_abs : mg "abs" = none) (n_tuple : mg "tuple" = none) : zal P w K mg base (k + 1) "_law_low_nine" zaz := by
 refine zal.mk' (own' := []) F zd9 hm hb rfl rfl fun X E hX C L => ?_
 obtain ⟨cdv, A, outer, s, H, rfl⟩ := hX
 have nd := zd9.nd
 exact (@zac _ _ _ _ _ _ _ _ _ _ (@zaj _ _ _ _ _ _ _ _ 1 nd (@zct _ _ _ _ _) (by rfl) (by walk_at "o2") (by rfl) (by walk_at "o4")) (@zac _ _ _ _ _ _ _ _ _ _ (@zbQ _ _ _ _ _ _ _ _ _ _ _ _ L C.calm (by walk_at "E") (@zap _ _ 2 _ nd (by rfl) (by walk_at "o2") (by walk_at "o4")) (@zac _ _ _ _ _ _ _ _ _ _ (@zaj _ _ _ _ _ _ _ _ 3 nd (by walk_at "E") (by rfl) (by walk_at "o2") (by rfl) (by walk_at "o4")) (@zae _ _ _ _ _ _ _ (@zjy _ _ _ _ _ _ _ _ _ L (by walk_at "E") (@zae _ _ _ _ _ _ _ (@zsD _ _ _ _ _ _ _ _ _ _ (by walk_at "E") (@zpk _ _ _ _ [1, 3] 2 C.calm (@zeH _ _ _ _ _ (@zfk _ _ (1) _ nd rfl (by walk_at "o2") (by walk_at "o4")) (@zeH _ _ _ _ _ (@zfk _ _ (3) _ nd rfl (by walk_at "o2") (by walk_at "o4")) (@zls _) (by rfl)) (by rfl)) (by rfl) (by rfl) (by rfl)) (by rfl) (by rfl) (by rfl) (by rfl)))))) (by rfl) (by intro _ ; rfl)) (@zac _ _ _ _ _ _ _ _ _ _ (@zbl _ _ _ _ _ _ _ _ _ _ _ _ (@zcd _ _ _ _ _ _ _ _ _ (@zlJ _) (@zrP _ _ _ _ _ _ _ (@DF.val _ _ _ _ (@zeg _ _ _ _ _ _ _ _ _ _ _ _ _ _ _ C.calm (LC.of (k := 1) (NY := ["_law_number", "_law_some", "_law_by", "?_law_number", "_law_rest"]) (N := ["_law_some", "_law_by", "_law_number", "_law_rest"]) (sc0 := (zab zaL)) rfl rfl (by decide +kernel)) rfl (by walk_at "E") (fun _ _ _ _ nd2 => ⟨(@zap _ _ 0 _ nd2 (by rfl) (by walk_at "o2") (by walk_at "o4")), (@zf3 _ _ _ _ (by walk_at "E")), (by walk_at "E")⟩) (by intro _ ; rfl))) (@zct _ _ _ _ _) (by intro _ _ ; rfl)) (@zct _ _ _ _ _) (by first | exact zaM _ (by decide) (by decide) | rfl)) (@zae _ _ _ _ _ _ _ (@zaj _ _ _ _ _ _ _ _ 1 nd (by walk_at "E") (by rfl) (by walk_at "o2") (by rfl) (by walk_at "o4"))) (@zas _ _ _ _)) (@zae _ _ _ _ _ _ _ (@zao _ _ _ _ _ _ _ _ (@zjC _ _ _ _ _ _ _ n_tuple (@zaJ _ _ _ _ _ _ (@DF.val _ _ _ _ (@zeg _ _ _ _ _ _ _ _ _ _ _ _ _ _ _ C.calm (LC.of (k := 1) (NY := ["_law_number", "_law_some", "_law_by", "?_law_number", "_law_rest"]) (N := ["_law_some", "_law_by", "_law_number", "_law_rest"]) (sc0 := (zab zaL)) rfl rfl (by decide +kernel)) rfl (by walk_at "E") (fun _ _ _ _ nd2 => ⟨(@zap _ _ 0 _ nd2 (by rfl) (by walk_at "o2") (by walk_at "o4")), (@zbi _ _), (by walk_at "E")⟩) (by intro _ ; rfl))) (@zbP _ _) (by rfl)) (by rfl) (by rfl) (by rfl)))))))
noncomputable abbrev zcj : Stmt := top 58
theorem zgO : zak ["_law_cell", "_law_k", "_law_way", "_law_some", "_law_j", "_law_number"] ["_law_cell", "_law_k"] (zab zcj) := ⟨rfl, rfl, rfl, by decide +kernel, rfl, by decide +kernel, by decide +kernel⟩
set_option maxHeartbeats 4000000 in
theorem zlh {P : Program} {w : World} {K : PySem.W.Frag} {mg : Str → Option Value} {base : Heap} {f : Addr} {fd : FuncData} {k : Nat} (F : Fun K "_law_nine" "_law_nine" zcj f fd) (hm : mg "_law_nine" = some (.ref f)) (hb : zaG K fd ["_law_cell", "_law_k"] []) (n_range : mg "range" = none) (n_int : mg "int" = none) (F__law_mix : zal P w K mg base k "_law_mix" zaB) (F__law_det : zal P w K mg base k "_law_det" zb8) (F__law_low_nine : zal P w K mg base k "_law_low_nine" zaz) : zal P w K mg base (k + 1) "_law_nine" zch := by
 refine zal.mk' (own' := []) F zgO hm hb rfl rfl fun X E hX C L => ?_
 obtain ⟨cdv, A, outer, s, H, rfl⟩ := hX
 have nd := zgO.nd
 exact (@zac _ _ _ _ _ _ _ _ _ _ (@zaj _ _ _ _ _ _ _ _ 2 nd (by walk_at "E") (by rfl) (by walk_at "o2") (by rfl) (by walk_at "o4")) (@zac _ _ _ _ _ _ _ _ _ _ (@zgl _ _ _ _ _ _ _ _ _ _ 3 nd (by walk_at "E") (by rfl) (by rfl) (by walk_at "o2") (by rfl) (by walk_at "o4")) (@zac _ _ _ _ _ _ _ _ _ _ (@zbQ _ _ _ _ _ _ _ _ _ _ _ _ L C.calm (by walk_at "E") (@zap _ _ 4 _ nd (by rfl) (by walk_at "o2") (by walk_at "o4")) (@zac _ _ _ _ _ _ _ _ _ _ (@zmt _ _ _ _ _ _ _ _ _ 5 nd (by walk_at "E") (by rfl) (by rfl) (by walk_at "o2") (by rfl) (by walk_at "o4")) (@zae _ _ _ _ _ _ _ (@zkr _ _ _ _ _ _ _ _ 3 _ _ _ (by walk_at "E") (by rfl) (by rfl) (by walk_at "o3") (by decide) (by decide) (by rfl) (by rfl) (by rfl) (by rfl) (by rfl) (by rfl)))) (by rfl) (by intro _ ; rfl)) (@zdr _ _ _ _ _ _ _ _ 3 (by rfl) (by rfl) (@zac _ _ _ _ _ _ _ _ _ _ (@zbl _ _ _ _ _ _ _ _ _ _ _ _ (by walk_at "E") (@zae _ _ _ _ _ _ _ (@zaj _ _ _ _ _ _ _ _ 3 nd (by walk_at "E") (by rfl) (by walk_at "o2") (by rfl) (by walk_at "o4"))) (@zas _ _ _ _)) (@zae _ _ _ _ _ _ _ (@zao _ _ _ _ _ _ _ _ (by walk_at "E"))))))))
noncomputable abbrev zcT : Stmt := top 10
theorem zii : zak ["thing"] ["thing"] (zab zcT) := ⟨rfl, rfl, rfl, by decide +kernel, rfl, by decide +kernel, by decide +kernel⟩
set_option maxHeartbeats 4000000 in
theorem zl3 {P : Program} {w : World} {K : PySem.W.Frag} {mg : Str → Option Value} {base : Heap} {f : Addr} {fd : FuncData} {k : Nat} (F : Fun K "is_whole" "is_whole" zcT f fd) (hm : mg "is_whole" = some (.ref f)) (hb : zaG K fd ["thing"] []) (n_isinstance : mg "isinstance" = none) (n_int : mg "int" = none) (n_bool : mg "bool" = none) : zal P w K mg base (k + 1) "is_whole" zcO := by
 refine zal.mk' (own' := []) F zii hm hb rfl rfl fun X E hX C L => ?_
 obtain ⟨cdv, A, outer, s, H, rfl⟩ := hX
 have nd := zii.nd
 exact (@zae _ _ _ _ _ _ _ (@zao _ _ _ _ _ _ _ _ (@zms _ _ _ _ _ _ _ _ (@zkw _ _ _ _ _ _ _ n_isinstance (@zaJ _ _ _ _ _ _ (by walk_at "E") (@zaJ _ _ _ _ _ _ (@zpb _ _ _ _ _ n_int zsE (by rfl) (by decide) (by decide)) (@zbP _ _) (by rfl)) (by rfl)) (by rfl) (by rfl) (by rfl)) (@zpf _ _ _ _ _ _ (@zv5 _ _ _ _ _ (@zkw _ _ _ _ _ _ _ n_isinstance (@zaJ _ _ _ _ _ _ (by walk_at "E") (@zaJ _ _ _ _ _ _ (@zpb _ _ _ _ _ n_bool zup (by rfl) (by decide) (by decide)) (@zbP _ _) (by rfl)) (by rfl)) (by rfl) (by rfl) (by rfl)))))))
noncomputable abbrev za4 : Stmt := top 13
theorem zfg : zak ["three"] ["three"] (zab za4) := ⟨rfl, rfl, rfl, by decide +kernel, rfl, by decide +kernel, by decide +kernel⟩
set_option maxHeartbeats 4000000 in
theorem ziy {P : Program} {w : World} {K : PySem.W.Frag} {mg : Str → Option Value} {base : Heap} {f : Addr} {fd : FuncData} {k : Nat} (F : Fun K "makes_place" "makes_place" za4 f fd) (hm : mg "makes_place" = some (.ref f)) (hb : zaG K fd ["three"] []) (n_all : mg "all" = none) (F_is_whole : zal P w K mg base k "is_whole" zcO) : zal P w K mg base (k + 1) "makes_place" zaU := by
 refine zal.mk' (own' := []) F zfg hm hb rfl rfl fun X E hX C L => ?_
 obtain ⟨cdv, A, outer, s, H, rfl⟩ := hX
 have nd := zfg.nd
 exact (@zae _ _ _ _ _ _ _ (@zao _ _ _ _ _ _ _ _ (@zms _ _ _ _ _ _ _ _ (@zpC _ _ _ _ _ _ _ C.calm n_all (@zaJ _ _ _ _ _ _ (@DF.val _ _ _ _ (@zeg _ _ _ _ _ _ _ _ _ _ _ _ _ _ _ C.calm (LC.of (k := 1) (NY := ["thing", "three"]) (N := ["three"]) (sc0 := (zab za4)) rfl rfl (by decide +kernel)) rfl (by walk_at "E") (fun _ _ _ _ nd2 => ⟨(@zap _ _ 0 _ nd2 (by rfl) (by walk_at "o2") (by walk_at "o4")), (@zbi _ _), (by walk_at "E")⟩) (by intro _ ; rfl))) (@zbP _ _) (by rfl)) (by rfl) (by rfl) (by rfl)) (by walk_at "E"))))
noncomputable abbrev zdB : Stmt := top 15
theorem zi8 : zak ["one", "other", "rest"] ["one", "other"] (zab zdB) := ⟨rfl, rfl, rfl, by decide +kernel, rfl, by decide +kernel, by decide +kernel⟩
set_option maxHeartbeats 4000000 in
theorem zod {P : Program} {w : World} {K : PySem.W.Frag} {mg : Str → Option Value} {base : Heap} {f : Addr} {fd : FuncData} {k : Nat} (F : Fun K "divisor" "divisor" zdB f fd) (hm : mg "divisor" = some (.ref f)) (hb : zaG K fd ["one", "other"] []) (n_abs : mg "abs" = none) : zal P w K mg base (k + 1) "divisor" zbm := by
 refine zal.mk' (own' := []) F zi8 hm hb rfl rfl fun X E hX C L => ?_
 obtain ⟨cdv, A, outer, s, H, rfl⟩ := hX
 have nd := zi8.nd
 exact (@zac _ _ _ _ _ _ _ _ _ _ (@zaj _ _ _ _ _ _ _ _ 0 nd (by walk_at "E") (by rfl) (by walk_at "o2") (by rfl) (by walk_at "o4")) (@zac _ _ _ _ _ _ _ _ _ _ (@zaj _ _ _ _ _ _ _ _ 1 nd (by walk_at "E") (by rfl) (by walk_at "o2") (by rfl) (by walk_at "o4")) (@zac _ _ _ _ _ _ _ _ _ _ (@zjy _ _ _ _ _ _ _ _ _ L (by walk_at "E") (@zac _ _ _ _ _ _ _ _ _ _ (@zaj _ _ _ _ _ _ _ _ 2 nd (by walk_at "E") (by rfl) (by walk_at "o2") (by rfl) (by walk_at "o4")) (@zac _ _ _ _ _ _ _ _ _ _ (@zaj _ _ _ _ _ _ _ _ 0 nd (by walk_at "E") (by rfl) (by walk_at "o2") (by rfl) (by walk_at "o4")) (@zae _ _ _ _ _ _ _ (@zaj _ _ _ _ _ _ _ _ 1 nd (by walk_at "E") (by rfl) (by walk_at "o2") (by rfl) (by walk_at "o4")))))) (@zae _ _ _ _ _ _ _ (@zao _ _ _ _ _ _ _ _ (by walk_at "E"))))))
noncomputable abbrev zdb : Stmt := top 14
theorem zi9 : zak ["numbers", "part", "last"] ["numbers"] (zab zdb) := ⟨rfl, rfl, rfl, by decide +kernel, rfl, by decide +kernel, by decide +kernel⟩
set_option maxHeartbeats 4000000 in
theorem zoe {P : Program} {w : World} {K : PySem.W.Frag} {mg : Str → Option Value} {base : Heap} {f : Addr} {fd : FuncData} {k : Nat} (F : Fun K "in_form" "in_form" zdb f fd) (hm : mg "in_form" = some (.ref f)) (hb : zaG K fd ["numbers"] []) (F_divisor : zal P w K mg base k "divisor" zbm) : zal P w K mg base (k + 1) "in_form" zbn := by
 refine zal.mk' (own' := []) F zi9 hm hb rfl rfl fun X E hX C L => ?_
 obtain ⟨cdv, A, outer, s, H, rfl⟩ := hX
 have nd := zi9.nd
 exact (@zac _ _ _ _ _ _ _ _ _ _ (@zaj _ _ _ _ _ _ _ _ 1 nd (by walk_at "E") (by rfl) (by walk_at "o2") (by rfl) (by walk_at "o4")) (@zac _ _ _ _ _ _ _ _ _ _ (@zaj _ _ _ _ _ _ _ _ 2 nd (@zrP _ _ _ _ _ _ _ (@DF.val _ _ _ _ (@zeg _ _ _ _ _ _ _ _ _ _ _ _ _ _ _ C.calm (LC.of (k := 1) (NY := ["number", "numbers", "part", "last"]) (N := ["numbers", "part", "last"]) (sc0 := (zab zdb)) rfl rfl (by decide +kernel)) rfl (by walk_at "E") (fun _ _ _ _ nd2 => ⟨(@zap _ _ 0 _ nd2 (by rfl) (by walk_at "o2") (by walk_at "o4")), (@zf3 _ _ _ _ (by walk_at "E")), (by walk_at "E")⟩) (by intro _ ; rfl))) (by walk_at "E") (by intro _ _ ; rfl)) (by rfl) (by walk_at "o2") (by rfl) (by walk_at "o4")) (@zac _ _ _ _ _ _ _ _ _ _ (@zbl _ _ _ _ _ _ _ _ _ _ _ _ (@zcd _ _ _ _ _ _ _ _ _ (@zlJ _) (by walk_at "E") (@zct _ _ _ _ _) (by first | exact zaM _ (by decide) (by decide) | rfl)) (@zae _ _ _ _ _ _ _ (@zaj _ _ _ _ _ _ _ _ 1 nd (by walk_at "E") (by rfl) (by walk_at "o2") (by rfl) (by walk_at "o4"))) (@zas _ _ _ _)) (@zae _ _ _ _ _ _ _ (@zao _ _ _ _ _ _ _ _ (by walk_at "E"))))))
noncomputable abbrev zcU : Stmt := top 11
theorem zij : zak ["thing"] ["thing"] (zab zcU) := ⟨rfl, rfl, rfl, by decide +kernel, rfl, by decide +kernel, by decide +kernel⟩
set_option maxHeartbeats 4000000 in
theorem zl4 {P : Program} {w : World} {K : PySem.W.Frag} {mg : Str → Option Value} {base : Heap} {f : Addr} {fd : FuncData} {k : Nat} (F : Fun K "is_place" "is_place" zcU f fd) (hm : mg "is_place" = some (.ref f)) (hb : zaG K fd ["thing"] []) (n_isinstance : mg "isinstance" = none) (n_tuple : mg "tuple" = none) (n_len : mg "len" = none) (F_makes_place : zal P w K mg base k "makes_place" zaU) (F_in_form : zal P w K mg base k "in_form" zbn) : zal P w K mg base (k + 1) "is_place" zce := by
 refine zal.mk' (own' := []) F zij hm hb rfl rfl fun X E hX C L => ?_
 obtain ⟨cdv, A, outer, s, H, rfl⟩ := hX
 have nd := zij.nd
 exact (@zac _ _ _ _ _ _ _ _ _ _ (@zbl _ _ _ _ _ _ _ _ _ _ _ _ (@DW.dt _ _ _ _ (@znU _ _ _ _ _ _ _ _ (@zgg _ _ _ _ _ (@zhp _ _ _ _ (@zkw _ _ _ _ _ _ _ n_isinstance (@zaJ _ _ _ _ _ _ (by walk_at "E") (@zaJ _ _ _ _ _ _ (@zpb _ _ _ _ _ n_tuple zjA (by rfl) (by decide) (by decide)) (@zbP _ _) (by rfl)) (by rfl)) (by rfl) (by rfl) (by rfl)) (by intro _ ; rfl))) (by walk_at "E"))) (@zae _ _ _ _ _ _ _ (@zao _ _ _ _ _ _ _ _ (@zho _ _ _ _ _))) (@zas _ _ _ _)) (@zac _ _ _ _ _ _ _ _ _ _ (@zbl _ _ _ _ _ _ _ _ _ _ _ _ (by walk_at "E") (@zae _ _ _ _ _ _ _ (@zao _ _ _ _ _ _ _ _ (@zho _ _ _ _ _))) (@zas _ _ _ _)) (@zae _ _ _ _ _ _ _ (@zao _ _ _ _ _ _ _ _ (by walk_at "E")))))
noncomputable abbrev zck : Stmt := top 24
theorem zik : zak ["thing"] ["thing"] (zab zck) := ⟨rfl, rfl, rfl, by decide +kernel, rfl, by decide +kernel, by decide +kernel⟩
set_option maxHeartbeats 4000000 in
theorem zl5 {P : Program} {w : World} {K : PySem.W.Frag} {mg : Str → Option Value} {base : Heap} {f : Addr} {fd : FuncData} {k : Nat} (F : Fun K "is_floor" "is_floor" zck f fd) (hm : mg "is_floor" = some (.ref f)) (hb : zaG K fd ["thing"] []) (n_isinstance : mg "isinstance" = none) (n_list : mg "list" = none) (n_len : mg "len" = none) (n_all : mg "all" = none) (n_set : mg "set" = none) (k_MOST_PEGS_is : ∃ u v, mg "MOST_PEGS" = some u ∧ zbC v u ∧ ∀ G, Rep K mg G zdP v) (F_is_place : zal P w K mg base k "is_place" zce) : zal P w K mg base (k + 1) "is_floor" zbt := by
 refine zal.mk' (own' := []) F zik hm hb rfl rfl fun X E hX C L => ?_
 obtain ⟨cdv, A, outer, s, H, rfl⟩ := hX
 have nd := zik.nd
 exact (@zac _ _ _ _ _ _ _ _ _ _ (@zbl _ _ _ _ _ _ _ _ _ _ _ _ (@DW.dt _ _ _ _ (@znU _ _ _ _ _ _ _ _ (@zgg _ _ _ _ _ (@zhp _ _ _ _ (@zkw _ _ _ _ _ _ _ n_isinstance (@zaJ _ _ _ _ _ _ (by walk_at "E") (@zaJ _ _ _ _ _ _ (@zpb _ _ _ _ _ n_list zpB (by rfl) (by decide) (by decide)) (@zbP _ _) (by rfl)) (by rfl)) (by rfl) (by rfl) (by rfl)) (by intro _ ; rfl))) (@zpd _ _ _ _ _ (@zgg _ _ _ _ _ (@zpA _ _ _ _ _ _ _ _ _ _ _ _ _ (@zum _) (@zum _) (@zct _ _ _ _ _) (by walk_at "E") (by walk_at "E") (by with_unfolding_all rfl)))))) (@zae _ _ _ _ _ _ _ (@zao _ _ _ _ _ _ _ _ (@zho _ _ _ _ _))) (@zas _ _ _ _)) (@zac _ _ _ _ _ _ _ _ _ _ (@zbl _ _ _ _ _ _ _ _ _ _ _ _ (@zgg _ _ _ _ _ (@zhp _ _ _ _ (@zpC _ _ _ _ _ _ _ C.calm n_all (@zaJ _ _ _ _ _ _ (@DF.val _ _ _ _ (@zeg _ _ _ _ _ _ _ _ _ _ _ _ _ _ _ C.calm (LC.of (k := 1) (NY := ["member", "thing"]) (N := ["thing"]) (sc0 := (zab zck)) rfl rfl (by decide +kernel)) rfl (by walk_at "E") (fun _ _ _ _ nd2 => ⟨(@zap _ _ 0 _ nd2 (by rfl) (by walk_at "o2") (by walk_at "o4")), (@zbi _ _), (by walk_at "E")⟩) (by intro _ ; rfl))) (@zbP _ _) (by rfl)) (by rfl) (by rfl) (by rfl)) (by intro _ ; rfl))) (@zae _ _ _ _ _ _ _ (@zao _ _ _ _ _ _ _ _ (@zho _ _ _ _ _))) (@zas _ _ _ _)) (@zae _ _ _ _ _ _ _ (@zao _ _ _ _ _ _ _ _ (by walk_at "E")))))
noncomputable abbrev zdC : Stmt := top 25
theorem zja : zak ["floor"] ["floor"] (zab zdC) := ⟨rfl, rfl, rfl, by decide +kernel, rfl, by decide +kernel, by decide +kernel⟩
set_option maxHeartbeats 4000000 in
theorem zof {P : Program} {w : World} {K : PySem.W.Frag} {mg : Str → Option Value} {base : Heap} {f : Addr} {fd : FuncData} {k : Nat} (F : Fun K "look_at" "look_at" zdC f fd) (hm : mg "look_at" = some (.ref f)) (hb : zaG K fd ["floor"] []) (F_is_floor : zal P w K mg base k "is_floor" zbt) : zal P w K mg base (k + 1) "look_at" zbD := by
 refine zal.mk' (own' := []) F zja hm hb rfl rfl fun X E hX C L => ?_
 obtain ⟨cdv, A, outer, s, H, rfl⟩ := hX
 have nd := zja.nd
 exact (@zae _ _ _ _ _ _ _ (@zbl _ _ _ _ _ _ _ _ _ _ _ _ (by walk_at "E") (@zae _ _ _ _ _ _ _ (@ziL _ _ _ _ _ _)) (@zas _ _ _ _)))
noncomputable abbrev zgd : Stmt := top 18
theorem znE : zak ["one", "other", "x", "y", "z"] ["one", "other"] (zab zgd) := ⟨rfl, rfl, rfl, by decide +kernel, rfl, by decide +kernel, by decide +kernel⟩
set_option maxHeartbeats 4000000 in
theorem zsn {P : Program} {w : World} {K : PySem.W.Frag} {mg : Str → Option Value} {base : Heap} {f : Addr} {fd : FuncData} {k : Nat} (F : Fun K "cross" "cross" zgd f fd) (hm : mg "cross" = some (.ref f)) (hb : zaG K fd ["one", "other"] []) : zal P w K mg base (k + 1) "cross" zcz := by
 refine zal.mk' (own' := []) F znE hm hb rfl rfl fun X E hX C L => ?_
 obtain ⟨cdv, A, outer, s, H, rfl⟩ := hX
 have nd := znE.nd
 exact (@zac _ _ _ _ _ _ _ _ _ _ (@zaj _ _ _ _ _ _ _ _ 2 nd (by walk_at "E") (by rfl) (by walk_at "o2") (by rfl) (by walk_at "o4")) (@zac _ _ _ _ _ _ _ _ _ _ (@zaj _ _ _ _ _ _ _ _ 3 nd (by walk_at "E") (by rfl) (by walk_at "o2") (by rfl) (by walk_at "o4")) (@zac _ _ _ _ _ _ _ _ _ _ (@zaj _ _ _ _ _ _ _ _ 4 nd (by walk_at "E") (by rfl) (by walk_at "o2") (by rfl) (by walk_at "o4")) (@zae _ _ _ _ _ _ _ (@zao _ _ _ _ _ _ _ _ (by walk_at "E"))))))
noncomputable abbrev zbw : Stmt := top 20
theorem zfh : zak ["one", "other"] ["one", "other"] (zab zbw) := ⟨rfl, rfl, rfl, by decide +kernel, rfl, by decide +kernel, by decide +kernel⟩
set_option maxHeartbeats 4000000 in
theorem ziz {P : Program} {w : World} {K : PySem.W.Frag} {mg : Str → Option Value} {base : Heap} {f : Addr} {fd : FuncData} {k : Nat} (F : Fun K "between_two" "between_two" zbw f fd) (hm : mg "between_two" = some (.ref f)) (hb : zaG K fd ["one", "other"] []) (F_in_form : zal P w K mg base k "in_form" zbn) (F_cross : zal P w K mg base k "cross" zcz) : zal P w K mg base (k + 1) "between_two" zaS := by
 refine zal.mk' (own' := []) F zfh hm hb rfl rfl fun X E hX C L => ?_
 obtain ⟨cdv, A, outer, s, H, rfl⟩ := hX
 have nd := zfh.nd
 exact (@zac _ _ _ _ _ _ _ _ _ _ (@zbl _ _ _ _ _ _ _ _ _ _ _ _ (by walk_at "E") (@zae _ _ _ _ _ _ _ (@ziL _ _ _ _ _ _)) (@zas _ _ _ _)) (@zae _ _ _ _ _ _ _ (@zao _ _ _ _ _ _ _ _ (by walk_at "E"))))
noncomputable abbrev zdD : Stmt := top 19
theorem zjb : zak ["one", "other"] ["one", "other"] (zab zdD) := ⟨rfl, rfl, rfl, by decide +kernel, rfl, by decide +kernel, by decide +kernel⟩
set_option maxHeartbeats 4000000 in
theorem zog {P : Program} {w : World} {K : PySem.W.Frag} {mg : Str → Option Value} {base : Heap} {f : Addr} {fd : FuncData} {k : Nat} (F : Fun K "through" "through" zdD f fd) (hm : mg "through" = some (.ref f)) (hb : zaG K fd ["one", "other"] []) (F_between_two : zal P w K mg base k "between_two" zaS) : zal P w K mg base (k + 1) "through" zaF := by
 refine zal.mk' (own' := []) F zjb hm hb rfl rfl fun X E hX C L => ?_
 obtain ⟨cdv, A, outer, s, H, rfl⟩ := hX
 have nd := zjb.nd
 exact (@zae _ _ _ _ _ _ _ (@zao _ _ _ _ _ _ _ _ (by walk_at "E")))
noncomputable abbrev zoh : Stmt := top 17
theorem ztw : zak ["one", "other"] ["one", "other"] (zab zoh) := ⟨rfl, rfl, rfl, by decide +kernel, rfl, by decide +kernel, by decide +kernel⟩
set_option maxHeartbeats 4000000 in
theorem zxh {P : Program} {w : World} {K : PySem.W.Frag} {mg : Str → Option Value} {base : Heap} {f : Addr} {fd : FuncData} {k : Nat} (F : Fun K "dot" "dot" zoh f fd) (hm : mg "dot" = some (.ref f)) (hb : zaG K fd ["one", "other"] []) : zal P w K mg base (k + 1) "dot" zfD := by
 refine zal.mk' (own' := []) F ztw hm hb rfl rfl fun X E hX C L => ?_
 obtain ⟨cdv, A, outer, s, H, rfl⟩ := hX
 have nd := ztw.nd
 exact (@zae _ _ _ _ _ _ _ (@zao _ _ _ _ _ _ _ _ (by walk_at "E")))
noncomputable abbrev zjc : Stmt := top 16
theorem zqZ : zak ["place", "line"] ["place", "line"] (zab zjc) := ⟨rfl, rfl, rfl, by decide +kernel, rfl, by decide +kernel, by decide +kernel⟩
set_option maxHeartbeats 4000000 in
theorem zu2 {P : Program} {w : World} {K : PySem.W.Frag} {mg : Str → Option Value} {base : Heap} {f : Addr} {fd : FuncData} {k : Nat} (F : Fun K "lies" "lies" zjc f fd) (hm : mg "lies" = some (.ref f)) (hb : zaG K fd ["place", "line"] []) (F_dot : zal P w K mg base k "dot" zfD) : zal P w K mg base (k + 1) "lies" zbb := by
 refine zal.mk' (own' := []) F zqZ hm hb rfl rfl fun X E hX C L => ?_
 obtain ⟨cdv, A, outer, s, H, rfl⟩ := hX
 have nd := zqZ.nd
 exact (@zae _ _ _ _ _ _ _ (@zao _ _ _ _ _ _ _ _ (by walk_at "E")))
noncomputable abbrev zbN : Stmt := top 27
theorem zgP : zak ["floor", "a", "b", "c", "sides", "d"] ["floor", "a", "b", "c"] (zab zbN) := ⟨rfl, rfl, rfl, by decide +kernel, rfl, by decide +kernel, by decide +kernel⟩
set_option maxHeartbeats 4000000 in
theorem zli {P : Program} {w : World} {K : PySem.W.Frag} {mg : Str → Option Value} {base : Heap} {f : Addr} {fd : FuncData} {k : Nat} (F : Fun K "fourth_of" "fourth_of" zbN f fd) (hm : mg "fourth_of" = some (.ref f)) (hb : zaG K fd ["floor", "a", "b", "c"] []) (n_range : mg "range" = none) (n_len : mg "len" = none) (n_any : mg "any" = none) (F_through : zal P w K mg base k "through" zaF) (F_lies : zal P w K mg base k "lies" zbb) : zal P w K mg base (k + 1) "fourth_of" zbK := by
 refine zal.mk' (own' := []) F zgP hm hb rfl rfl fun X E hX C L => ?_
 obtain ⟨cdv, A, outer, s, H, rfl⟩ := hX
 have nd := zgP.nd
 exact (@zac _ _ _ _ _ _ _ _ _ _ (@zaj _ _ _ _ _ _ _ _ 4 nd (by walk_at "E") (by rfl) (by walk_at "o2") (by rfl) (by walk_at "o4")) (@zac _ _ _ _ _ _ _ _ _ _ (@zbQ _ _ _ _ _ _ _ _ _ _ _ _ L C.calm (by walk_at "E") (@zap _ _ 5 _ nd (by rfl) (by walk_at "o2") (by walk_at "o4")) (@zae _ _ _ _ _ _ _ (@zbl _ _ _ _ _ _ _ _ _ _ _ _ (@zgg _ _ _ _ _ (@zhp _ _ _ _ (@zwC _ _ _ _ _ _ _ C.calm n_any (@zaJ _ _ _ _ _ _ (@DF.val _ _ _ _ (@zeg _ _ _ _ _ _ _ _ _ _ _ _ _ _ _ C.calm (LC.of (k := 1) (NY := ["side", "floor", "a", "b", "c", "sides", "d"]) (N := ["floor", "a", "b", "c", "sides", "d"]) (sc0 := (zab zbN)) rfl rfl (by decide +kernel)) rfl (by walk_at "E") (fun _ _ _ _ nd2 => ⟨(@zap _ _ 0 _ nd2 (by rfl) (by walk_at "o2") (by walk_at "o4")), (@zbi _ _), (by walk_at "E")⟩) (by intro _ ; rfl))) (@zbP _ _) (by rfl)) (by rfl) (by rfl) (by rfl)) (by intro _ ; rfl))) (@zae _ _ _ _ _ _ _ (@zao _ _ _ _ _ _ _ _ (by walk_at "E"))) (@zas _ _ _ _))) (by rfl) (by intro _ ; rfl)) (@zae _ _ _ _ _ _ _ (@zao _ _ _ _ _ _ _ _ (@zgf _ _ _ _)))))
noncomputable abbrev zcV : Stmt := top 26
theorem zil : zak ["floor", "a", "b", "side", "c", "d"] ["floor"] (zab zcV) := ⟨rfl, rfl, rfl, by decide +kernel, rfl, by decide +kernel, by decide +kernel⟩
set_option maxHeartbeats 4000000 in
theorem zl6 {P : Program} {w : World} {K : PySem.W.Frag} {mg : Str → Option Value} {base : Heap} {f : Addr} {fd : FuncData} {k : Nat} (F : Fun K "frame_of" "frame_of" zcV f fd) (hm : mg "frame_of" = some (.ref f)) (hb : zaG K fd ["floor"] []) (n_range : mg "range" = none) (n_len : mg "len" = none) (F_look_at : zal P w K mg base k "look_at" zbD) (F_through : zal P w K mg base k "through" zaF) (F_lies : zal P w K mg base k "lies" zbb) (F_fourth_of : zal P w K mg base k "fourth_of" zbK) : zal P w K mg base (k + 1) "frame_of" zbe := by
 refine zal.mk' (own' := []) F zil hm hb rfl rfl fun X E hX C L => ?_
 obtain ⟨cdv, A, outer, s, H, rfl⟩ := hX
 have nd := zil.nd
 exact (@zac _ _ _ _ _ _ _ _ _ _ (@zlD _ _ _ _ _ _ _ (by walk_at "E") (by rfl)) (@zac _ _ _ _ _ _ _ _ _ _ (@zbQ _ _ _ _ _ _ _ _ _ _ _ _ L C.calm (by walk_at "E") (@zap _ _ 1 _ nd (by rfl) (by walk_at "o2") (by walk_at "o4")) (@zae _ _ _ _ _ _ _ (@zbQ _ _ _ _ _ _ _ _ _ _ _ _ L C.calm (by walk_at "E") (@zap _ _ 2 _ nd (by rfl) (by walk_at "o2") (by walk_at "o4")) (@zac _ _ _ _ _ _ _ _ _ _ (@zaj _ _ _ _ _ _ _ _ 3 nd (by walk_at "E") (by rfl) (by walk_at "o2") (by rfl) (by walk_at "o4")) (@zae _ _ _ _ _ _ _ (@zbQ _ _ _ _ _ _ _ _ _ _ _ _ L C.calm (by walk_at "E") (@zap _ _ 4 _ nd (by rfl) (by walk_at "o2") (by walk_at "o4")) (@zae _ _ _ _ _ _ _ (@zbl _ _ _ _ _ _ _ _ _ _ _ _ (by walk_at "E") (@zac _ _ _ _ _ _ _ _ _ _ (@zaj _ _ _ _ _ _ _ _ 5 nd (by walk_at "E") (by rfl) (by walk_at "o2") (by rfl) (by walk_at "o4")) (@zae _ _ _ _ _ _ _ (@zbl _ _ _ _ _ _ _ _ _ _ _ _ (@zcd _ _ _ _ _ _ _ _ _ (@zmw _) (by walk_at "E") (@zgf _ _ _ _) (by first | exact zaM _ (by decide) (by decide) | rfl)) (@zae _ _ _ _ _ _ _ (@zao _ _ _ _ _ _ _ _ (by walk_at "E"))) (@zas _ _ _ _)))) (@zas _ _ _ _))) (by rfl) (by intro _ ; rfl)))) (by rfl) (by intro _ ; rfl))) (by rfl) (by intro _ ; rfl)) (@zae _ _ _ _ _ _ _ (@zao _ _ _ _ _ _ _ _ (@zgf _ _ _ _)))))
noncomputable abbrev zdn : Stmt := top 21
theorem zlj : zak ["places", "others", "line"] ["places"] (zab zdn) := ⟨rfl, rfl, rfl, by decide +kernel, rfl, by decide +kernel, by decide +kernel⟩
set_option maxHeartbeats 4000000 in
theorem zq0 {P : Program} {w : World} {K : PySem.W.Frag} {mg : Str → Option Value} {base : Heap} {f : Addr} {fd : FuncData} {k : Nat} (F : Fun K "on_one" "on_one" zdn f fd) (hm : mg "on_one" = some (.ref f)) (hb : zaG K fd ["places"] []) (n_len : mg "len" = none) (n_all : mg "all" = none) (F_through : zal P w K mg base k "through" zaF) (F_lies : zal P w K mg base k "lies" zbb) : zal P w K mg base (k + 1) "on_one" za2 := by
 refine zal.mk' (own' := []) F zlj hm hb rfl rfl fun X E hX C L => ?_
 obtain ⟨cdv, A, outer, s, H, rfl⟩ := hX
 have nd := zlj.nd
 exact (@zac _ _ _ _ _ _ _ _ _ _ (@zeN _ _ _ _ _ _ _ _ _ _ _ _ _ _ _ _ _ _ _ _ 1 C.calm nd (LC.of (k := 1) (NY := ["place", "places", "others", "line"]) (N := ["places", "others", "line"]) (sc0 := (zab zdn)) rfl rfl (by decide +kernel)) rfl (by walk_at "E") (fun _ _ _ _ nd2 => ⟨(@zap _ _ 0 _ nd2 (by rfl) (by walk_at "o2") (by walk_at "o4")), (@zf3 _ _ _ _ (by walk_at "E")), (by walk_at "E")⟩) (by rfl) (by rfl) (by rfl) (by rfl) (by intro _ ; rfl)) (@zac _ _ _ _ _ _ _ _ _ _ (@zbl _ _ _ _ _ _ _ _ _ _ _ _ (by walk_at "E") (@zae _ _ _ _ _ _ _ (@zao _ _ _ _ _ _ _ _ (@zho _ _ _ _ _))) (@zas _ _ _ _)) (@zac _ _ _ _ _ _ _ _ _ _ (@zaj _ _ _ _ _ _ _ _ 2 nd (by walk_at "E") (by rfl) (by walk_at "o2") (by rfl) (by walk_at "o4")) (@zae _ _ _ _ _ _ _ (@zao _ _ _ _ _ _ _ _ (@zpC _ _ _ _ _ _ _ C.calm n_all (@zaJ _ _ _ _ _ _ (@DF.val _ _ _ _ (@zeg _ _ _ _ _ _ _ _ _ _ _ _ _ _ _ C.calm (LC.of (k := 1) (NY := ["place", "places", "others", "line"]) (N := ["places", "others", "line"]) (sc0 := (zab zdn)) rfl rfl (by decide +kernel)) rfl (by walk_at "E") (fun _ _ _ _ nd2 => ⟨(@zap _ _ 0 _ nd2 (by rfl) (by walk_at "o2") (by walk_at "o4")), (@zbi _ _), (by walk_at "E")⟩) (by intro _ ; rfl))) (@zbP _ _) (by rfl)) (by rfl) (by rfl) (by rfl)))))))
noncomputable abbrev zcl : Stmt := top 49
theorem zgQ : zak ["one", "other", "i", "j", "k"] ["one", "other"] (zab zcl) := ⟨rfl, rfl, rfl, by decide +kernel, rfl, by decide +kernel, by decide +kernel⟩
set_option maxHeartbeats 4000000 in
theorem zlk {P : Program} {w : World} {K : PySem.W.Frag} {mg : Str → Option Value} {base : Heap} {f : Addr} {fd : FuncData} {k : Nat} (F : Fun K "odd_three" "odd_three" zcl f fd) (hm : mg "odd_three" = some (.ref f)) (hb : zaG K fd ["one", "other"] []) (n_range : mg "range" = none) (n_len : mg "len" = none) (F_on_one : zal P w K mg base k "on_one" za2) : zal P w K mg base (k + 1) "odd_three" zcg := by
 refine zal.mk' (own' := []) F zgQ hm hb rfl rfl fun X E hX C L => ?_
 obtain ⟨cdv, A, outer, s, H, rfl⟩ := hX
 have nd := zgQ.nd
 exact (@zac _ _ _ _ _ _ _ _ _ _ (@zbQ _ _ _ _ _ _ _ _ _ _ _ _ L C.calm (by walk_at "E") (@zap _ _ 2 _ nd (by rfl) (by walk_at "o2") (by walk_at "o4")) (@zae _ _ _ _ _ _ _ (@zbQ _ _ _ _ _ _ _ _ _ _ _ _ L C.calm (by walk_at "E") (@zap _ _ 3 _ nd (by rfl) (by walk_at "o2") (by walk_at "o4")) (@zae _ _ _ _ _ _ _ (@zbQ _ _ _ _ _ _ _ _ _ _ _ _ L C.calm (by walk_at "E") (@zap _ _ 4 _ nd (by rfl) (by walk_at "o2") (by walk_at "o4")) (@zae _ _ _ _ _ _ _ (@zbl _ _ _ _ _ _ _ _ _ _ _ _ (by walk_at "E") (@zae _ _ _ _ _ _ _ (@zao _ _ _ _ _ _ _ _ (by walk_at "E"))) (@zas _ _ _ _))) (by rfl) (by intro _ ; rfl))) (by rfl) (by intro _ ; rfl))) (by rfl) (by intro _ ; rfl)) (@zae _ _ _ _ _ _ _ (@zao _ _ _ _ _ _ _ _ (@zgf _ _ _ _))))
noncomputable abbrev zbq : Stmt := top 31
theorem zfY : zak ["rows"] ["rows"] (zab zbq) := ⟨rfl, rfl, rfl, by decide +kernel, rfl, by decide +kernel, by decide +kernel⟩
set_option maxHeartbeats 4000000 in
theorem zjY {P : Program} {w : World} {K : PySem.W.Frag} {mg : Str → Option Value} {base : Heap} {f : Addr} {fd : FuncData} {k : Nat} (F : Fun K "columns_of" "columns_of" zbq f fd) (hm : mg "columns_of" = some (.ref f)) (hb : zaG K fd ["rows"] []) (n_range : mg "range" = none) : zal P w K mg base (k + 1) "columns_of" zaZ := by
 refine zal.mk' (own' := []) F zfY hm hb rfl rfl fun X E hX C L => ?_
 obtain ⟨cdv, A, outer, s, H, rfl⟩ := hX
 have nd := zfY.nd
 exact (@zae _ _ _ _ _ _ _ (@zao _ _ _ _ _ _ _ _ (@DF.val _ _ _ _ (@zeg _ _ _ _ _ _ _ _ _ _ _ _ _ _ _ C.calm (LC.of (k := 1) (NY := ["k", "rows"]) (N := ["rows"]) (sc0 := (zab zbq)) rfl rfl (by decide +kernel)) rfl (by walk_at "E") (fun _ _ _ _ nd2 => ⟨(@zap _ _ 0 _ nd2 (by rfl) (by walk_at "o2") (by walk_at "o4")), (@zbi _ _), (by walk_at "E")⟩) (by intro _ ; rfl)))))
noncomputable abbrev zbr : Stmt := top 30
theorem zfZ : zak ["numbers"] ["numbers"] (zab zbr) := ⟨rfl, rfl, rfl, by decide +kernel, rfl, by decide +kernel, by decide +kernel⟩
set_option maxHeartbeats 4000000 in
theorem zjZ {P : Program} {w : World} {K : PySem.W.Frag} {mg : Str → Option Value} {base : Heap} {f : Addr} {fd : FuncData} {k : Nat} (F : Fun K "three_rows" "three_rows" zbr f fd) (hm : mg "three_rows" = some (.ref f)) (hb : zaG K fd ["numbers"] []) : zal P w K mg base (k + 1) "three_rows" zaK := by
 refine zal.mk' (own' := []) F zfZ hm hb rfl rfl fun X E hX C L => ?_
 obtain ⟨cdv, A, outer, s, H, rfl⟩ := hX
 have nd := zfZ.nd
 exact (@zae _ _ _ _ _ _ _ (@zao _ _ _ _ _ _ _ _ (@DF.val _ _ _ _ (@zeg _ _ _ _ _ _ _ _ _ _ _ _ _ _ _ C.calm (LC.of (k := 1) (NY := ["start", "numbers"]) (N := ["numbers"]) (sc0 := (zab zbr)) rfl rfl (by decide +kernel)) rfl (by walk_at "E") (fun _ _ _ _ nd2 => ⟨(@zap _ _ 0 _ nd2 (by rfl) (by walk_at "o2") (by walk_at "o4")), (@zbi _ _), (by walk_at "E")⟩) (by intro _ ; rfl)))))
noncomputable abbrev zdo : Stmt := top 29
theorem zll : zak ["numbers", "part", "number"] ["numbers"] (zab zdo) := ⟨rfl, rfl, rfl, by decide +kernel, rfl, by decide +kernel, by decide +kernel⟩
set_option maxHeartbeats 4000000 in
theorem zq1 {P : Program} {w : World} {K : PySem.W.Frag} {mg : Str → Option Value} {base : Heap} {f : Addr} {fd : FuncData} {k : Nat} (F : Fun K "lowest" "lowest" zdo f fd) (hm : mg "lowest" = some (.ref f)) (hb : zaG K fd ["numbers"] []) (n_tuple : mg "tuple" = none) (F_divisor : zal P w K mg base k "divisor" zbm) : zal P w K mg base (k + 1) "lowest" zcp := by
 refine zal.mk' (own' := []) F zll hm hb rfl rfl fun X E hX C L => ?_
 obtain ⟨cdv, A, outer, s, H, rfl⟩ := hX
 have nd := zll.nd
 exact (@zac _ _ _ _ _ _ _ _ _ _ (@zaj _ _ _ _ _ _ _ _ 1 nd (@zct _ _ _ _ _) (by rfl) (by walk_at "o2") (by rfl) (by walk_at "o4")) (@zac _ _ _ _ _ _ _ _ _ _ (@zbQ _ _ _ _ _ _ _ _ _ _ _ _ L C.calm (by walk_at "E") (@zap _ _ 2 _ nd (by rfl) (by walk_at "o2") (by walk_at "o4")) (@zae _ _ _ _ _ _ _ (@zaj _ _ _ _ _ _ _ _ 1 nd (by walk_at "E") (by rfl) (by walk_at "o2") (by rfl) (by walk_at "o4"))) (by rfl) (by intro _ ; rfl)) (@zac _ _ _ _ _ _ _ _ _ _ (@zbl _ _ _ _ _ _ _ _ _ _ _ _ (@zcd _ _ _ _ _ _ _ _ _ (@zlJ _) (@zrP _ _ _ _ _ _ _ (@DF.val _ _ _ _ (@zeg _ _ _ _ _ _ _ _ _ _ _ _ _ _ _ C.calm (LC.of (k := 1) (NY := ["number", "numbers", "part", "?number"]) (N := ["numbers", "part", "number"]) (sc0 := (zab zdo)) rfl rfl (by decide +kernel)) rfl (by walk_at "E") (fun _ _ _ _ nd2 => ⟨(@zap _ _ 0 _ nd2 (by rfl) (by walk_at "o2") (by walk_at "o4")), (@zf3 _ _ _ _ (by walk_at "E")), (by walk_at "E")⟩) (by intro _ ; rfl))) (@zct _ _ _ _ _) (by intro _ _ ; rfl)) (@zct _ _ _ _ _) (by first | exact zaM _ (by decide) (by decide) | rfl)) (@zae _ _ _ _ _ _ _ (@zaj _ _ _ _ _ _ _ _ 1 nd (by walk_at "E") (by rfl) (by walk_at "o2") (by rfl) (by walk_at "o4"))) (@zas _ _ _ _)) (@zae _ _ _ _ _ _ _ (@zao _ _ _ _ _ _ _ _ (@zjC _ _ _ _ _ _ _ n_tuple (@zaJ _ _ _ _ _ _ (@DF.val _ _ _ _ (@zeg _ _ _ _ _ _ _ _ _ _ _ _ _ _ _ C.calm (LC.of (k := 1) (NY := ["number", "numbers", "part", "?number"]) (N := ["numbers", "part", "number"]) (sc0 := (zab zdo)) rfl rfl (by decide +kernel)) rfl (by walk_at "E") (fun _ _ _ _ nd2 => ⟨(@zap _ _ 0 _ nd2 (by rfl) (by walk_at "o2") (by walk_at "o4")), (@zbi _ _), (by walk_at "E")⟩) (by intro _ ; rfl))) (@zbP _ _) (by rfl)) (by rfl) (by rfl) (by rfl)))))))
noncomputable abbrev zim : Stmt := top 36
theorem zq2 : zak ["first", "second", "columns", "numbers", "row"] ["first", "second"] (zab zim) := ⟨rfl, rfl, rfl, by decide +kernel, rfl, by decide +kernel, by decide +kernel⟩
set_option maxHeartbeats 4000000 in
theorem zu3 {P : Program} {w : World} {K : PySem.W.Frag} {mg : Str → Option Value} {base : Heap} {f : Addr} {fd : FuncData} {k : Nat} (F : Fun K "both" "both" zim f fd) (hm : mg "both" = some (.ref f)) (hb : zaG K fd ["first", "second"] []) (F_columns_of : zal P w K mg base k "columns_of" zaZ) (F_three_rows : zal P w K mg base k "three_rows" zaK) (F_dot : zal P w K mg base k "dot" zfD) (F_lowest : zal P w K mg base k "lowest" zcp) : zal P w K mg base (k + 1) "both" ziX := by
 refine zal.mk' (own' := []) F zq2 hm hb rfl rfl fun X E hX C L => ?_
 obtain ⟨cdv, A, outer, s, H, rfl⟩ := hX
 have nd := zq2.nd
 exact (@zac _ _ _ _ _ _ _ _ _ _ (@zaj _ _ _ _ _ _ _ _ 2 nd (by walk_at "E") (by rfl) (by walk_at "o2") (by rfl) (by walk_at "o4")) (@zac _ _ _ _ _ _ _ _ _ _ (@zgl _ _ _ _ _ _ _ _ _ _ 3 nd (by walk_at "E") (by rfl) (by rfl) (by walk_at "o2") (by rfl) (by walk_at "o4")) (@zac _ _ _ _ _ _ _ _ _ _ (@zbQ _ _ _ _ _ _ _ _ _ _ _ _ L C.calm (by walk_at "E") (@zap _ _ 4 _ nd (by rfl) (by walk_at "o2") (by walk_at "o4")) (@zae _ _ _ _ _ _ _ (@ztq _ _ _ _ _ _ _ _ 3 _ _ _ (@DF.val _ _ _ _ (@zeg _ _ _ _ _ _ _ _ _ _ _ _ _ _ _ C.calm (LC.of (k := 1) (NY := ["column", "first", "second", "columns", "numbers", "row"]) (N := ["first", "second", "columns", "numbers", "row"]) (sc0 := (zab zim)) rfl rfl (by decide +kernel)) rfl (by walk_at "E") (fun _ _ _ _ nd2 => ⟨(@zap _ _ 0 _ nd2 (by rfl) (by walk_at "o2") (by walk_at "o4")), (@zbi _ _), (by walk_at "E")⟩) (by intro _ ; rfl))) (by rfl) (by rfl) (by walk_at "o3") (by decide) (by decide) (by rfl) (by rfl) (by rfl) (by rfl) (by rfl) (by rfl))) (by rfl) (by intro _ ; rfl)) (@zdr _ _ _ _ _ _ _ _ 3 (by rfl) (by rfl) (@zae _ _ _ _ _ _ _ (@zao _ _ _ _ _ _ _ _ (by walk_at "E")))))))
noncomputable abbrev zcm : Stmt := top 33
theorem zgR : zak ["rows"] ["rows"] (zab zcm) := ⟨rfl, rfl, rfl, by decide +kernel, rfl, by decide +kernel, by decide +kernel⟩
set_option maxHeartbeats 4000000 in
theorem zlm {P : Program} {w : World} {K : PySem.W.Frag} {mg : Str → Option Value} {base : Heap} {f : Addr} {fd : FuncData} {k : Nat} (F : Fun K "cofactors" "cofactors" zcm f fd) (hm : mg "cofactors" = some (.ref f)) (hb : zaG K fd ["rows"] []) (F_cross : zal P w K mg base k "cross" zcz) : zal P w K mg base (k + 1) "cofactors" zcf := by
 refine zal.mk' (own' := []) F zgR hm hb rfl rfl fun X E hX C L => ?_
 obtain ⟨cdv, A, outer, s, H, rfl⟩ := hX
 have nd := zgR.nd
 exact (@zae _ _ _ _ _ _ _ (@zao _ _ _ _ _ _ _ _ (by walk_at "E")))
noncomputable abbrev zdE : Stmt := top 37
theorem zjd : zak ["change", "rows"] ["change"] (zab zdE) := ⟨rfl, rfl, rfl, by decide +kernel, rfl, by decide +kernel, by decide +kernel⟩
set_option maxHeartbeats 4000000 in
theorem zoi {P : Program} {w : World} {K : PySem.W.Frag} {mg : Str → Option Value} {base : Heap} {f : Addr} {fd : FuncData} {k : Nat} (F : Fun K "undoing" "undoing" zdE f fd) (hm : mg "undoing" = some (.ref f)) (hb : zaG K fd ["change"] []) (F_columns_of : zal P w K mg base k "columns_of" zaZ) (F_cofactors : zal P w K mg base k "cofactors" zcf) (F_three_rows : zal P w K mg base k "three_rows" zaK) (F_lowest : zal P w K mg base k "lowest" zcp) : zal P w K mg base (k + 1) "undoing" zdx := by
 refine zal.mk' (own' := []) F zjd hm hb rfl rfl fun X E hX C L => ?_
 obtain ⟨cdv, A, outer, s, H, rfl⟩ := hX
 have nd := zjd.nd
 exact (@zac _ _ _ _ _ _ _ _ _ _ (@zaj _ _ _ _ _ _ _ _ 1 nd (by walk_at "E") (by rfl) (by walk_at "o2") (by rfl) (by walk_at "o4")) (@zae _ _ _ _ _ _ _ (@zao _ _ _ _ _ _ _ _ (by walk_at "E"))))
noncomputable abbrev zbx : Stmt := top 32
theorem zfi : zak ["one", "other", "third"] ["one", "other", "third"] (zab zbx) := ⟨rfl, rfl, rfl, by decide +kernel, rfl, by decide +kernel, by decide +kernel⟩
set_option maxHeartbeats 4000000 in
theorem ziA {P : Program} {w : World} {K : PySem.W.Frag} {mg : Str → Option Value} {base : Heap} {f : Addr} {fd : FuncData} {k : Nat} (F : Fun K "determinant" "determinant" zbx f fd) (hm : mg "determinant" = some (.ref f)) (hb : zaG K fd ["one", "other", "third"] []) (F_dot : zal P w K mg base k "dot" zfD) (F_cross : zal P w K mg base k "cross" zcz) : zal P w K mg base (k + 1) "determinant" zaV := by
 refine zal.mk' (own' := []) F zfi hm hb rfl rfl fun X E hX C L => ?_
 obtain ⟨cdv, A, outer, s, H, rfl⟩ := hX
 have nd := zfi.nd
 exact (@zae _ _ _ _ _ _ _ (@zao _ _ _ _ _ _ _ _ (by walk_at "E")))
noncomputable abbrev zeZ : Stmt := top 40
theorem zln : zak ["four", "a", "b", "c", "d", "parts", "numbers", "k"] ["four"] (zab zeZ) := ⟨rfl, rfl, rfl, by decide +kernel, rfl, by decide +kernel, by decide +kernel⟩
set_option maxHeartbeats 4000000 in
theorem zq3 {P : Program} {w : World} {K : PySem.W.Frag} {mg : Str → Option Value} {base : Heap} {f : Addr} {fd : FuncData} {k : Nat} (F : Fun K "spread" "spread" zeZ f fd) (hm : mg "spread" = some (.ref f)) (hb : zaG K fd ["four"] []) (n_range : mg "range" = none) (F_determinant : zal P w K mg base k "determinant" zaV) (F_lowest : zal P w K mg base k "lowest" zcp) : zal P w K mg base (k + 1) "spread" zdS := by
 refine zal.mk' (own' := []) F zln hm hb rfl rfl fun X E hX C L => ?_
 obtain ⟨cdv, A, outer, s, H, rfl⟩ := hX
 have nd := zln.nd
 exact (@zac _ _ _ _ _ _ _ _ _ _ (@zaj _ _ _ _ _ _ _ _ 1 nd (by walk_at "E") (by rfl) (by walk_at "o2") (by rfl) (by walk_at "o4")) (@zac _ _ _ _ _ _ _ _ _ _ (@zaj _ _ _ _ _ _ _ _ 2 nd (by walk_at "E") (by rfl) (by walk_at "o2") (by rfl) (by walk_at "o4")) (@zac _ _ _ _ _ _ _ _ _ _ (@zaj _ _ _ _ _ _ _ _ 3 nd (by walk_at "E") (by rfl) (by walk_at "o2") (by rfl) (by walk_at "o4")) (@zac _ _ _ _ _ _ _ _ _ _ (@zaj _ _ _ _ _ _ _ _ 4 nd (by walk_at "E") (by rfl) (by walk_at "o2") (by rfl) (by walk_at "o4")) (@zac _ _ _ _ _ _ _ _ _ _ (@zaj _ _ _ _ _ _ _ _ 5 nd (by walk_at "E") (by rfl) (by walk_at "o2") (by rfl) (by walk_at "o4")) (@zac _ _ _ _ _ _ _ _ _ _ (@zgl _ _ _ _ _ _ _ _ _ _ 6 nd (by walk_at "E") (by rfl) (by rfl) (by walk_at "o2") (by rfl) (by walk_at "o4")) (@zac _ _ _ _ _ _ _ _ _ _ (@zbQ _ _ _ _ _ _ _ _ _ _ _ _ L C.calm (by walk_at "E") (@zap _ _ 7 _ nd (by rfl) (by walk_at "o2") (by walk_at "o4")) (@zae _ _ _ _ _ _ _ (@ztq _ _ _ _ _ _ _ _ 6 _ _ _ (by walk_at "E") (by rfl) (by rfl) (by walk_at "o3") (by decide) (by decide) (by rfl) (by rfl) (by rfl) (by rfl) (by rfl) (by rfl))) (by rfl) (by intro _ ; rfl)) (@zdr _ _ _ _ _ _ _ _ 6 (by rfl) (by rfl) (@zae _ _ _ _ _ _ _ (@zao _ _ _ _ _ _ _ _ (by walk_at "E")))))))))))
noncomputable abbrev zdF : Stmt := top 39
theorem zje : zak ["thing"] ["thing"] (zab zdF) := ⟨rfl, rfl, rfl, by decide +kernel, rfl, by decide +kernel, by decide +kernel⟩
set_option maxHeartbeats 4000000 in
theorem zoj {P : Program} {w : World} {K : PySem.W.Frag} {mg : Str → Option Value} {base : Heap} {f : Addr} {fd : FuncData} {k : Nat} (F : Fun K "is_four" "is_four" zdF f fd) (hm : mg "is_four" = some (.ref f)) (hb : zaG K fd ["thing"] []) (n_len : mg "len" = none) (F_is_floor : zal P w K mg base k "is_floor" zbt) (F_frame_of : zal P w K mg base k "frame_of" zbe) : zal P w K mg base (k + 1) "is_four" zc3 := by
 refine zal.mk' (own' := []) F zje hm hb rfl rfl fun X E hX C L => ?_
 obtain ⟨cdv, A, outer, s, H, rfl⟩ := hX
 have nd := zje.nd
 exact (@zae _ _ _ _ _ _ _ (@zao _ _ _ _ _ _ _ _ (@zms _ _ _ _ _ _ _ _ (by walk_at "E") (@zms _ _ _ _ _ _ _ _ (by walk_at "E") (@zpf _ _ _ _ _ _ (@zpz _ _ _ _ _ _ _ _ _ (@zmw _) (by walk_at "E") (@zgf _ _ _ _) (by first | exact zaM _ (by decide) (by decide) | rfl)))))))
noncomputable abbrev zdG : Stmt := top 38
theorem zjf : zak ["four", "other"] ["four", "other"] (zab zdG) := ⟨rfl, rfl, rfl, by decide +kernel, rfl, by decide +kernel, by decide +kernel⟩
set_option maxHeartbeats 4000000 in
theorem zok {P : Program} {w : World} {K : PySem.W.Frag} {mg : Str → Option Value} {base : Heap} {f : Addr} {fd : FuncData} {k : Nat} (F : Fun K "between" "between" zdG f fd) (hm : mg "between" = some (.ref f)) (hb : zaG K fd ["four", "other"] []) (F_is_four : zal P w K mg base k "is_four" zc3) (F_both : zal P w K mg base k "both" ziX) (F_spread : zal P w K mg base k "spread" zdS) (F_undoing : zal P w K mg base k "undoing" zdx) : zal P w K mg base (k + 1) "between" zc4 := by
 refine zal.mk' (own' := []) F zjf hm hb rfl rfl fun X E hX C L => ?_
 obtain ⟨cdv, A, outer, s, H, rfl⟩ := hX
 have nd := zjf.nd
 exact (@zac _ _ _ _ _ _ _ _ _ _ (@zbl _ _ _ _ _ _ _ _ _ _ _ _ (by walk_at "E") (@zae _ _ _ _ _ _ _ (@ziL _ _ _ _ _ _)) (@zas _ _ _ _)) (@zae _ _ _ _ _ _ _ (@zao _ _ _ _ _ _ _ _ (by walk_at "E"))))
noncomputable abbrev zcW : Stmt := top 12
theorem zin : zak ["x", "y", "z", "numbers"] ["x", "y", "z"] (zab zcW) := ⟨rfl, rfl, rfl, by decide +kernel, rfl, by decide +kernel, by decide +kernel⟩
set_option maxHeartbeats 4000000 in
theorem zl7 {P : Program} {w : World} {K : PySem.W.Frag} {mg : Str → Option Value} {base : Heap} {f : Addr} {fd : FuncData} {k : Nat} (F : Fun K "place_of" "place_of" zcW f fd) (hm : mg "place_of" = some (.ref f)) (hb : zaG K fd ["x", "y", "z"] []) {C_NoPlace : Addr} (c_NoPlace : mg "NoPlace" = some (.ref C_NoPlace)) (y_NoPlace : PySem.W.excIn K C_NoPlace [.type "ValueError", .type "Exception", .type "BaseException", .type "object"] "ValueError.__new__" = true) (x_NoPlace : zq7 K mg "NoPlace" C_NoPlace) (F_makes_place : zal P w K mg base k "makes_place" zaU) (F_in_form : zal P w K mg base k "in_form" zbn) : zal P w K mg base (k + 1) "place_of" zcP := by
 refine zal.mk' (own' := []) F zin hm hb rfl rfl fun X E hX C L => ?_
 obtain ⟨cdv, A, outer, s, H, rfl⟩ := hX
 have nd := zin.nd
 exact (@zac _ _ _ _ _ _ _ _ _ _ (@zaj _ _ _ _ _ _ _ _ 3 nd (by walk_at "E") (by rfl) (by walk_at "o2") (by rfl) (by walk_at "o4")) (@zac _ _ _ _ _ _ _ _ _ _ (@zbl _ _ _ _ _ _ _ _ _ _ _ _ (by walk_at "E") (@zae _ _ _ _ _ _ _ (@zpG _ _ _ _ _ _ _ _ _ _ _ _ _ _ _ _ _ _ _ _ _ _ _ _ _ _ y_NoPlace x_NoPlace (by rfl) (by decide))) (@zas _ _ _ _)) (@zae _ _ _ _ _ _ _ (@zao _ _ _ _ _ _ _ _ (by walk_at "E")))))
noncomputable abbrev ze0 : Stmt := top 34
theorem zlo : zak ["rows", "three"] ["rows", "three"] (zab ze0) := ⟨rfl, rfl, rfl, by decide +kernel, rfl, by decide +kernel, by decide +kernel⟩
set_option maxHeartbeats 4000000 in
theorem zq4 {P : Program} {w : World} {K : PySem.W.Frag} {mg : Str → Option Value} {base : Heap} {f : Addr} {fd : FuncData} {k : Nat} (F : Fun K "led_by" "led_by" ze0 f fd) (hm : mg "led_by" = some (.ref f)) (hb : zaG K fd ["rows", "three"] []) (F_place_of : zal P w K mg base k "place_of" zcP) (F_dot : zal P w K mg base k "dot" zfD) : zal P w K mg base (k + 1) "led_by" zeU := by
 refine zal.mk' (own' := []) F zlo hm hb rfl rfl fun X E hX C L => ?_
 obtain ⟨cdv, A, outer, s, H, rfl⟩ := hX
 have nd := zlo.nd
 exact (@zae _ _ _ _ _ _ _ (@zao _ _ _ _ _ _ _ _ (by walk_at "E")))
noncomputable abbrev zol : Stmt := top 35
theorem ztx : zak ["change", "place"] ["change", "place"] (zab zol) := ⟨rfl, rfl, rfl, by decide +kernel, rfl, by decide +kernel, by decide +kernel⟩
set_option maxHeartbeats 4000000 in
theorem zxi {P : Program} {w : World} {K : PySem.W.Frag} {mg : Str → Option Value} {base : Heap} {f : Addr} {fd : FuncData} {k : Nat} (F : Fun K "led" "led" zol f fd) (hm : mg "led" = some (.ref f)) (hb : zaG K fd ["change", "place"] []) (F_led_by : zal P w K mg base k "led_by" zeU) (F_three_rows : zal P w K mg base k "three_rows" zaK) : zal P w K mg base (k + 1) "led" zn3 := by
 refine zal.mk' (own' := []) F ztx hm hb rfl rfl fun X E hX C L => ?_
 obtain ⟨cdv, A, outer, s, H, rfl⟩ := hX
 have nd := ztx.nd
 exact (@zae _ _ _ _ _ _ _ (@zao _ _ _ _ _ _ _ _ (by walk_at "E")))
noncomputable abbrev zf0 : Stmt := top 48
theorem zq5 : zak ["one", "other", "frame", "three", "change", "astray"] ["one", "other"] (zab zf0) := ⟨rfl, rfl, rfl, by decide +kernel, rfl, by decide +kernel, by decide +kernel⟩
set_option maxHeartbeats 4000000 in
theorem zu4 {P : Program} {w : World} {K : PySem.W.Frag} {mg : Str → Option Value} {base : Heap} {f : Addr} {fd : FuncData} {k : Nat} (F : Fun K "held" "held" zf0 f fd) (hm : mg "held" = some (.ref f)) (hb : zaG K fd ["one", "other"] []) (n_len : mg "len" = none) (n_range : mg "range" = none) (F_look_at : zal P w K mg base k "look_at" zbD) (F_frame_of : zal P w K mg base k "frame_of" zbe) (F_odd_three : zal P w K mg base k "odd_three" zcg) (F_between : zal P w K mg base k "between" zc4) (F_led : zal P w K mg base k "led" zn3) : zal P w K mg base (k + 1) "held" zgv := by
 refine zal.mk' (own' := []) F zq5 hm hb rfl rfl fun X E hX C L => ?_
 obtain ⟨cdv, A, outer, s, H, rfl⟩ := hX
 have nd := zq5.nd
 exact (@zac _ _ _ _ _ _ _ _ _ _ (@zlD _ _ _ _ _ _ _ (by walk_at "E") (by rfl)) (@zac _ _ _ _ _ _ _ _ _ _ (@zlD _ _ _ _ _ _ _ (by walk_at "E") (by rfl)) (@zac _ _ _ _ _ _ _ _ _ _ (@zbl _ _ _ _ _ _ _ _ _ _ _ _ (by walk_at "E") (@zae _ _ _ _ _ _ _ (@ziL _ _ _ _ _ _)) (@zas _ _ _ _)) (@zac _ _ _ _ _ _ _ _ _ _ (@zaj _ _ _ _ _ _ _ _ 2 nd (by walk_at "E") (by rfl) (by walk_at "o2") (by rfl) (by walk_at "o4")) (@zac _ _ _ _ _ _ _ _ _ _ (@zbl _ _ _ _ _ _ _ _ _ _ _ _ (@DW.dt _ _ _ _ (@zpe _ _ _ _ _ _ _ _ (@zcd _ _ _ _ _ _ _ _ _ (@zuo _) (by walk_at "E") (@zgf _ _ _ _) (by first | exact zaM _ (by decide) (by decide) | rfl)) (@zlB _ _ _ _ _ (@zcd _ _ _ _ _ _ _ _ _ (@zuo _) (by walk_at "E") (@zgf _ _ _ _) (by first | exact zaM _ (by decide) (by decide) | rfl))))) (@zae _ _ _ _ _ _ _ (@ziL _ _ _ _ _ _)) (@zas _ _ _ _)) (@zac _ _ _ _ _ _ _ _ _ _ (@zaj _ _ _ _ _ _ _ _ 3 nd (by walk_at "E") (by rfl) (by walk_at "o2") (by rfl) (by walk_at "o4")) (@zac _ _ _ _ _ _ _ _ _ _ (@zbl _ _ _ _ _ _ _ _ _ _ _ _ (@zcd _ _ _ _ _ _ _ _ _ (@zmw _) (by walk_at "E") (@zgf _ _ _ _) (by first | exact zaM _ (by decide) (by decide) | rfl)) (@zae _ _ _ _ _ _ _ (@zao _ _ _ _ _ _ _ _ (by walk_at "E"))) (@zas _ _ _ _)) (@zac _ _ _ _ _ _ _ _ _ _ (@zaj _ _ _ _ _ _ _ _ 4 nd (@zpi _ _ _ _ _ _ _ _ _ _ C F_between (@zaJ _ _ _ _ _ _ (@DF.val _ _ _ _ (@zeg _ _ _ _ _ _ _ _ _ _ _ _ _ _ _ C.calm (LC.of (k := 1) (NY := ["k", "one", "other", "frame", "three", "change", "astray"]) (N := ["one", "other", "frame", "three", "change", "astray"]) (sc0 := (zab zf0)) rfl rfl (by decide +kernel)) rfl (by walk_at "E") (fun _ _ _ _ nd2 => ⟨(@zap _ _ 0 _ nd2 (by rfl) (by walk_at "o2") (by walk_at "o4")), (@zbi _ _), (by walk_at "E")⟩) (by intro _ ; rfl))) (@zaJ _ _ _ _ _ _ (@DF.val _ _ _ _ (@zeg _ _ _ _ _ _ _ _ _ _ _ _ _ _ _ C.calm (LC.of (k := 1) (NY := ["k", "one", "other", "frame", "three", "change", "astray"]) (N := ["one", "other", "frame", "three", "change", "astray"]) (sc0 := (zab zf0)) rfl rfl (by decide +kernel)) rfl (by walk_at "E") (fun _ _ _ _ nd2 => ⟨(@zap _ _ 0 _ nd2 (by rfl) (by walk_at "o2") (by walk_at "o4")), (@zbi _ _), (by walk_at "E")⟩) (by intro _ ; rfl))) (@zbP _ _) (by rfl)) (by rfl)) (by rfl) (by decide) (by rfl) (by rfl)) (by rfl) (by walk_at "o2") (by rfl) (by walk_at "o4")) (@zac _ _ _ _ _ _ _ _ _ _ (@zeN _ _ _ _ _ _ _ _ _ _ _ _ _ _ _ _ _ _ _ _ 5 C.calm nd (LC.of (k := 1) (NY := ["k", "one", "other", "frame", "three", "change", "astray"]) (N := ["one", "other", "frame", "three", "change", "astray"]) (sc0 := (zab zf0)) rfl rfl (by decide +kernel)) rfl (by walk_at "E") (fun _ _ _ _ nd2 => ⟨(@zap _ _ 0 _ nd2 (by rfl) (by walk_at "o2") (by walk_at "o4")), (@zf3 _ _ _ _ (by walk_at "E")), (by walk_at "E")⟩) (by rfl) (by rfl) (by rfl) (by rfl) (by intro _ ; rfl)) (@zac _ _ _ _ _ _ _ _ _ _ (@zbl _ _ _ _ _ _ _ _ _ _ _ _ (by walk_at "E") (@zae _ _ _ _ _ _ _ (@zao _ _ _ _ _ _ _ _ (by walk_at "E"))) (@zas _ _ _ _)) (@zae _ _ _ _ _ _ _ (@ziL _ _ _ _ _ _))))))))))))
noncomputable abbrev zbh : Stmt := top 51
theorem zeG : zak ["_law_script", "_law_k"] ["_law_script", "_law_k"] (zab zbh) := ⟨rfl, rfl, rfl, by decide +kernel, rfl, by decide +kernel, by decide +kernel⟩
set_option maxHeartbeats 4000000 in
theorem zio {P : Program} {w : World} {K : PySem.W.Frag} {mg : Str → Option Value} {base : Heap} {f : Addr} {fd : FuncData} {k : Nat} (F : Fun K "_law_cell_at" "_law_cell_at" zbh f fd) (hm : mg "_law_cell_at" = some (.ref f)) (hb : zaG K fd ["_law_script", "_law_k"] []) (n_len : mg "len" = none) : zal P w K mg base (k + 1) "_law_cell_at" zaW := by
 refine zal.mk' (own' := []) F zeG hm hb rfl rfl fun X E hX C L => ?_
 obtain ⟨cdv, A, outer, s, H, rfl⟩ := hX
 have nd := zeG.nd
 exact (@zac _ _ _ _ _ _ _ _ _ _ (@zbl _ _ _ _ _ _ _ _ _ _ _ _ (@zcd _ _ _ _ _ _ _ _ _ (@zlJ _) (by walk_at "E") (by walk_at "E") (by first | exact zaM _ (by decide) (by decide) | rfl)) (@zae _ _ _ _ _ _ _ (@zao _ _ _ _ _ _ _ _ (by walk_at "E"))) (@zas _ _ _ _)) (@zae _ _ _ _ _ _ _ (@zao _ _ _ _ _ _ _ _ (@zct _ _ _ _ _))))
noncomputable abbrev zcn : Stmt := top 59
theorem ziq : zak ["_law_nine_here", "_law_place", "_law_some", "_law_k"] ["_law_nine_here", "_law_place"] (zab zcn) := ⟨rfl, rfl, rfl, by decide +kernel, rfl, by decide +kernel, by decide +kernel⟩
set_option maxHeartbeats 4000000 in
theorem zl8 {P : Program} {w : World} {K : PySem.W.Frag} {mg : Str → Option Value} {base : Heap} {f : Addr} {fd : FuncData} {k : Nat} (F : Fun K "_law_led" "_law_led" zcn f fd) (hm : mg "_law_led" = some (.ref f)) (hb : zaG K fd ["_law_nine_here", "_law_place"] []) (n_range : mg "range" = none) (n_sum : mg "sum" = none) (F__law_low : zal P w K mg base k "_law_low" zbc) : zal P w K mg base (k + 1) "_law_led" zc7 := by
 refine zal.mk' (own' := []) F ziq hm hb rfl rfl fun X E hX C L => ?_
 obtain ⟨cdv, A, outer, s, H, rfl⟩ := hX
 have nd := ziq.nd
 exact (@zac _ _ _ _ _ _ _ _ _ _ (@zgl _ _ _ _ _ _ _ _ _ _ 2 nd (by walk_at "E") (by rfl) (by rfl) (by walk_at "o2") (by rfl) (by walk_at "o4")) (@zac _ _ _ _ _ _ _ _ _ _ (@zbQ _ _ _ _ _ _ _ _ _ _ _ _ L C.calm (by walk_at "E") (@zap _ _ 3 _ nd (by rfl) (by walk_at "o2") (by walk_at "o4")) (@zae _ _ _ _ _ _ _ (@zkr _ _ _ _ _ _ _ _ 2 _ _ _ (@zsF _ _ _ _ _ _ _ C.calm n_sum (@zaJ _ _ _ _ _ _ (@DF.val _ _ _ _ (@zeg _ _ _ _ _ _ _ _ _ _ _ _ _ _ _ C.calm (LC.of (k := 1) (NY := ["_law_j", "_law_nine_here", "_law_place", "_law_some", "_law_k"]) (N := ["_law_nine_here", "_law_place", "_law_some", "_law_k"]) (sc0 := (zab zcn)) rfl rfl (by decide +kernel)) rfl (by walk_at "E") (fun _ _ _ _ nd2 => ⟨(@zap _ _ 0 _ nd2 (by rfl) (by walk_at "o2") (by walk_at "o4")), (@zbi _ _), (by walk_at "E")⟩) (by intro _ ; rfl))) (@zbP _ _) (by rfl)) (by rfl) (by rfl) (by rfl)) (by rfl) (by rfl) (by walk_at "o3") (by decide) (by decide) (by rfl) (by rfl) (by rfl) (by rfl) (by rfl) (by rfl))) (by rfl) (by intro _ ; rfl)) (@zdr _ _ _ _ _ _ _ _ 2 (by rfl) (by rfl) (@zae _ _ _ _ _ _ _ (@zao _ _ _ _ _ _ _ _ (by walk_at "E"))))))
noncomputable abbrev za5 : Stmt := top 60
theorem zfj : zak ["_law_first", "_law_second", "_law_some", "_law_k", "_law_j"] ["_law_first", "_law_second"] (zab za5) := ⟨rfl, rfl, rfl, by decide +kernel, rfl, by decide +kernel, by decide +kernel⟩
set_option maxHeartbeats 4000000 in
theorem ziB {P : Program} {w : World} {K : PySem.W.Frag} {mg : Str → Option Value} {base : Heap} {f : Addr} {fd : FuncData} {k : Nat} (F : Fun K "_law_behind" "_law_behind" za5 f fd) (hm : mg "_law_behind" = some (.ref f)) (hb : zaG K fd ["_law_first", "_law_second"] []) (n_range : mg "range" = none) (n_sum : mg "sum" = none) (F__law_low_nine : zal P w K mg base k "_law_low_nine" zaz) : zal P w K mg base (k + 1) "_law_behind" zbT := by
 refine zal.mk' (own' := []) F zfj hm hb rfl rfl fun X E hX C L => ?_
 obtain ⟨cdv, A, outer, s, H, rfl⟩ := hX
 have nd := zfj.nd
 exact (@zac _ _ _ _ _ _ _ _ _ _ (@zgl _ _ _ _ _ _ _ _ _ _ 2 nd (by walk_at "E") (by rfl) (by rfl) (by walk_at "o2") (by rfl) (by walk_at "o4")) (@zac _ _ _ _ _ _ _ _ _ _ (@zbQ _ _ _ _ _ _ _ _ _ _ _ _ L C.calm (by walk_at "E") (@zap _ _ 3 _ nd (by rfl) (by walk_at "o2") (by walk_at "o4")) (@zae _ _ _ _ _ _ _ (@zbQ _ _ _ _ _ _ _ _ _ _ _ _ L C.calm (by walk_at "E") (@zap _ _ 4 _ nd (by rfl) (by walk_at "o2") (by walk_at "o4")) (@zae _ _ _ _ _ _ _ (@zkr _ _ _ _ _ _ _ _ 2 _ _ _ (@zsF _ _ _ _ _ _ _ C.calm n_sum (@zaJ _ _ _ _ _ _ (@DF.val _ _ _ _ (@zeg _ _ _ _ _ _ _ _ _ _ _ _ _ _ _ C.calm (LC.of (k := 1) (NY := ["_law_i", "_law_first", "_law_second", "_law_some", "_law_k", "_law_j"]) (N := ["_law_first", "_law_second", "_law_some", "_law_k", "_law_j"]) (sc0 := (zab za5)) rfl rfl (by decide +kernel)) rfl (by walk_at "E") (fun _ _ _ _ nd2 => ⟨(@zap _ _ 0 _ nd2 (by rfl) (by walk_at "o2") (by walk_at "o4")), (@zbi _ _), (by walk_at "E")⟩) (by intro _ ; rfl))) (@zbP _ _) (by rfl)) (by rfl) (by rfl) (by rfl)) (by rfl) (by rfl) (by walk_at "o3") (by decide) (by decide) (by rfl) (by rfl) (by rfl) (by rfl) (by rfl) (by rfl))) (by rfl) (by intro _ ; rfl))) (by rfl) (by intro _ ; rfl)) (@zdr _ _ _ _ _ _ _ _ 2 (by rfl) (by rfl) (@zae _ _ _ _ _ _ _ (@zao _ _ _ _ _ _ _ _ (by walk_at "E"))))))
noncomputable abbrev ziC : Stmt := top 65
theorem zty : zak ["_law_script", "_law_k", "_law_floor_here", "_law_nine_here", "_law_other", "_law_handed", "_law_found", "_law_back"] ["_law_script"] (zab ziC) := ⟨rfl, rfl, rfl, by decide +kernel, rfl, by decide +kernel, by decide +kernel⟩
set_option maxHeartbeats 4000000 in
theorem zxj {P : Program} {w : World} {K : PySem.W.Frag} {mg : Str → Option Value} {base : Heap} {f : Addr} {fd : FuncData} {k : Nat} (F : Fun K "law" "law" ziC f fd) (n_range : mg "range" = none) (n_max : mg "max" = none) (n_min : mg "min" = none) (n_len : mg "len" = none) (n_list : mg "list" = none) (n_isinstance : mg "isinstance" = none) (n_tuple : mg "tuple" = none) (F__law_floor : zal P w K mg base k "_law_floor" zbf) (F__law_cell_at : zal P w K mg base k "_law_cell_at" zaW) (F__law_nine : zal P w K mg base k "_law_nine" zch) (F__law_led : zal P w K mg base k "_law_led" zc7) (F_held : zal P w K mg base k "held" zgv) (F__law_behind : zal P w K mg base k "_law_behind" zbT) (F__law_low_nine : zal P w K mg base k "_law_low_nine" zaz) : ziE P w K mg base (CXe P w) (k + 1) f fd ["_law_script"] (spD K mg zfT) := by
 refine zux (own' := []) F zty rfl rfl fun X E hX C L => ?_
 obtain ⟨cdv, A, outer, s, H, rfl⟩ := hX
 have nd := zty.nd
 exact (@zac _ _ _ _ _ _ _ _ _ _ (@zbQ _ _ _ _ _ _ _ _ _ _ _ _ L C.calm (by walk_at "E") (@zap _ _ 1 _ nd (by rfl) (by walk_at "o2") (by walk_at "o4")) (@zac _ _ _ _ _ _ _ _ _ _ (@zaj _ _ _ _ _ _ _ _ 2 nd (by walk_at "E") (by rfl) (by walk_at "o2") (by rfl) (by walk_at "o4")) (@zac _ _ _ _ _ _ _ _ _ _ (@zaj _ _ _ _ _ _ _ _ 3 nd (by walk_at "E") (by rfl) (by walk_at "o2") (by rfl) (by walk_at "o4")) (@zac _ _ _ _ _ _ _ _ _ _ (@zeN _ _ _ _ _ _ _ _ _ _ _ _ _ _ _ _ _ _ _ _ 4 C.calm nd (LC.of (k := 1) (NY := ["_law_place", "_law_script", "_law_k", "_law_floor_here", "_law_nine_here", "_law_other", "_law_handed", "_law_found", "_law_back"]) (N := ["_law_script", "_law_k", "_law_floor_here", "_law_nine_here", "_law_other", "_law_handed", "_law_found", "_law_back"]) (sc0 := (zab ziC)) rfl rfl (by decide +kernel)) rfl (by walk_at "E") (fun _ _ _ _ nd2 => ⟨(@zap _ _ 0 _ nd2 (by rfl) (by walk_at "o2") (by walk_at "o4")), (@zbi _ _), (by walk_at "E")⟩) (by rfl) (by rfl) (by rfl) (by rfl) (by intro _ ; rfl)) (@zac _ _ _ _ _ _ _ _ _ _ (@zaj _ _ _ _ _ _ _ _ 5 nd (by walk_at "E") (by rfl) (by walk_at "o2") (by rfl) (by walk_at "o4")) (@zac _ _ _ _ _ _ _ _ _ _ (@zaj _ _ _ _ _ _ _ _ 6 nd (by walk_at "E") (by rfl) (by walk_at "o2") (by rfl) (by walk_at "o4")) (@zac _ _ _ _ _ _ _ _ _ _ (@zbl _ _ _ _ _ _ _ _ _ _ _ _ (@DW.dt _ _ _ _ (@znU _ _ _ _ _ _ _ _ (@zgg _ _ _ _ _ (@zhp _ _ _ _ (@zkw _ _ _ _ _ _ _ n_isinstance (@zaJ _ _ _ _ _ _ (by walk_at "E") (@zaJ _ _ _ _ _ _ (@zpb _ _ _ _ _ n_tuple zjA (by rfl) (by decide) (by decide)) (@zbP _ _) (by rfl)) (by rfl)) (by rfl) (by rfl) (by rfl)) (by intro _ ; rfl))) (by walk_at "E"))) (@zae _ _ _ _ _ _ _ (@zao _ _ _ _ _ _ _ _ (@zho _ _ _ _ _))) (@zas _ _ _ _)) (@zac _ _ _ _ _ _ _ _ _ _ (@zaj _ _ _ _ _ _ _ _ 7 nd (by walk_at "E") (by rfl) (by walk_at "o2") (by rfl) (by walk_at "o4")) (@zac _ _ _ _ _ _ _ _ _ _ (@zbl _ _ _ _ _ _ _ _ _ _ _ _ (by walk_at "E") (@zae _ _ _ _ _ _ _ (@zao _ _ _ _ _ _ _ _ (@zho _ _ _ _ _))) (@zas _ _ _ _)) (@zae _ _ _ _ _ _ _ (@zbl _ _ _ _ _ _ _ _ _ _ _ _ (by walk_at "E") (@zae _ _ _ _ _ _ _ (@zao _ _ _ _ _ _ _ _ (@zho _ _ _ _ _))) (@zas _ _ _ _))))))))))) (by rfl) (by intro _ ; rfl)) (@zae _ _ _ _ _ _ _ (@zao _ _ _ _ _ _ _ _ (@zho _ _ _ _ _))))
set_option maxHeartbeats 4000000 in
theorem all_mk {l : PySem.W.OpenLaw} {w : World} {K : PySem.W.Frag} {h : Heap} {mg : Str → Option Value} {fa f0 f1 f2 f3 f4 f5 f6 f7 f8 f9 f10 f11 f12 f13 f14 f15 f16 f17 f18 f19 f20 f21 f22 f23 f24 f25 f26 f27 f28 f29 f30 f31 f32 f33 f34 f35 f36 f37 f38 f39 f40 f41 f42 f43 f44 : Addr} (X : K.In h) (G : h.Ns mainGlobals mg) (hfa : mg "law" = some (.ref fa))
  {od0 an0 od1 an1 od2 an2 od3 an3 od4 an4 od5 an5 od6 an6 od7 an7 od8 an8 od9 an9 od10 an10 od11 an11 od12 an12 od13 an13 od14 an14 od15 an15 od16 an16 od17 an17 od18 an18 od19 an19 od20 an20 od21 an21 od22 an22 od23 an23 od24 an24 od25 an25 od26 an26 od27 an27 od28 an28 od29 an29 od30 an30 od31 an31 od32 an32 od33 an33 od34 an34 od35 an35 od36 an36 od37 an37 od38 an38 od39 an39 od40 an40 od41 an41 od42 an42 od43 an43 od44 an44 : Option Addr} {sl0 sl1 sl2 sl3 sl4 sl5 sl6 sl7 sl8 sl9 sl10 sl11 sl12 sl13 sl14 sl15 sl16 sl17 sl18 sl19 sl20 sl21 sl22 sl23 sl24 sl25 sl26 sl27 sl28 sl29 sl30 sl31 sl32 sl33 sl34 sl35 sl36 sl37 sl38 sl39 sl40 sl41 sl42 sl43 sl44 : Array (Option Value)} {oc0 kV0 dc0 pm0 cd0 ct0 oc1 kV1 dc1 pm1 cd1 ct1 oc2 kV2 dc2 pm2 cd2 ct2 oc3 kV3 dc3 pm3 cd3 ct3 oc4 kV4 dc4 pm4 cd4 ct4 oc5 kV5 dc5 pm5 cd5 ct5 oc6 kV6 dc6 pm6 cd6 ct6 oc7 kV7 dc7 pm7 cd7 ct7 oc8 kV8 dc8 pm8 cd8 ct8 oc9 kV9 dc9 pm9 cd9 ct9 oc10 kV10 dc10 pm10 cd10 ct10 oc11 kV11 dc11 pm11 cd11 ct11 oc12 kV12 dc12 pm12 cd12 ct12 oc13 kV13 dc13 pm13 cd13 ct13 oc14 kV14 dc14 pm14 cd14 ct14 oc15 kV15 dc15 pm15 cd15 ct15 oc16 kV16 dc16 pm16 cd16 ct16 oc17 kV17 dc17 pm17 cd17 ct17 oc18 kV18 dc18 pm18 cd18 ct18 oc19 kV19 dc19 pm19 cd19 ct19 oc20 kV20 dc20 pm20 cd20 ct20 oc21 kV21 dc21 pm21 cd21 ct21 oc22 kV22 dc22 pm22 cd22 ct22 oc23 kV23 dc23 pm23 cd23 ct23 oc24 kV24 dc24 pm24 cd24 ct24 oc25 kV25 dc25 pm25 cd25 ct25 oc26 kV26 dc26 pm26 cd26 ct26 oc27 kV27 dc27 pm27 cd27 ct27 oc28 kV28 dc28 pm28 cd28 ct28 oc29 kV29 dc29 pm29 cd29 ct29 oc30 kV30 dc30 pm30 cd30 ct30 oc31 kV31 dc31 pm31 cd31 ct31 oc32 kV32 dc32 pm32 cd32 ct32 oc33 kV33 dc33 pm33 cd33 ct33 oc34 kV34 dc34 pm34 cd34 ct34 oc35 kV35 dc35 pm35 cd35 ct35 oc36 kV36 dc36 pm36 cd36 ct36 oc37 kV37 dc37 pm37 cd37 ct37 oc38 kV38 dc38 pm38 cd38 ct38 oc39 kV39 dc39 pm39 cd39 ct39 oc40 kV40 dc40 pm40 cd40 ct40 oc41 kV41 dc41 pm41 cd41 ct41 oc42 kV42 dc42 pm42 cd42 ct42 oc43 kV43 dc43 pm43 cd43 ct43 oc44 kV44 dc44 pm44 cd44 ct44 : Value}
  {C_ChalkError C_NoPlace C_Same C_NoFloor C_TooMany C_NoFrame C_Unlike : Addr}
  (a0 : PySem.W.nsIn K mainGlobals "_law_cross" = some (some (.ref f0))) (l0 : K.lookup f0 = some ⟨oc0, od0, .func (PySem.W.fnOf "_law_cross" "_law_cross" (zam zbW) (zag zbW) (zab zbW) .none kV0 dc0 pm0 an0 cd0 ct0), sl0⟩) (c0 : PySem.W.codeIn K cd0 "_law_cross" = true) (k0 : PySem.W.keepIn K (.ref f0) = true)
  (a1 : PySem.W.nsIn K mainGlobals "_law_det" = some (some (.ref f1))) (l1 : K.lookup f1 = some ⟨oc1, od1, .func (PySem.W.fnOf "_law_det" "_law_det" (zam zcR) (zag zcR) (zab zcR) .none kV1 dc1 pm1 an1 cd1 ct1), sl1⟩) (c1 : PySem.W.codeIn K cd1 "_law_det" = true) (k1 : PySem.W.keepIn K (.ref f1) = true)
  (a2 : PySem.W.nsIn K mainGlobals "_law_general" = some (some (.ref f2))) (l2 : K.lookup f2 = some ⟨oc2, od2, .func (PySem.W.fnOf "_law_general" "_law_general" (zam zbg) (zag zbg) (zab zbg) .none kV2 dc2 pm2 an2 cd2 ct2), sl2⟩) (c2 : PySem.W.codeIn K cd2 "_law_general" = true) (k2 : PySem.W.keepIn K (.ref f2) = true)
  (a3 : PySem.W.nsIn K mainGlobals "_law_mix" = some (some (.ref f3))) (l3 : K.lookup f3 = some ⟨oc3, od3, .func (PySem.W.fnOf "_law_mix" "_law_mix" (zam zcS) (zag zcS) (zab zcS) .none kV3 dc3 pm3 an3 cd3 ct3), sl3⟩) (c3 : PySem.W.codeIn K cd3 "_law_mix" = true) (k3 : PySem.W.keepIn K (.ref f3) = true)
  (a4 : PySem.W.nsIn K mainGlobals "_law_low" = some (some (.ref f4))) (l4 : K.lookup f4 = some ⟨oc4, od4, .func (PySem.W.fnOf "_law_low" "_law_low" (zam zbX) (zag zbX) (zab zbX) .none kV4 dc4 pm4 an4 cd4 ct4), sl4⟩) (c4 : PySem.W.codeIn K cd4 "_law_low" = true) (k4 : PySem.W.keepIn K (.ref f4) = true)
  (a5 : PySem.W.nsIn K mainGlobals "_law_spot" = some (some (.ref f5))) (l5 : K.lookup f5 = some ⟨oc5, od5, .func (PySem.W.fnOf "_law_spot" "_law_spot" (zam zci) (zag zci) (zab zci) .none kV5 dc5 pm5 an5 cd5 ct5), sl5⟩) (c5 : PySem.W.codeIn K cd5 "_law_spot" = true) (k5 : PySem.W.keepIn K (.ref f5) = true)
  (a6 : PySem.W.nsIn K mainGlobals "_law_four" = some (some (.ref f6))) (l6 : K.lookup f6 = some ⟨oc6, od6, .func (PySem.W.fnOf "_law_four" "_law_four" (zam zbM) (zag zbM) (zab zbM) .none kV6 dc6 pm6 an6 cd6 ct6), sl6⟩) (c6 : PySem.W.codeIn K cd6 "_law_four" = true) (k6 : PySem.W.keepIn K (.ref f6) = true)
  (a7 : PySem.W.nsIn K mainGlobals "_law_on_two" = some (some (.ref f7))) (l7 : K.lookup f7 = some ⟨oc7, od7, .func (PySem.W.fnOf "_law_on_two" "_law_on_two" (zam za3) (zag za3) (zab za3) .none kV7 dc7 pm7 an7 cd7 ct7), sl7⟩) (c7 : PySem.W.codeIn K cd7 "_law_on_two" = true) (k7 : PySem.W.keepIn K (.ref f7) = true)
  (a8 : PySem.W.nsIn K mainGlobals "_law_floor" = some (some (.ref f8))) (l8 : K.lookup f8 = some ⟨oc8, od8, .func (PySem.W.fnOf "_law_floor" "_law_floor" (zam zbp) (zag zbp) (zab zbp) .none kV8 dc8 pm8 an8 cd8 ct8), sl8⟩) (c8 : PySem.W.codeIn K cd8 "_law_floor" = true) (k8 : PySem.W.keepIn K (.ref f8) = true)
  (a9 : PySem.W.nsIn K mainGlobals "_law_low_nine" = some (some (.ref f9))) (l9 : K.lookup f9 = some ⟨oc9, od9, .func (PySem.W.fnOf "_law_low_nine" "_law_low_nine" (zam zaL) (zag zaL) (zab zaL) .none kV9 dc9 pm9 an9 cd9 ct9), sl9⟩) (c9 : PySem.W.codeIn K cd9 "_law_low_nine" = true) (k9 : PySem.W.keepIn K (.ref f9) = true)
  (a10 : PySem.W.nsIn K mainGlobals "_law_nine" = some (some (.ref f10))) (l10 : K.lookup f10 = some ⟨oc10, od10, .func (PySem.W.fnOf "_law_nine" "_law_nine" (zam zcj) (zag zcj) (zab zcj) .none kV10 dc10 pm10 an10 cd10 ct10), sl10⟩) (c10 : PySem.W.codeIn K cd10 "_law_nine" = true) (k10 : PySem.W.keepIn K (.ref f10) = true)
  (a11 : PySem.W.nsIn K mainGlobals "is_whole" = some (some (.ref f11))) (l11 : K.lookup f11 = some ⟨oc11, od11, .func (PySem.W.fnOf "is_whole" "is_whole" (zam zcT) (zag zcT) (zab zcT) .none kV11 dc11 pm11 an11 cd11 ct11), sl11⟩) (c11 : PySem.W.codeIn K cd11 "is_whole" = true) (k11 : PySem.W.keepIn K (.ref f11) = true)
  (a12 : PySem.W.nsIn K mainGlobals "makes_place" = some (some (.ref f12))) (l12 : K.lookup f12 = some ⟨oc12, od12, .func (PySem.W.fnOf "makes_place" "makes_place" (zam za4) (zag za4) (zab za4) .none kV12 dc12 pm12 an12 cd12 ct12), sl12⟩) (c12 : PySem.W.codeIn K cd12 "makes_place" = true) (k12 : PySem.W.keepIn K (.ref f12) = true)
  (a13 : PySem.W.nsIn K mainGlobals "divisor" = some (some (.ref f13))) (l13 : K.lookup f13 = some ⟨oc13, od13, .func (PySem.W.fnOf "divisor" "divisor" (zam zdB) (zag zdB) (zab zdB) .none kV13 dc13 pm13 an13 cd13 ct13), sl13⟩) (c13 : PySem.W.codeIn K cd13 "divisor" = true) (k13 : PySem.W.keepIn K (.ref f13) = true)
  (a14 : PySem.W.nsIn K mainGlobals "in_form" = some (some (.ref f14))) (l14 : K.lookup f14 = some ⟨oc14, od14, .func (PySem.W.fnOf "in_form" "in_form" (zam zdb) (zag zdb) (zab zdb) .none kV14 dc14 pm14 an14 cd14 ct14), sl14⟩) (c14 : PySem.W.codeIn K cd14 "in_form" = true) (k14 : PySem.W.keepIn K (.ref f14) = true)
  (a15 : PySem.W.nsIn K mainGlobals "is_place" = some (some (.ref f15))) (l15 : K.lookup f15 = some ⟨oc15, od15, .func (PySem.W.fnOf "is_place" "is_place" (zam zcU) (zag zcU) (zab zcU) .none kV15 dc15 pm15 an15 cd15 ct15), sl15⟩) (c15 : PySem.W.codeIn K cd15 "is_place" = true) (k15 : PySem.W.keepIn K (.ref f15) = true)
  (a16 : PySem.W.nsIn K mainGlobals "is_floor" = some (some (.ref f16))) (l16 : K.lookup f16 = some ⟨oc16, od16, .func (PySem.W.fnOf "is_floor" "is_floor" (zam zck) (zag zck) (zab zck) .none kV16 dc16 pm16 an16 cd16 ct16), sl16⟩) (c16 : PySem.W.codeIn K cd16 "is_floor" = true) (k16 : PySem.W.keepIn K (.ref f16) = true)
  (a17 : PySem.W.nsIn K mainGlobals "look_at" = some (some (.ref f17))) (l17 : K.lookup f17 = some ⟨oc17, od17, .func (PySem.W.fnOf "look_at" "look_at" (zam zdC) (zag zdC) (zab zdC) .none kV17 dc17 pm17 an17 cd17 ct17), sl17⟩) (c17 : PySem.W.codeIn K cd17 "look_at" = true) (k17 : PySem.W.keepIn K (.ref f17) = true)
  (a18 : PySem.W.nsIn K mainGlobals "cross" = some (some (.ref f18))) (l18 : K.lookup f18 = some ⟨oc18, od18, .func (PySem.W.fnOf "cross" "cross" (zam zgd) (zag zgd) (zab zgd) .none kV18 dc18 pm18 an18 cd18 ct18), sl18⟩) (c18 : PySem.W.codeIn K cd18 "cross" = true) (k18 : PySem.W.keepIn K (.ref f18) = true)
  (a19 : PySem.W.nsIn K mainGlobals "between_two" = some (some (.ref f19))) (l19 : K.lookup f19 = some ⟨oc19, od19, .func (PySem.W.fnOf "between_two" "between_two" (zam zbw) (zag zbw) (zab zbw) .none kV19 dc19 pm19 an19 cd19 ct19), sl19⟩) (c19 : PySem.W.codeIn K cd19 "between_two" = true) (k19 : PySem.W.keepIn K (.ref f19) = true)
  (a20 : PySem.W.nsIn K mainGlobals "through" = some (some (.ref f20))) (l20 : K.lookup f20 = some ⟨oc20, od20, .func (PySem.W.fnOf "through" "through" (zam zdD) (zag zdD) (zab zdD) .none kV20 dc20 pm20 an20 cd20 ct20), sl20⟩) (c20 : PySem.W.codeIn K cd20 "through" = true) (k20 : PySem.W.keepIn K (.ref f20) = true)
  (a21 : PySem.W.nsIn K mainGlobals "dot" = some (some (.ref f21))) (l21 : K.lookup f21 = some ⟨oc21, od21, .func (PySem.W.fnOf "dot" "dot" (zam zoh) (zag zoh) (zab zoh) .none kV21 dc21 pm21 an21 cd21 ct21), sl21⟩) (c21 : PySem.W.codeIn K cd21 "dot" = true) (k21 : PySem.W.keepIn K (.ref f21) = true)
  (a22 : PySem.W.nsIn K mainGlobals "lies" = some (some (.ref f22))) (l22 : K.lookup f22 = some ⟨oc22, od22, .func (PySem.W.fnOf "lies" "lies" (zam zjc) (zag zjc) (zab zjc) .none kV22 dc22 pm22 an22 cd22 ct22), sl22⟩) (c22 : PySem.W.codeIn K cd22 "lies" = true) (k22 : PySem.W.keepIn K (.ref f22) = true)
  (a23 : PySem.W.nsIn K mainGlobals "fourth_of" = some (some (.ref f23))) (l23 : K.lookup f23 = some ⟨oc23, od23, .func (PySem.W.fnOf "fourth_of" "fourth_of" (zam zbN) (zag zbN) (zab zbN) .none kV23 dc23 pm23 an23 cd23 ct23), sl23⟩) (c23 : PySem.W.codeIn K cd23 "fourth_of" = true) (k23 : PySem.W.keepIn K (.ref f23) = true)
  (a24 : PySem.W.nsIn K mainGlobals "frame_of" = some (some (.ref f24))) (l24 : K.lookup f24 = some ⟨oc24, od24, .func (PySem.W.fnOf "frame_of" "frame_of" (zam zcV) (zag zcV) (zab zcV) .none kV24 dc24 pm24 an24 cd24 ct24), sl24⟩) (c24 : PySem.W.codeIn K cd24 "frame_of" = true) (k24 : PySem.W.keepIn K (.ref f24) = true)
  (a25 : PySem.W.nsIn K mainGlobals "on_one" = some (some (.ref f25))) (l25 : K.lookup f25 = some ⟨oc25, od25, .func (PySem.W.fnOf "on_one" "on_one" (zam zdn) (zag zdn) (zab zdn) .none kV25 dc25 pm25 an25 cd25 ct25), sl25⟩) (c25 : PySem.W.codeIn K cd25 "on_one" = true) (k25 : PySem.W.keepIn K (.ref f25) = true)
  (a26 : PySem.W.nsIn K mainGlobals "odd_three" = some (some (.ref f26))) (l26 : K.lookup f26 = some ⟨oc26, od26, .func (PySem.W.fnOf "odd_three" "odd_three" (zam zcl) (zag zcl) (zab zcl) .none kV26 dc26 pm26 an26 cd26 ct26), sl26⟩) (c26 : PySem.W.codeIn K cd26 "odd_three" = true) (k26 : PySem.W.keepIn K (.ref f26) = true)
  (a27 : PySem.W.nsIn K mainGlobals "columns_of" = some (some (.ref f27))) (l27 : K.lookup f27 = some ⟨oc27, od27, .func (PySem.W.fnOf "columns_of" "columns_of" (zam zbq) (zag zbq) (zab zbq) .none kV27 dc27 pm27 an27 cd27 ct27), sl27⟩) (c27 : PySem.W.codeIn K cd27 "columns_of" = true) (k27 : PySem.W.keepIn K (.ref f27) = true)
  (a28 : PySem.W.nsIn K mainGlobals "three_rows" = some (some (.ref f28))) (l28 : K.lookup f28 = some ⟨oc28, od28, .func (PySem.W.fnOf "three_rows" "three_rows" (zam zbr) (zag zbr) (zab zbr) .none kV28 dc28 pm28 an28 cd28 ct28), sl28⟩) (c28 : PySem.W.codeIn K cd28 "three_rows" = true) (k28 : PySem.W.keepIn K (.ref f28) = true)
  (a29 : PySem.W.nsIn K mainGlobals "lowest" = some (some (.ref f29))) (l29 : K.lookup f29 = some ⟨oc29, od29, .func (PySem.W.fnOf "lowest" "lowest" (zam zdo) (zag zdo) (zab zdo) .none kV29 dc29 pm29 an29 cd29 ct29), sl29⟩) (c29 : PySem.W.codeIn K cd29 "lowest" = true) (k29 : PySem.W.keepIn K (.ref f29) = true)
  (a30 : PySem.W.nsIn K mainGlobals "both" = some (some (.ref f30))) (l30 : K.lookup f30 = some ⟨oc30, od30, .func (PySem.W.fnOf "both" "both" (zam zim) (zag zim) (zab zim) .none kV30 dc30 pm30 an30 cd30 ct30), sl30⟩) (c30 : PySem.W.codeIn K cd30 "both" = true) (k30 : PySem.W.keepIn K (.ref f30) = true)
  (a31 : PySem.W.nsIn K mainGlobals "cofactors" = some (some (.ref f31))) (l31 : K.lookup f31 = some ⟨oc31, od31, .func (PySem.W.fnOf "cofactors" "cofactors" (zam zcm) (zag zcm) (zab zcm) .none kV31 dc31 pm31 an31 cd31 ct31), sl31⟩) (c31 : PySem.W.codeIn K cd31 "cofactors" = true) (k31 : PySem.W.keepIn K (.ref f31) = true)
  (a32 : PySem.W.nsIn K mainGlobals "undoing" = some (some (.ref f32))) (l32 : K.lookup f32 = some ⟨oc32, od32, .func (PySem.W.fnOf "undoing" "undoing" (zam zdE) (zag zdE) (zab zdE) .none kV32 dc32 pm32 an32 cd32 ct32), sl32⟩) (c32 : PySem.W.codeIn K cd32 "undoing" = true) (k32 : PySem.W.keepIn K (.ref f32) = true)
  (a33 : PySem.W.nsIn K mainGlobals "determinant" = some (some (.ref f33))) (l33 : K.lookup f33 = some ⟨oc33, od33, .func (PySem.W.fnOf "determinant" "determinant" (zam zbx) (zag zbx) (zab zbx) .none kV33 dc33 pm33 an33 cd33 ct33), sl33⟩) (c33 : PySem.W.codeIn K cd33 "determinant" = true) (k33 : PySem.W.keepIn K (.ref f33) = true)
  (a34 : PySem.W.nsIn K mainGlobals "spread" = some (some (.ref f34))) (l34 : K.lookup f34 = some ⟨oc34, od34, .func (PySem.W.fnOf "spread" "spread" (zam zeZ) (zag zeZ) (zab zeZ) .none kV34 dc34 pm34 an34 cd34 ct34), sl34⟩) (c34 : PySem.W.codeIn K cd34 "spread" = true) (k34 : PySem.W.keepIn K (.ref f34) = true)
  (a35 : PySem.W.nsIn K mainGlobals "is_four" = some (some (.ref f35))) (l35 : K.lookup f35 = some ⟨oc35, od35, .func (PySem.W.fnOf "is_four" "is_four" (zam zdF) (zag zdF) (zab zdF) .none kV35 dc35 pm35 an35 cd35 ct35), sl35⟩) (c35 : PySem.W.codeIn K cd35 "is_four" = true) (k35 : PySem.W.keepIn K (.ref f35) = true)
  (a36 : PySem.W.nsIn K mainGlobals "between" = some (some (.ref f36))) (l36 : K.lookup f36 = some ⟨oc36, od36, .func (PySem.W.fnOf "between" "between" (zam zdG) (zag zdG) (zab zdG) .none kV36 dc36 pm36 an36 cd36 ct36), sl36⟩) (c36 : PySem.W.codeIn K cd36 "between" = true) (k36 : PySem.W.keepIn K (.ref f36) = true)
  (a37 : PySem.W.nsIn K mainGlobals "place_of" = some (some (.ref f37))) (l37 : K.lookup f37 = some ⟨oc37, od37, .func (PySem.W.fnOf "place_of" "place_of" (zam zcW) (zag zcW) (zab zcW) .none kV37 dc37 pm37 an37 cd37 ct37), sl37⟩) (c37 : PySem.W.codeIn K cd37 "place_of" = true) (k37 : PySem.W.keepIn K (.ref f37) = true)
  (a38 : PySem.W.nsIn K mainGlobals "led_by" = some (some (.ref f38))) (l38 : K.lookup f38 = some ⟨oc38, od38, .func (PySem.W.fnOf "led_by" "led_by" (zam ze0) (zag ze0) (zab ze0) .none kV38 dc38 pm38 an38 cd38 ct38), sl38⟩) (c38 : PySem.W.codeIn K cd38 "led_by" = true) (k38 : PySem.W.keepIn K (.ref f38) = true)
  (a39 : PySem.W.nsIn K mainGlobals "led" = some (some (.ref f39))) (l39 : K.lookup f39 = some ⟨oc39, od39, .func (PySem.W.fnOf "led" "led" (zam zol) (zag zol) (zab zol) .none kV39 dc39 pm39 an39 cd39 ct39), sl39⟩) (c39 : PySem.W.codeIn K cd39 "led" = true) (k39 : PySem.W.keepIn K (.ref f39) = true)
  (a40 : PySem.W.nsIn K mainGlobals "held" = some (some (.ref f40))) (l40 : K.lookup f40 = some ⟨oc40, od40, .func (PySem.W.fnOf "held" "held" (zam zf0) (zag zf0) (zab zf0) .none kV40 dc40 pm40 an40 cd40 ct40), sl40⟩) (c40 : PySem.W.codeIn K cd40 "held" = true) (k40 : PySem.W.keepIn K (.ref f40) = true)
  (a41 : PySem.W.nsIn K mainGlobals "_law_cell_at" = some (some (.ref f41))) (l41 : K.lookup f41 = some ⟨oc41, od41, .func (PySem.W.fnOf "_law_cell_at" "_law_cell_at" (zam zbh) (zag zbh) (zab zbh) .none kV41 dc41 pm41 an41 cd41 ct41), sl41⟩) (c41 : PySem.W.codeIn K cd41 "_law_cell_at" = true) (k41 : PySem.W.keepIn K (.ref f41) = true)
  (a42 : PySem.W.nsIn K mainGlobals "_law_led" = some (some (.ref f42))) (l42 : K.lookup f42 = some ⟨oc42, od42, .func (PySem.W.fnOf "_law_led" "_law_led" (zam zcn) (zag zcn) (zab zcn) .none kV42 dc42 pm42 an42 cd42 ct42), sl42⟩) (c42 : PySem.W.codeIn K cd42 "_law_led" = true) (k42 : PySem.W.keepIn K (.ref f42) = true)
  (a43 : PySem.W.nsIn K mainGlobals "_law_behind" = some (some (.ref f43))) (l43 : K.lookup f43 = some ⟨oc43, od43, .func (PySem.W.fnOf "_law_behind" "_law_behind" (zam za5) (zag za5) (zab za5) .none kV43 dc43 pm43 an43 cd43 ct43), sl43⟩) (c43 : PySem.W.codeIn K cd43 "_law_behind" = true) (k43 : PySem.W.keepIn K (.ref f43) = true)
  (a44 : PySem.W.nsIn K mainGlobals "law" = some (some (.ref f44))) (l44 : K.lookup f44 = some ⟨oc44, od44, .func (PySem.W.fnOf "law" "law" (zam ziC) (zag ziC) (zab ziC) .none kV44 dc44 pm44 an44 cd44 ct44), sl44⟩) (c44 : PySem.W.codeIn K cd44 "law" = true) (k44 : PySem.W.keepIn K (.ref f44) = true)
  (z_range : PySem.W.nsIn K mainGlobals "range" = some none)
  (z_abs : PySem.W.nsIn K mainGlobals "abs" = some none)
  (z_tuple : PySem.W.nsIn K mainGlobals "tuple" = some none)
  (z_zip : PySem.W.nsIn K mainGlobals "zip" = some none)
  (z_len : PySem.W.nsIn K mainGlobals "len" = some none)
  (z_int : PySem.W.nsIn K mainGlobals "int" = some none)
  (z_isinstance : PySem.W.nsIn K mainGlobals "isinstance" = some none)
  (z_bool : PySem.W.nsIn K mainGlobals "bool" = some none)
  (z_all : PySem.W.nsIn K mainGlobals "all" = some none)
  (z_list : PySem.W.nsIn K mainGlobals "list" = some none)
  (z_set : PySem.W.nsIn K mainGlobals "set" = some none)
  (z_any : PySem.W.nsIn K mainGlobals "any" = some none)
  (z_sum : PySem.W.nsIn K mainGlobals "sum" = some none)
  (z_max : PySem.W.nsIn K mainGlobals "max" = some none)
  (z_min : PySem.W.nsIn K mainGlobals "min" = some none)
  (e_ChalkError : PySem.W.nsIn K mainGlobals "ChalkError" = some (some (.ref C_ChalkError)))
  (e_NoPlace : PySem.W.nsIn K mainGlobals "NoPlace" = some (some (.ref C_NoPlace)))
  (e_Same : PySem.W.nsIn K mainGlobals "Same" = some (some (.ref C_Same)))
  (e_NoFloor : PySem.W.nsIn K mainGlobals "NoFloor" = some (some (.ref C_NoFloor)))
  (e_TooMany : PySem.W.nsIn K mainGlobals "TooMany" = some (some (.ref C_TooMany)))
  (e_NoFrame : PySem.W.nsIn K mainGlobals "NoFrame" = some (some (.ref C_NoFrame)))
  (e_Unlike : PySem.W.nsIn K mainGlobals "Unlike" = some (some (.ref C_Unlike)))
  (y_NoPlace : PySem.W.excIn K C_NoPlace [.type "ValueError", .type "Exception", .type "BaseException", .type "object"] "ValueError.__new__" = true)
  (xga_NoPlace : PySem.W.findIn K (.ref C_NoPlace) "__getattribute__" = some (some (.builtin "BaseException.__getattribute__")))
  (xgh_NoPlace : PySem.W.findIn K (.ref C_NoPlace) "__getattr__" = some none)
  (xbs_NoPlace : PySem.W.mroIn K C_NoPlace (.type "BaseException") = some true)
  (xob_NoPlace : PySem.W.mroIn K C_NoPlace (.type "object") = some true)
  (xca_NoPlace : PySem.W.findIn K (.ref C_NoPlace) "__class__" = some (some (.builtin "object.__class__")))
  (xvv_NoPlace : PySem.W.kitOne K (.ref C_NoPlace) (.type "ValueError") = some true)
  (t_NoPlace_ChalkError : PySem.W.kitOne K (.ref C_NoPlace) (.ref C_ChalkError) = some true)
  (u_NoPlace_ChalkError : PySem.W.exmOne K (.ref C_NoPlace) (.ref C_ChalkError) = some true)
  (t_NoPlace_NoPlace : PySem.W.kitOne K (.ref C_NoPlace) (.ref C_NoPlace) = some true)
  (u_NoPlace_NoPlace : PySem.W.exmOne K (.ref C_NoPlace) (.ref C_NoPlace) = some true)
  (t_NoPlace_Same : PySem.W.kitOne K (.ref C_NoPlace) (.ref C_Same) = some false)
  (t_NoPlace_NoFloor : PySem.W.kitOne K (.ref C_NoPlace) (.ref C_NoFloor) = some false)
  (v_Endless : PySem.W.nsIn K mainGlobals "Endless" = some none)
  (v_NoDeed : PySem.W.nsIn K mainGlobals "NoDeed" = some none)
  (v_NoText : PySem.W.nsIn K mainGlobals "NoText" = some none)
  (v_NoName : PySem.W.nsIn K mainGlobals "NoName" = some none)
  (t_NoPlace_TooMany : PySem.W.kitOne K (.ref C_NoPlace) (.ref C_TooMany) = some false)
  (v_NoChange : PySem.W.nsIn K mainGlobals "NoChange" = some none)
  (t_NoPlace_NoFrame : PySem.W.kitOne K (.ref C_NoPlace) (.ref C_NoFrame) = some false)
  (v_NoValue : PySem.W.nsIn K mainGlobals "NoValue" = some none)
  (t_NoPlace_Unlike : PySem.W.kitOne K (.ref C_NoPlace) (.ref C_Unlike) = some false)
  (v_NoRatio : PySem.W.nsIn K mainGlobals "NoRatio" = some none)
  (v_NoBow : PySem.W.nsIn K mainGlobals "NoBow" = some none)
  (v_NoRow : PySem.W.nsIn K mainGlobals "NoRow" = some none)
  (xcg : PySem.W.specialIn K (.builtin "object.__class__") "__get__" = some (some (.builtin "getset_descriptor.__get__"))) (xct : PySem.W.takesIn K (.builtin "object.__class__") = some true)
  {t_MOST_PEGS : Tok} (q_MOST_PEGS : PySem.W.nsIn K mainGlobals "MOST_PEGS" = some (some (.int 12 t_MOST_PEGS)))
  (hlaw : ∀ ns : List Int, ns.length ≤ 63 → zfT [.lst (ns.map .int)] = .ok (.bl true))
  : ∃ fd : FuncData, (∀ (s : Shared) (v : Value), BindsTo s fd ⟨[v], []⟩ [("_law_script", v)]) ∧ ∀ base : Heap, K.In base → base.Ns mainGlobals mg → ziE l.prog w K mg base (CXe l.prog w) 10 fa fd ["_law_script"] (zr0 K) := by
 have e := hfa.symm.trans (PySem.W.mg_of X G a44)
 cases e
 have F0 := zau (st := zbW) l0 c0 k0
 have b0 := F0.binds (ps := ["_law_one", "_law_two"]) fun _ _ _ _ _ _ us hl => match us, hl with | [_, _], _ => rfl
 have m0 := PySem.W.mg_of X G a0
 have F1 := zau (st := zcR) l1 c1 k1
 have b1 := F1.binds (ps := ["_law_one", "_law_two", "_law_three"]) fun _ _ _ _ _ _ us hl => match us, hl with | [_, _, _], _ => rfl
 have m1 := PySem.W.mg_of X G a1
 have F2 := zau (st := zbg) l2 c2 k2
 have b2 := F2.binds (ps := ["_law_some"]) fun _ _ _ _ _ _ us hl => match us, hl with | [_], _ => rfl
 have m2 := PySem.W.mg_of X G a2
 have F3 := zau (st := zcS) l3 c3 k3
 have b3 := F3.binds (ps := ["_law_cell", "_law_k"]) fun _ _ _ _ _ _ us hl => match us, hl with | [_, _], _ => rfl
 have m3 := PySem.W.mg_of X G a3
 have F4 := zau (st := zbX) l4 c4 k4
 have b4 := F4.binds (ps := ["_law_some"]) fun _ _ _ _ _ _ us hl => match us, hl with | [_], _ => rfl
 have m4 := PySem.W.mg_of X G a4
 have F5 := zau (st := zci) l5 c5 k5
 have b5 := F5.binds (ps := ["_law_cell", "_law_k"]) fun _ _ _ _ _ _ us hl => match us, hl with | [_, _], _ => rfl
 have m5 := PySem.W.mg_of X G a5
 have F6 := zau (st := zbM) l6 c6 k6
 have b6 := F6.binds (ps := ["_law_cell", "_law_at"]) fun _ _ _ _ _ _ us hl => match us, hl with | [_, _], _ => rfl
 have m6 := PySem.W.mg_of X G a6
 have F7 := zau (st := za3) l7 c7 k7
 have b7 := F7.binds (ps := ["_law_one", "_law_two", "_law_s", "_law_t"]) fun _ _ _ _ _ _ us hl => match us, hl with | [_, _, _, _], _ => rfl
 have m7 := PySem.W.mg_of X G a7
 have F8 := zau (st := zbp) l8 c8 k8
 have b8 := F8.binds (ps := ["_law_cell", "_law_how"]) fun _ _ _ _ _ _ us hl => match us, hl with | [_, _], _ => rfl
 have m8 := PySem.W.mg_of X G a8
 have F9 := zau (st := zaL) l9 c9 k9
 have b9 := F9.binds (ps := ["_law_some"]) fun _ _ _ _ _ _ us hl => match us, hl with | [_], _ => rfl
 have m9 := PySem.W.mg_of X G a9
 have F10 := zau (st := zcj) l10 c10 k10
 have b10 := F10.binds (ps := ["_law_cell", "_law_k"]) fun _ _ _ _ _ _ us hl => match us, hl with | [_, _], _ => rfl
 have m10 := PySem.W.mg_of X G a10
 have F11 := zau (st := zcT) l11 c11 k11
 have b11 := F11.binds (ps := ["thing"]) fun _ _ _ _ _ _ us hl => match us, hl with | [_], _ => rfl
 have m11 := PySem.W.mg_of X G a11
 have F12 := zau (st := za4) l12 c12 k12
 have b12 := F12.binds (ps := ["three"]) fun _ _ _ _ _ _ us hl => match us, hl with | [_], _ => rfl
 have m12 := PySem.W.mg_of X G a12
 have F13 := zau (st := zdB) l13 c13 k13
 have b13 := F13.binds (ps := ["one", "other"]) fun _ _ _ _ _ _ us hl => match us, hl with | [_, _], _ => rfl
 have m13 := PySem.W.mg_of X G a13
 have F14 := zau (st := zdb) l14 c14 k14
 have b14 := F14.binds (ps := ["numbers"]) fun _ _ _ _ _ _ us hl => match us, hl with | [_], _ => rfl
 have m14 := PySem.W.mg_of X G a14
 have F15 := zau (st := zcU) l15 c15 k15
 have b15 := F15.binds (ps := ["thing"]) fun _ _ _ _ _ _ us hl => match us, hl with | [_], _ => rfl
 have m15 := PySem.W.mg_of X G a15
 have F16 := zau (st := zck) l16 c16 k16
 have b16 := F16.binds (ps := ["thing"]) fun _ _ _ _ _ _ us hl => match us, hl with | [_], _ => rfl
 have m16 := PySem.W.mg_of X G a16
 have F17 := zau (st := zdC) l17 c17 k17
 have b17 := F17.binds (ps := ["floor"]) fun _ _ _ _ _ _ us hl => match us, hl with | [_], _ => rfl
 have m17 := PySem.W.mg_of X G a17
 have F18 := zau (st := zgd) l18 c18 k18
 have b18 := F18.binds (ps := ["one", "other"]) fun _ _ _ _ _ _ us hl => match us, hl with | [_, _], _ => rfl
 have m18 := PySem.W.mg_of X G a18
 have F19 := zau (st := zbw) l19 c19 k19
 have b19 := F19.binds (ps := ["one", "other"]) fun _ _ _ _ _ _ us hl => match us, hl with | [_, _], _ => rfl
 have m19 := PySem.W.mg_of X G a19
 have F20 := zau (st := zdD) l20 c20 k20
 have b20 := F20.binds (ps := ["one", "other"]) fun _ _ _ _ _ _ us hl => match us, hl with | [_, _], _ => rfl
 have m20 := PySem.W.mg_of X G a20
 have F21 := zau (st := zoh) l21 c21 k21
 have b21 := F21.binds (ps := ["one", "other"]) fun _ _ _ _ _ _ us hl => match us, hl with | [_, _], _ => rfl
 have m21 := PySem.W.mg_of X G a21
 have F22 := zau (st := zjc) l22 c22 k22
 have b22 := F22.binds (ps := ["place", "line"]) fun _ _ _ _ _ _ us hl => match us, hl with | [_, _], _ => rfl
 have m22 := PySem.W.mg_of X G a22
 have F23 := zau (st := zbN) l23 c23 k23
 have b23 := F23.binds (ps := ["floor", "a", "b", "c"]) fun _ _ _ _ _ _ us hl => match us, hl with | [_, _, _, _], _ => rfl
 have m23 := PySem.W.mg_of X G a23
 have F24 := zau (st := zcV) l24 c24 k24
 have b24 := F24.binds (ps := ["floor"]) fun _ _ _ _ _ _ us hl => match us, hl with | [_], _ => rfl
 have m24 := PySem.W.mg_of X G a24
 have F25 := zau (st := zdn) l25 c25 k25
 have b25 := F25.binds (ps := ["places"]) fun _ _ _ _ _ _ us hl => match us, hl with | [_], _ => rfl
 have m25 := PySem.W.mg_of X G a25
 have F26 := zau (st := zcl) l26 c26 k26
 have b26 := F26.binds (ps := ["one", "other"]) fun _ _ _ _ _ _ us hl => match us, hl with | [_, _], _ => rfl
 have m26 := PySem.W.mg_of X G a26
 have F27 := zau (st := zbq) l27 c27 k27
 have b27 := F27.binds (ps := ["rows"]) fun _ _ _ _ _ _ us hl => match us, hl with | [_], _ => rfl
 have m27 := PySem.W.mg_of X G a27
 have F28 := zau (st := zbr) l28 c28 k28
 have b28 := F28.binds (ps := ["numbers"]) fun _ _ _ _ _ _ us hl => match us, hl with | [_], _ => rfl
 have m28 := PySem.W.mg_of X G a28
 have F29 := zau (st := zdo) l29 c29 k29
 have b29 := F29.binds (ps := ["numbers"]) fun _ _ _ _ _ _ us hl => match us, hl with | [_], _ => rfl
 have m29 := PySem.W.mg_of X G a29
 have F30 := zau (st := zim) l30 c30 k30
 have b30 := F30.binds (ps := ["first", "second"]) fun _ _ _ _ _ _ us hl => match us, hl with | [_, _], _ => rfl
 have m30 := PySem.W.mg_of X G a30
 have F31 := zau (st := zcm) l31 c31 k31
 have b31 := F31.binds (ps := ["rows"]) fun _ _ _ _ _ _ us hl => match us, hl with | [_], _ => rfl
 have m31 := PySem.W.mg_of X G a31
 have F32 := zau (st := zdE) l32 c32 k32
 have b32 := F32.binds (ps := ["change"]) fun _ _ _ _ _ _ us hl => match us, hl with | [_], _ => rfl
 have m32 := PySem.W.mg_of X G a32
 have F33 := zau (st := zbx) l33 c33 k33
 have b33 := F33.binds (ps := ["one", "other", "third"]) fun _ _ _ _ _ _ us hl => match us, hl with | [_, _, _], _ => rfl
 have m33 := PySem.W.mg_of X G a33
 have F34 := zau (st := zeZ) l34 c34 k34
 have b34 := F34.binds (ps := ["four"]) fun _ _ _ _ _ _ us hl => match us, hl with | [_], _ => rfl
 have m34 := PySem.W.mg_of X G a34
 have F35 := zau (st := zdF) l35 c35 k35
 have b35 := F35.binds (ps := ["thing"]) fun _ _ _ _ _ _ us hl => match us, hl with | [_], _ => rfl
 have m35 := PySem.W.mg_of X G a35
 have F36 := zau (st := zdG) l36 c36 k36
 have b36 := F36.binds (ps := ["four", "other"]) fun _ _ _ _ _ _ us hl => match us, hl with | [_, _], _ => rfl
 have m36 := PySem.W.mg_of X G a36
 have F37 := zau (st := zcW) l37 c37 k37
 have b37 := F37.binds (ps := ["x", "y", "z"]) fun _ _ _ _ _ _ us hl => match us, hl with | [_, _, _], _ => rfl
 have m37 := PySem.W.mg_of X G a37
 have F38 := zau (st := ze0) l38 c38 k38
 have b38 := F38.binds (ps := ["rows", "three"]) fun _ _ _ _ _ _ us hl => match us, hl with | [_, _], _ => rfl
 have m38 := PySem.W.mg_of X G a38
 have F39 := zau (st := zol) l39 c39 k39
 have b39 := F39.binds (ps := ["change", "place"]) fun _ _ _ _ _ _ us hl => match us, hl with | [_, _], _ => rfl
 have m39 := PySem.W.mg_of X G a39
 have F40 := zau (st := zf0) l40 c40 k40
 have b40 := F40.binds (ps := ["one", "other"]) fun _ _ _ _ _ _ us hl => match us, hl with | [_, _], _ => rfl
 have m40 := PySem.W.mg_of X G a40
 have F41 := zau (st := zbh) l41 c41 k41
 have b41 := F41.binds (ps := ["_law_script", "_law_k"]) fun _ _ _ _ _ _ us hl => match us, hl with | [_, _], _ => rfl
 have m41 := PySem.W.mg_of X G a41
 have F42 := zau (st := zcn) l42 c42 k42
 have b42 := F42.binds (ps := ["_law_nine_here", "_law_place"]) fun _ _ _ _ _ _ us hl => match us, hl with | [_, _], _ => rfl
 have m42 := PySem.W.mg_of X G a42
 have F43 := zau (st := za5) l43 c43 k43
 have b43 := F43.binds (ps := ["_law_first", "_law_second"]) fun _ _ _ _ _ _ us hl => match us, hl with | [_, _], _ => rfl
 have m43 := PySem.W.mg_of X G a43
 have F44 := zau (st := ziC) l44 c44 k44
 have m44 := PySem.W.mg_of X G a44
 have n_range := PySem.W.mg_none_of X G z_range
 have n_abs := PySem.W.mg_none_of X G z_abs
 have n_tuple := PySem.W.mg_none_of X G z_tuple
 have n_zip := PySem.W.mg_none_of X G z_zip
 have n_len := PySem.W.mg_none_of X G z_len
 have n_int := PySem.W.mg_none_of X G z_int
 have n_isinstance := PySem.W.mg_none_of X G z_isinstance
 have n_bool := PySem.W.mg_none_of X G z_bool
 have n_all := PySem.W.mg_none_of X G z_all
 have n_list := PySem.W.mg_none_of X G z_list
 have n_set := PySem.W.mg_none_of X G z_set
 have n_any := PySem.W.mg_none_of X G z_any
 have n_sum := PySem.W.mg_none_of X G z_sum
 have n_max := PySem.W.mg_none_of X G z_max
 have n_min := PySem.W.mg_none_of X G z_min
 have c_ChalkError := PySem.W.mg_of X G e_ChalkError
 have c_NoPlace := PySem.W.mg_of X G e_NoPlace
 have c_Same := PySem.W.mg_of X G e_Same
 have c_NoFloor := PySem.W.mg_of X G e_NoFloor
 have c_TooMany := PySem.W.mg_of X G e_TooMany
 have c_NoFrame := PySem.W.mg_of X G e_NoFrame
 have c_Unlike := PySem.W.mg_of X G e_Unlike
 have nv_Endless := PySem.W.mg_none_of X G v_Endless
 have nv_NoDeed := PySem.W.mg_none_of X G v_NoDeed
 have nv_NoText := PySem.W.mg_none_of X G v_NoText
 have nv_NoName := PySem.W.mg_none_of X G v_NoName
 have nv_NoChange := PySem.W.mg_none_of X G v_NoChange
 have nv_NoValue := PySem.W.mg_none_of X G v_NoValue
 have nv_NoRatio := PySem.W.mg_none_of X G v_NoRatio
 have nv_NoBow := PySem.W.mg_none_of X G v_NoBow
 have nv_NoRow := PySem.W.mg_none_of X G v_NoRow
 have x_NoPlace : zq7 K mg "NoPlace" C_NoPlace := zq7.mk' c_NoPlace ⟨by (obtain ⟨_, hc, _⟩ := PySem.W.kw_along xga_NoPlace; rw [hc]; rfl), xga_NoPlace, xgh_NoPlace, xbs_NoPlace, xob_NoPlace, xca_NoPlace, xcg, xct⟩ xvv_NoPlace (zwK (zba.of (b := true) c_ChalkError t_NoPlace_ChalkError (fun _ => u_NoPlace_ChalkError)) (zba.of (b := true) c_NoPlace t_NoPlace_NoPlace (fun _ => u_NoPlace_NoPlace)) (zba.of (b := false) c_Same t_NoPlace_Same (fun z => nomatch z)) (zba.of (b := false) c_NoFloor t_NoPlace_NoFloor (fun z => nomatch z)) (zba.no nv_Endless) (zba.no nv_NoDeed) (zba.no nv_NoText) (zba.no nv_NoName) (zba.of (b := false) c_TooMany t_NoPlace_TooMany (fun z => nomatch z)) (zba.no nv_NoChange) (zba.of (b := false) c_NoFrame t_NoPlace_NoFrame (fun z => nomatch z)) (zba.no nv_NoValue) (zba.of (b := false) c_Unlike t_NoPlace_Unlike (fun z => nomatch z)) (zba.no nv_NoRatio) (zba.no nv_NoBow) (zba.no nv_NoRow))
 refine ⟨PySem.W.fnOf "law" "law" (zam ziC) (zag ziC) (zab ziC) .none kV44 dc44 pm44 an44 cd44 ct44, fun s v => .of_eq rfl, fun base _ _ => ?_⟩
 have k_MOST_PEGS_is : ∃ u v, mg "MOST_PEGS" = some u ∧ zbC v u ∧ ∀ G, Rep K mg G zdP v := ⟨_, .int 12, PySem.W.mg_of X G q_MOST_PEGS, ⟨_, rfl⟩, fun _ => rfl⟩
 have G0 : zal l.prog w K mg base 1 "_law_cross" zbL := zjW (k := 0) F0 m0 b0
 have G1 : zal l.prog w K mg base 2 "_law_det" zb8 := zl0 (k := 1) F1 m1 b1 G0
 have G2 : zal l.prog w K mg base 3 "_law_general" zaO := zif (k := 2) F2 m2 b2 n_range G1
 have G3 : zal l.prog w K mg base 1 "_law_mix" zaB := zl1 (k := 0) F3 m3 b3
 have G4 : zal l.prog w K mg base 1 "_law_low" zbc := zl2 (k := 0) F4 m4 b4 n_abs n_tuple
 have G5 : zal l.prog w K mg base 2 "_law_spot" zaT := zlf (k := 1) F5 m5 b5 n_range G3 G4
 have G6 : zlQ l.prog w K mg base 4 "_law_four" zbu := zlg (k := 3) F6 m6 b6 n_range (G5.mono (by decide : 2 ≤ 3)) G2
 have G7 : zal l.prog w K mg base 2 "_law_on_two" zbU := zix (k := 1) F7 m7 b7 n_zip G4
 have G8 : zal l.prog w K mg base 5 "_law_floor" zbf := zjX (k := 4) F8 m8 b8 n_range n_len (G3.mono (by decide : 1 ≤ 4)) (G5.mono (by decide : 2 ≤ 4)) G6 (G7.mono (by decide : 2 ≤ 4))
 have G9 : zal l.prog w K mg base 1 "_law_low_nine" zaz := zg0 (k := 0) F9 m9 b9 n_abs n_tuple
 have G10 : zal l.prog w K mg base 3 "_law_nine" zch := zlh (k := 2) F10 m10 b10 n_range n_int (G3.mono (by decide : 1 ≤ 2)) G1 (G9.mono (by decide : 1 ≤ 2))
 have G11 : zal l.prog w K mg base 1 "is_whole" zcO := zl3 (k := 0) F11 m11 b11 n_isinstance n_int n_bool
 have G12 : zal l.prog w K mg base 2 "makes_place" zaU := ziy (k := 1) F12 m12 b12 n_all G11
 have G13 : zal l.prog w K mg base 1 "divisor" zbm := zod (k := 0) F13 m13 b13 n_abs
 have G14 : zal l.prog w K mg base 2 "in_form" zbn := zoe (k := 1) F14 m14 b14 G13
 have G15 : zal l.prog w K mg base 3 "is_place" zce := zl4 (k := 2) F15 m15 b15 n_isinstance n_tuple n_len G12 G14
 have G16 : zal l.prog w K mg base 4 "is_floor" zbt := zl5 (k := 3) F16 m16 b16 n_isinstance n_list n_len n_all n_set k_MOST_PEGS_is G15
 have G17 : zal l.prog w K mg base 5 "look_at" zbD := zof (k := 4) F17 m17 b17 G16
 have G18 : zal l.prog w K mg base 1 "cross" zcz := zsn (k := 0) F18 m18 b18
 have G19 : zal l.prog w K mg base 3 "between_two" zaS := ziz (k := 2) F19 m19 b19 G14 (G18.mono (by decide : 1 ≤ 2))
 have G20 : zal l.prog w K mg base 4 "through" zaF := zog (k := 3) F20 m20 b20 G19
 have G21 : zal l.prog w K mg base 1 "dot" zfD := zxh (k := 0) F21 m21 b21
 have G22 : zal l.prog w K mg base 2 "lies" zbb := zu2 (k := 1) F22 m22 b22 G21
 have G23 : zal l.prog w K mg base 5 "fourth_of" zbK := zli (k := 4) F23 m23 b23 n_range n_len n_any G20 (G22.mono (by decide : 2 ≤ 4))
 have G24 : zal l.prog w K mg base 6 "frame_of" zbe := zl6 (k := 5) F24 m24 b24 n_range n_len G17 (G20.mono (by decide : 4 ≤ 5)) (G22.mono (by decide : 2 ≤ 5)) G23
 have G25 : zal l.prog w K mg base 5 "on_one" za2 := zq0 (k := 4) F25 m25 b25 n_len n_all G20 (G22.mono (by decide : 2 ≤ 4))
 have G26 : zal l.prog w K mg base 6 "odd_three" zcg := zlk (k := 5) F26 m26 b26 n_range n_len G25
 have G27 : zal l.prog w K mg base 1 "columns_of" zaZ := zjY (k := 0) F27 m27 b27 n_range
 have G28 : zal l.prog w K mg base 1 "three_rows" zaK := zjZ (k := 0) F28 m28 b28
 have G29 : zal l.prog w K mg base 2 "lowest" zcp := zq1 (k := 1) F29 m29 b29 n_tuple G13
 have G30 : zal l.prog w K mg base 3 "both" ziX := zu3 (k := 2) F30 m30 b30 (G27.mono (by decide : 1 ≤ 2)) (G28.mono (by decide : 1 ≤ 2)) (G21.mono (by decide : 1 ≤ 2)) G29
 have G31 : zal l.prog w K mg base 2 "cofactors" zcf := zlm (k := 1) F31 m31 b31 G18
 have G32 : zal l.prog w K mg base 3 "undoing" zdx := zoi (k := 2) F32 m32 b32 (G27.mono (by decide : 1 ≤ 2)) G31 (G28.mono (by decide : 1 ≤ 2)) G29
 have G33 : zal l.prog w K mg base 2 "determinant" zaV := ziA (k := 1) F33 m33 b33 G21 G18
 have G34 : zal l.prog w K mg base 3 "spread" zdS := zq3 (k := 2) F34 m34 b34 n_range G33 G29
 have G35 : zal l.prog w K mg base 7 "is_four" zc3 := zoj (k := 6) F35 m35 b35 n_len (G16.mono (by decide : 4 ≤ 6)) G24
 have G36 : zal l.prog w K mg base 8 "between" zc4 := zok (k := 7) F36 m36 b36 G35 (G30.mono (by decide : 3 ≤ 7)) (G34.mono (by decide : 3 ≤ 7)) (G32.mono (by decide : 3 ≤ 7))
 have G37 : zal l.prog w K mg base 3 "place_of" zcP := zl7 (k := 2) F37 m37 b37 c_NoPlace y_NoPlace x_NoPlace G12 G14
 have G38 : zal l.prog w K mg base 4 "led_by" zeU := zq4 (k := 3) F38 m38 b38 G37 (G21.mono (by decide : 1 ≤ 3))
 have G39 : zal l.prog w K mg base 5 "led" zn3 := zxi (k := 4) F39 m39 b39 G38 (G28.mono (by decide : 1 ≤ 4))
 have G40 : zal l.prog w K mg base 9 "held" zgv := zu4 (k := 8) F40 m40 b40 n_len n_range (G17.mono (by decide : 5 ≤ 8)) (G24.mono (by decide : 6 ≤ 8)) (G26.mono (by decide : 6 ≤ 8)) G36 (G39.mono (by decide : 5 ≤ 8))
 have G41 : zal l.prog w K mg base 1 "_law_cell_at" zaW := zio (k := 0) F41 m41 b41 n_len
 have G42 : zal l.prog w K mg base 2 "_law_led" zc7 := zl8 (k := 1) F42 m42 b42 n_range n_sum G4
 have G43 : zal l.prog w K mg base 2 "_law_behind" zbT := ziB (k := 1) F43 m43 b43 n_range n_sum G9
 exact zwL (zxj (P := l.prog) (w := w) (base := base) (k := 9) F44 n_range n_max n_min n_len n_list n_isinstance n_tuple (G8.mono (by decide : 5 ≤ 9)) (G41.mono (by decide : 1 ≤ 9)) (G10.mono (by decide : 3 ≤ 9)) (G42.mono (by decide : 2 ≤ 9)) G40 (G43.mono (by decide : 2 ≤ 9)) (G9.mono (by decide : 1 ≤ 9))) hlaw
end Kx
noncomputable def PySem.W.Fast.tw16189071617564221088 := 0
noncomputable def PySem.W.Fast.tw3944148714229926946 := 0
noncomputable def PySem.W.Fast.tw2439698515330734277 := 0
noncomputable def PySem.W.Fast.tw12715004540139243014 := 0
noncomputable def PySem.W.Fast.tw16317362344107886888 := 0
noncomputable def PySem.W.Fast.tw16537237862689652424 := 0
noncomputable def PySem.W.Fast.tw4655395335950294570 := 0
noncomputable def PySem.W.Fast.tw2306445022497913068 := 0
noncomputable def PySem.W.Fast.tw10477664993983940621 := 0
noncomputable def PySem.W.Fast.tw5405165233904646958 := 0
noncomputable def PySem.W.Fast.tw14779963183021145618 := 0
noncomputable def PySem.W.Fast.tw6180514987033358138 := 0
noncomputable def PySem.W.Fast.tw9330562207061926778 := 0
noncomputable def PySem.W.Fast.tw9268924896284885435 := 0
noncomputable def PySem.W.Fast.tw16132836273191385723 := 0
noncomputable def PySem.W.Fast.tw4139810749919820956 := 0
noncomputable def PySem.W.Fast.tw13028181657175685662 := 0
noncomputable def PySem.W.Fast.tw9288106074356522401 := 0
noncomputable def PySem.W.Fast.tw3661346562939081345 := 0
noncomputable def PySem.W.Fast.tw14592536557367024291 := 0
noncomputable def PySem.W.Fast.tw2950181167046111879 := 0
noncomputable def PySem.W.Fast.tw4666293460067899880 := 0
noncomputable def PySem.W.Fast.tw244547360792665932 := 0
noncomputable def PySem.W.Fast.tw12308944648326690575 := 0
noncomputable def PySem.W.Fast.tw7405861337472840816 := 0
noncomputable def PySem.W.Fast.tw11286294861323305488 := 0
noncomputable def PySem.W.Fast.tw14539511527633143958 := 0
noncomputable def PySem.W.Fast.tw9702296233102005399 := 0
noncomputable def PySem.W.Fast.tw11957825965486853371 := 0
noncomputable def PySem.W.Fast.tw14680489341192176606 := 0
open PySem PySem.W PyProof.Rows
set_option maxRecDepth 100000 in
set_option maxHeartbeats 0 in
theorem PySem.Challenge.cw_chalkline_k65_changes_told_holds : PySem.Challenge.rw_chalkline_k65_changes_told.Holds := by
 w_on; o_law; k_head; (case hw => w_witness2)
 k_fill
 refine DL.walkD (l := PySem.Challenge.rw_chalkline_k65_changes_told) 10 ⟨rfl, by decide, by decide⟩ rfl rfl (fun w h Y => PySem.W.kIn_of Y) ?F
 case F =>
  intro w mg fa h KX G hmg
  refine' Kx.all_mk KX G hmg ?a0 ?l0 ?c0 ?k0 ?a1 ?l1 ?c1 ?k1 ?a2 ?l2 ?c2 ?k2 ?a3 ?l3 ?c3 ?k3 ?a4 ?l4 ?c4 ?k4 ?a5 ?l5 ?c5 ?k5 ?a6 ?l6 ?c6 ?k6 ?a7 ?l7 ?c7 ?k7 ?a8 ?l8 ?c8 ?k8 ?a9 ?l9 ?c9 ?k9 ?a10 ?l10 ?c10 ?k10 ?a11 ?l11 ?c11 ?k11 ?a12 ?l12 ?c12 ?k12 ?a13 ?l13 ?c13 ?k13 ?a14 ?l14 ?c14 ?k14 ?a15 ?l15 ?c15 ?k15 ?a16 ?l16 ?c16 ?k16 ?a17 ?l17 ?c17 ?k17 ?a18 ?l18 ?c18 ?k18 ?a19 ?l19 ?c19 ?k19 ?a20 ?l20 ?c20 ?k20 ?a21 ?l21 ?c21 ?k21 ?a22 ?l22 ?c22 ?k22 ?a23 ?l23 ?c23 ?k23 ?a24 ?l24 ?c24 ?k24 ?a25 ?l25 ?c25 ?k25 ?a26 ?l26 ?c26 ?k26 ?a27 ?l27 ?c27 ?k27 ?a28 ?l28 ?c28 ?k28 ?a29 ?l29 ?c29 ?k29 ?a30 ?l30 ?c30 ?k30 ?a31 ?l31 ?c31 ?k31 ?a32 ?l32 ?c32 ?k32 ?a33 ?l33 ?c33 ?k33 ?a34 ?l34 ?c34 ?k34 ?a35 ?l35 ?c35 ?k35 ?a36 ?l36 ?c36 ?k36 ?a37 ?l37 ?c37 ?k37 ?a38 ?l38 ?c38 ?k38 ?a39 ?l39 ?c39 ?k39 ?a40 ?l40 ?c40 ?k40 ?a41 ?l41 ?c41 ?k41 ?a42 ?l42 ?c42 ?k42 ?a43 ?l43 ?c43 ?k43 ?a44 ?l44 ?c44 ?k44 ?z_range ?z_abs ?z_tuple ?z_zip ?z_len ?z_int ?z_isinstance ?z_bool ?z_all ?z_list ?z_set ?z_any ?z_sum ?z_max ?z_min ?e_ChalkError ?e_NoPlace ?e_Same ?e_NoFloor ?e_TooMany ?e_NoFrame ?e_Unlike ?y_NoPlace ?xga_NoPlace ?xgh_NoPlace ?xbs_NoPlace ?xob_NoPlace ?xca_NoPlace ?xvv_NoPlace ?t_NoPlace_ChalkError ?u_NoPlace_ChalkError ?t_NoPlace_NoPlace ?u_NoPlace_NoPlace ?t_NoPlace_Same ?t_NoPlace_NoFloor ?v_Endless ?v_NoDeed ?v_NoText ?v_NoName ?t_NoPlace_TooMany ?v_NoChange ?t_NoPlace_NoFrame ?v_NoValue ?t_NoPlace_Unlike ?v_NoRatio ?v_NoBow ?v_NoRow ?xcg ?xct ?q_MOST_PEGS ?hlaw
  (case a0 => k_is)
  (case l0 => k_is)
  (case c0 => k_is)
  (case k0 => k_is)
  (case a1 => k_is)
  (case l1 => k_is)
  (case c1 => k_is)
  (case k1 => k_is)
  (case a2 => k_is)
  (case l2 => k_is)
  (case c2 => k_is)
  (case k2 => k_is)
  (case a3 => k_is)
  (case l3 => k_is)
  (case c3 => k_is)
  (case k3 => k_is)
  (case a4 => k_is)
  (case l4 => k_is)
  (case c4 => k_is)
  (case k4 => k_is)
  (case a5 => k_is)
  (case l5 => k_is)
  (case c5 => k_is)
  (case k5 => k_is)
  (case a6 => k_is)
  (case l6 => k_is)
  (case c6 => k_is)
  (case k6 => k_is)
  (case a7 => k_is)
  (case l7 => k_is)
  (case c7 => k_is)
  (case k7 => k_is)
  (case a8 => k_is)
  (case l8 => k_is)
  (case c8 => k_is)
  (case k8 => k_is)
  (case a9 => k_is)
  (case l9 => k_is)
  (case c9 => k_is)
  (case k9 => k_is)
  (case a10 => k_is)
  (case l10 => k_is)
  (case c10 => k_is)
  (case k10 => k_is)
  (case a11 => k_is)
  (case l11 => k_is)
  (case c11 => k_is)
  (case k11 => k_is)
  (case a12 => k_is)
  (case l12 => k_is)
  (case c12 => k_is)
  (case k12 => k_is)
  (case a13 => k_is)
  (case l13 => k_is)
  (case c13 => k_is)
  (case k13 => k_is)
  (case a14 => k_is)
  (case l14 => k_is)
  (case c14 => k_is)
  (case k14 => k_is)
  (case a15 => k_is)
  (case l15 => k_is)
  (case c15 => k_is)
  (case k15 => k_is)
  (case a16 => k_is)
  (case l16 => k_is)
  (case c16 => k_is)
  (case k16 => k_is)
  (case a17 => k_is)
  (case l17 => k_is)
  (case c17 => k_is)
  (case k17 => k_is)
  (case a18 => k_is)
  (case l18 => k_is)
  (case c18 => k_is)
  (case k18 => k_is)
  (case a19 => k_is)
  (case l19 => k_is)
  (case c19 => k_is)
  (case k19 => k_is)
  (case a20 => k_is)
  (case l20 => k_is)
  (case c20 => k_is)
  (case k20 => k_is)
  (case a21 => k_is)
  (case l21 => k_is)
  (case c21 => k_is)
  (case k21 => k_is)
  (case a22 => k_is)
  (case l22 => k_is)
  (case c22 => k_is)
  (case k22 => k_is)
  (case a23 => k_is)
  (case l23 => k_is)
  (case c23 => k_is)
  (case k23 => k_is)
  (case a24 => k_is)
  (case l24 => k_is)
  (case c24 => k_is)
  (case k24 => k_is)
  (case a25 => k_is)
  (case l25 => k_is)
  (case c25 => k_is)
  (case k25 => k_is)
  (case a26 => k_is)
  (case l26 => k_is)
  (case c26 => k_is)
  (case k26 => k_is)
  (case a27 => k_is)
  (case l27 => k_is)
  (case c27 => k_is)
  (case k27 => k_is)
  (case a28 => k_is)
  (case l28 => k_is)
  (case c28 => k_is)
  (case k28 => k_is)
  (case a29 => k_is)
  (case l29 => k_is)
  (case c29 => k_is)
  (case k29 => k_is)
  (case a30 => k_is)
  (case l30 => k_is)
  (case c30 => k_is)
  (case k30 => k_is)
  (case a31 => k_is)
  (case l31 => k_is)
  (case c31 => k_is)
  (case k31 => k_is)
  (case a32 => k_is)
  (case l32 => k_is)
  (case c32 => k_is)
  (case k32 => k_is)
  (case a33 => k_is)
  (case l33 => k_is)
  (case c33 => k_is)
  (case k33 => k_is)
  (case a34 => k_is)
  (case l34 => k_is)
  (case c34 => k_is)
  (case k34 => k_is)
  (case a35 => k_is)
  (case l35 => k_is)
  (case c35 => k_is)
  (case k35 => k_is)
  (case a36 => k_is)
  (case l36 => k_is)
  (case c36 => k_is)
  (case k36 => k_is)
  (case a37 => k_is)
  (case l37 => k_is)
  (case c37 => k_is)
  (case k37 => k_is)
  (case a38 => k_is)
  (case l38 => k_is)
  (case c38 => k_is)
  (case k38 => k_is)
  (case a39 => k_is)
  (case l39 => k_is)
  (case c39 => k_is)
  (case k39 => k_is)
  (case a40 => k_is)
  (case l40 => k_is)
  (case c40 => k_is)
  (case k40 => k_is)
  (case a41 => k_is)
  (case l41 => k_is)
  (case c41 => k_is)
  (case k41 => k_is)
  (case a42 => k_is)
  (case l42 => k_is)
  (case c42 => k_is)
  (case k42 => k_is)
  (case a43 => k_is)
  (case l43 => k_is)
  (case c43 => k_is)
  (case k43 => k_is)
  (case a44 => k_is)
  (case l44 => k_is)
  (case c44 => k_is)
  (case k44 => k_is)
  (case z_range => k_is)
  (case z_abs => k_is)
  (case z_tuple => k_is)
  (case z_zip => k_is)
  (case z_len => k_is)
  (case z_int => k_is)
  (case z_isinstance => k_is)
  (case z_bool => k_is)
  (case z_all => k_is)
  (case z_list => k_is)
  (case z_set => k_is)
  (case z_any => k_is)
  (case z_sum => k_is)
  (case z_max => k_is)
  (case z_min => k_is)
  (case e_ChalkError => k_is)
  (case e_NoPlace => k_is)
  (case e_Same => k_is)
  (case e_NoFloor => k_is)
  (case e_TooMany => k_is)
  (case e_NoFrame => k_is)
  (case e_Unlike => k_is)
  (case y_NoPlace => k_exc)
  (case xga_NoPlace => k_is)
  (case xgh_NoPlace => k_is)
  (case xbs_NoPlace => k_is)
  (case xob_NoPlace => k_is)
  (case xca_NoPlace => k_is)
  (case xvv_NoPlace => kit_is)
  (case t_NoPlace_ChalkError => kit_is)
  (case u_NoPlace_ChalkError => kts_exm)
  (case t_NoPlace_NoPlace => kit_is)
  (case u_NoPlace_NoPlace => kts_exm)
  (case t_NoPlace_Same => kit_is)
  (case t_NoPlace_NoFloor => kit_is)
  (case v_Endless => k_is)
  (case v_NoDeed => k_is)
  (case v_NoText => k_is)
  (case v_NoName => k_is)
  (case t_NoPlace_TooMany => kit_is)
  (case v_NoChange => k_is)
  (case t_NoPlace_NoFrame => kit_is)
  (case v_NoValue => k_is)
  (case t_NoPlace_Unlike => kit_is)
  (case v_NoRatio => k_is)
  (case v_NoBow => k_is)
  (case v_NoRow => k_is)
  (case xcg => k_is)
  (case xct => k_is)
  (case q_MOST_PEGS => k_is)
  (case hlaw => exact Lk65.law_ok)
end