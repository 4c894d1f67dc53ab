import PyProof.Rows.All
import Wide.All
import OpenK.AllK
import Wide.FinOn
import Lean
import PyProof.EqAt
import PyProof.EqKinds
import PyProof.TupleCall
import PyProof.NeKinds
import KE.KTryMore
import PyProof.NsDelKeeps
import PySem.SetTable
import PyProof.StrLawsChain
import PyProof.StrBlockL
import KE.KIntText
import PyProof.DictTable
import PyProof.SliceStr2
import PyProof.MeetsStr
import PyProof.StrWalks
import PyProof.TupleKey
import PyProof.SetKind
import PyProof.Rows.SetFrom
import PyProof.ZipIter
import PyProof.Rows.ZipGen
import PyProof.LayNew
import PyProof.ExcInit
import PyProof.ExcClass3
import PyProof.EnumFor
import PyProof.EnumMake
import PyProof.EnumStmt
import PyProof.Rows.StrNews
import PySem.Challenge.RW_chalkline_k11_what_is_a_floor
section
set_option Elab.async false
set_option linter.all false
set_option maxRecDepth 100000
namespace L2
open PySem PySem.Spec PyProof.Rows
abbrev Key := Sum Int Str
def zrP : Key → Value → Bool
 | .inl k, v => Value.isInt k v
 | .inr x, v => Value.isStrOf x v
def keyH (w : World) : Key → Int
 | .inl k => hashInt k
 | .inr x => hashStr w x
theorem za7 : ∀ {k : Key} {v : Value}, zrP k v = true → (∃ i t, k = Sum.inl i ∧ v = Value.int i t) ∨ (∃ x t, k = Sum.inr x ∧ v = Value.str x t)
 | .inl i, v, h => by
  obtain ⟨t, e⟩ := Value.isInt_shape (k := i) (v := v) h
  exact .inl ⟨i, t, rfl, e⟩
 | .inr x, v, h => by
  obtain ⟨t, e⟩ := Value.isStrOf_shape (x := x) (v := v) h
  exact .inr ⟨x, t, rfl, e⟩
theorem zrQ (a b : Int) : decide ((Sum.inl a : Key) = Sum.inl b) = (a == b) := by
 by_cases e : a = b
 ·subst e; simp
 ·have h : ¬ (Sum.inl a : Key) = Sum.inl b := fun q => e (Sum.inl.inj q)
  rw [decide_eq_false h]
  exact (beq_eq_false_iff_ne.mpr e).symm
theorem zrR (a b : Str) : decide ((Sum.inr a : Key) = Sum.inr b) = decide (a = b) := by
 by_cases e : a = b
 ·subst e; simp
 ·have h : ¬ (Sum.inr a : Key) = Sum.inr b := fun q => e (Sum.inr.inj q)
  rw [decide_eq_false h, decide_eq_false e]
theorem zrS (a : Int) (b : Str) : decide ((Sum.inl a : Key) = Sum.inr b) = false := decide_eq_false (fun q => nomatch q)
theorem zrT (a : Str) (b : Int) : decide ((Sum.inr a : Key) = Sum.inl b) = false := decide_eq_false (fun q => nomatch q)
def zlJ (prog : Program) (w : World) : PySem.KeyKind prog w Key where
 is := zrP
 hash := keyH w
 inj := fun v a b ha hb => by
  rcases za7 ha with ⟨i, t, rfl, rfl⟩ | ⟨x, t, rfl, rfl⟩
  ·rcases za7 hb with ⟨j, u, rfl, e⟩ | ⟨y, u, rfl, e⟩
   ·injection e with e1 _; rw [e1]
   ·exact nomatch e
  ·rcases za7 hb with ⟨j, u, rfl, e⟩ | ⟨y, u, rfl, e⟩
   ·exact nomatch e
   ·injection e with e1 _; rw [e1]
 byValue := fun k v h => by
  rcases za7 h with ⟨i, t, rfl, rfl⟩ | ⟨x, t, rfl, rfl⟩ <;> rfl
 pyHash := fun hv h => by
  rcases za7 hv with ⟨i, t, rfl, rfl⟩ | ⟨x, t, rfl, rfl⟩
  ·exact wpAny_pyHash_int h
  ·exact wpAny_pyHash_str h
 eqBool := fun hu hv h => by
  rcases za7 hu with ⟨i, t, rfl, rfl⟩ | ⟨x, t, rfl, rfl⟩
  ·rcases za7 hv with ⟨j, u, rfl, rfl⟩ | ⟨y, u, rfl, rfl⟩
   ·rw [zrQ] at h; exact wpAny_eqBool_int h
   ·rw [zrS] at h; exact SeqAt.EqAt.int_str i t y u _ _ _ _ h
  ·rcases za7 hv with ⟨j, u, rfl, rfl⟩ | ⟨y, u, rfl, rfl⟩
   ·rw [zrT] at h; exact SeqAt.EqAt.str_int x t j u _ _ _ _ h
   ·rw [zrR] at h; exact wpAny_eqBool_str h
 «strs» := fun k x t v h => by
  rcases za7 h with ⟨i, u, rfl, e⟩ | ⟨y, u, rfl, e⟩
  ·exact nomatch e
  ·injection e with e1 _
   subst e1
   cases v <;> rfl
end L2
namespace L2
open PySem PySem.Spec PyProof.Rows
inductive V where
 | non | bl (b : Bool) | int (i : Int) | str (x : Str) | byt (b : Array UInt8) | flt (b : UInt64) | ref (a : Addr) | ty (n : String)
 deriving DecidableEq
def zbz : V → Value → Prop
 | .non, u => u = Value.none
 | .bl b, u => u = Value.bool b
 | .int i, u => ∃ t, u = Value.int i t
 | .str x, u => ∃ t, u = Value.str x t
 | .byt b, u => ∃ t, u = Value.bytes b t
 | .flt b, u => ∃ t, u = Value.float b t
 | .ref a, u => u = Value.ref a
 | .ty n, u => u = Value.type n
abbrev zbt : List V → List Value → Prop := Paired zbz
theorem zbt.length {xs : List V} {us : List Value} (r : zbt xs us) : xs.length = us.length := Paired.length r
theorem zbt.get : ∀ {xs : List V} {us : List Value} {i : Nat} {x : V}, zbt xs us → xs[i]? = some x → ∃ u, us[i]? = some u ∧ zbz x u
 | _, _, _, _, .nil, e => by simp at e
 | _, _, 0, _, .cons r _, e => by simp at e; subst e; exact ⟨_, rfl, r⟩
 | _, _, i + 1, x, .cons _ t, e => by
  obtain ⟨u, h1, h2⟩ := zbt.get (i := i) (x := x) t (by simpa using e)
  exact ⟨u, by simpa using h1, h2⟩
theorem zbt.set {x : V} {u : Value} (r : zbz x u) : ∀ {xs : List V} {us : List Value} (i : Nat), zbt xs us → zbt (xs.set i x) (us.set i u)
 | _, _, _, .nil => .nil
 | _, _, 0, .cons _ t => .cons r t
 | _, _, i + 1, .cons q t => .cons q (zbt.set r i t)
theorem zbt.append : ∀ {xs ys : List V} {us ws : List Value}, zbt xs us → zbt ys ws → zbt (xs ++ ys) (us ++ ws)
 | _, _, _, _, .nil, s => s
 | _, _, _, _, .cons r t, s => .cons r (zbt.append t s)
theorem zbt.take : ∀ {xs : List V} {us : List Value} (n : Nat), zbt xs us → zbt (xs.take n) (us.take n)
 | _, _, 0, _ => .nil
 | _, _, _ + 1, .nil => .nil
 | _, _, n + 1, .cons r t => .cons r (zbt.take n t)
theorem zbt.drop : ∀ {xs : List V} {us : List Value} (n : Nat), zbt xs us → zbt (xs.drop n) (us.drop n)
 | _, _, 0, r => r
 | _, _, _ + 1, .nil => .nil
 | _, _, n + 1, .cons _ t => zbt.drop n t
def RelO : Option V → Option Value → Prop
 | some v, some u => zbz v u
 | none, none => True
 | _, _ => False
def KV {κ : Type} : List (κ × V) → List (κ × Value) → Prop := Paired fun (p : κ × V) (q : κ × Value) => p.1 = q.1 ∧ zbz p.2 q.2
def kV : Key → V
 | .inl i => .int i
 | .inr x => .str x
inductive HO where
 | lst (xs : List V)
 | tup (xs : List V)
 | dK (kvs : List (Key × V)) | dT (kvs : List (List Key × V))
 | set (S : Int → Bool) (n : Nat)
 | ins (C dx : Addr) (fs : List (Str × V))
 | own (x : Addr)
 | xd (fs : List (Str × V))
 | met (f x : Addr)
 | rng (lo hi : Int)
 | frz (o : Obj) (u : HO)
 | tbl (ps : Array Value)
 | ext (φ : Heap → Prop)
abbrev Hp := Addr → Option HO
def upd (H : Hp) (a : Addr) (o : HO) : Hp := fun b => if b = a then some o else H b
theorem zau {H : Hp} {a : Addr} {o : HO} : upd H a o a = some o := by unfold upd; rw [if_pos rfl]
theorem zax {H : Hp} {a b : Addr} {o : HO} (h : b ≠ a) : upd H a o b = H b := by unfold upd; rw [if_neg h]
theorem zan {H : Hp} {a b : Addr} {o : HO} (h : H a = some o) (h' : H b = none) : a ≠ b := by
 intro e; subst e; rw [h] at h'; cases h'
section
variable (P : Program) (w : World)
def zc6 (H : Hp) (h : Heap) (a : Addr) : HO → Prop
 | .lst xs => xs.length ≤ sizeLine ∧ ∃ (its : List Value) (n : Nat), zbt xs its ∧ h.get? a = some { cls := .type "list", data := .seq its.toArray n }
 | .tup xs => xs.length ≤ sizeLine ∧ ∃ its : List Value, zbt xs its ∧ IsTup h a its.toArray
 | .dK kvs => kvs.length ≤ sizeLine ∧ (a == sysModules) = false ∧ ∃ vs, KV kvs vs ∧ h.DictOf (zlJ P w) a vs
 | .dT kvs => kvs.length ≤ sizeLine ∧ (a == sysModules) = false ∧ ∃ xs : List (List Key × Addr × Value),
   Paired (fun (p : List Key × V) (q : List Key × Addr × Value) => p.1 = q.1 ∧ H q.2.1 = some (.tup (p.1.map kV)) ∧ zbz p.2 q.2.2) kvs xs ∧
   ∃ o es ep, h.get? a = some o ∧ o.ExactDict ∧ o.data = .dict es ep ∧ es.toList = xs.map (entryOfKey (tupleKind (zlJ P w))) ∧ (xs.map (·.1)).Nodup
 | .set S n => h.SetOf (intKind P w) a S n
 | .ins C dx fs => H dx = some (.own a) ∧ fs.length ≤ 1000 ∧ dx ≠ a ∧ h.get? a = some (PySem.W.instObj C dx) ∧
   ∃ mA, h.Ns1 dx mA ∧ (∀ f, RelO (fs.lookup f) (mA f)) ∧ PySem.Within mA (fs.map (·.1))
 | .own _ => ∃ o, h.get? a = some o
 | .xd fs => ∃ mA, h.Ns1 a mA ∧ ∀ f, RelO (fs.lookup f) (mA f)
 | .rng lo hi => ∃ t u v, h.get? a = some { cls := .type "range", data := .fields #[.int lo t, .int hi u, .int 1 v] }
 | .frz o u => h.get? a = some o ∧ zc6 H h a u
 | .tbl ps => h.get? a = some { cls := .none, data := .fields ps }
 | .met f x => h.get? a = some (PySem.W.methodObj (.ref f) (.ref x))
 | .ext φ => φ h ∧ (∃ o, h.get? a = some o) ∧ ∀ h1 h2 : Heap, φ h1 → (∀ o, h1.get? a = some o → h2.get? a = some o) → φ h2
def HOk (H : Hp) (h : Heap) : Prop := ∀ a o, H a = some o → zc6 P w H h a o
end
section
variable {P : Program} {w : World} {H H' : Hp} {h h' : Heap} {a : Addr} {o : HO}
theorem zc6.lt (x : zc6 P w H h a o) : a < h.objs.size := by
 cases o with
 | lst xs => obtain ⟨_, _, _, _, e⟩ := x; exact Heap.lt_size e
 | tup xs => obtain ⟨_, _, _, p⟩ := x; exact p.lt
 | dK kvs => obtain ⟨_, _, _, _, o, _, _, e, _⟩ := x; exact Heap.lt_size e
 | dT kvs => obtain ⟨_, _, _, _, o, _, _, e, _⟩ := x; exact Heap.lt_size e
 | set S n => obtain ⟨o, _, _, _, e, _⟩ := x; exact Heap.lt_size e
 | ins C dx fs => obtain ⟨_, _, _, e, _⟩ := x; exact Heap.lt_size e
 | own y => obtain ⟨_, e⟩ := x; exact Heap.lt_size e
 | xd fs => obtain ⟨_, ⟨_, _, _, e, _⟩, _⟩ := x; exact Heap.lt_size e
 | rng lo hi => obtain ⟨_, _, _, e⟩ := x; exact Heap.lt_size e
 | frz ob u => obtain ⟨e, _⟩ := x; exact Heap.lt_size e
 | tbl ps => exact Heap.lt_size (show h.get? a = some _ from x)
 | met f y => exact Heap.lt_size (show h.get? a = some _ from x)
 | ext φ => obtain ⟨_, ⟨_, e⟩, _⟩ := x; exact Heap.lt_size e
theorem Paired.mapP {α β : Type} {F G : α → β → Prop} : ∀ {l₁ : List α} {l₂ : List β}, Paired F l₁ l₂ → (∀ a b, F a b → G a b) → Paired G l₁ l₂
 | _, _, .nil, _ => .nil
 | _, _, .cons r t, f => .cons (f _ _ r) (Paired.mapP t f)
theorem zc6.stay (x : zc6 P w H h a o) (k : ∀ b u, (b = a ∨ H b = some (.own a)) → h.get? b = some u → h'.get? b = some u)
  (ho : ∀ b, H b = some (.own a) → H' b = some (.own a)) (ht : ∀ b xs, H b = some (.tup xs) → H' b = some (.tup xs)) : zc6 P w H' h' a o := by
 induction o with
 | lst xs => obtain ⟨z, its, n, r, e⟩ := x; exact ⟨z, its, n, r, k _ _ (.inl rfl) e⟩
 | tup xs => obtain ⟨z, its, r, ob, e, c⟩ := x; exact ⟨z, its, r, ob, k _ _ (.inl rfl) e, c⟩
 | dK kvs => obtain ⟨z, y, vs, r, ob, es, ep, e, c⟩ := x; exact ⟨z, y, vs, r, ob, es, ep, k _ _ (.inl rfl) e, c⟩
 | dT kvs =>
  obtain ⟨z, y, xs, r, ob, es, ep, e, c⟩ := x
  exact ⟨z, y, xs, Paired.mapP r fun p q z => ⟨z.1, ht _ _ z.2.1, z.2.2⟩, ob, es, ep, k _ _ (.inl rfl) e, c⟩
 | set S n => obtain ⟨ob, es, ep, t, e, c⟩ := x; exact ⟨ob, es, ep, t, k _ _ (.inl rfl) e, c⟩
 | ins C dx fs =>
  obtain ⟨d, z, ne, e, mA, ⟨od, es, ep, e2, c⟩, r⟩ := x
  exact ⟨ho _ d, z, ne, k _ _ (.inl rfl) e, mA, ⟨od, es, ep, k _ _ (.inr d) e2, c⟩, r⟩
 | own y => obtain ⟨ob, e⟩ := x; exact ⟨ob, k _ _ (.inl rfl) e⟩
 | xd fs => obtain ⟨mA, ⟨od, es, ep, e, c⟩, r⟩ := x; exact ⟨mA, ⟨od, es, ep, k _ _ (.inl rfl) e, c⟩, r⟩
 | rng lo hi => obtain ⟨t, u, v, e⟩ := x; exact ⟨t, u, v, k _ _ (.inl rfl) e⟩
 | frz ob u ih => obtain ⟨e, q⟩ := x; exact ⟨k _ _ (.inl rfl) e, ih q⟩
 | tbl ps =>
  have e : h.get? a = some { cls := .none, data := .fields ps } := x
  show h'.get? a = some { cls := .none, data := .fields ps }
  exact k a _ (.inl rfl) e
 | met f y =>
  have e : h.get? a = some (PySem.W.methodObj (.ref f) (.ref y)) := x
  show h'.get? a = some (PySem.W.methodObj (.ref f) (.ref y))
  exact k a _ (.inl rfl) e
 | ext φ => obtain ⟨p, ⟨o, e⟩, st⟩ := x; exact ⟨st _ _ p fun o q => k _ _ (.inl rfl) q, ⟨o, k _ _ (.inl rfl) e⟩, st⟩
theorem HOk.lt (x : HOk P w H h) (e : H a = some o) : a < h.objs.size := (x a o e).lt
theorem HOk.fresh (x : HOk P w H h) (e : h.objs.size ≤ a) : H a = none := by
 cases q : H a with
 | none => rfl
 | some u => exact absurd (Nat.lt_of_lt_of_le (x.lt q) e) (Nat.lt_irrefl _)
theorem HOk.kept (x : HOk P w H h) (k : ∀ b u, h.get? b = some u → h'.get? b = some u) : HOk P w H h' := fun a o e =>
 (x a o e).stay (fun b u _ q => k b u q) (fun _ q => q) fun _ _ q => q
theorem HOk.laid (x : HOk P w H h) (k : ∀ b u, h.get? b = some u → h'.get? b = some u) (hp : h.objs.size ≤ a) (new : zc6 P w (upd H a o) h' a o) : HOk P w (upd H a o) h' := fun b u e => by
 have hn := x.fresh hp
 by_cases hb : b = a
 ·subst hb; rw [zau] at e; cases e; exact new
 ·rw [zax hb] at e
  exact (x b u e).stay (fun c v _ q => k c v q) (fun c q => by rw [zax (zan q hn)]; exact q) fun c xs q => by rw [zax (zan q hn)]; exact q
end
def Rd (H : Hp) (a : Addr) (u : HO) : Prop := H a = some u ∨ ∃ o, H a = some (.frz o u)
theorem Rd.ok {P : Program} {w : World} {H : Hp} {h : Heap} {a : Addr} {u : HO} (r : Rd H a u) (x : HOk P w H h) : zc6 P w H h a u := by
 rcases r with r | ⟨o, r⟩
 ·exact x a u r
 ·obtain ⟨_, q⟩ := x a _ r
  exact q
def Mut : Option HO → Prop
 | some (.lst _) => True
 | some (.dK _) => True
 | some (.dT _) => True
 | some (.set _ _) => True
 | some (.ins _ _ _) => True
 | some (.ext _) => True
 | _ => False
section
variable {P : Program} {w : World} {H : Hp} {h h' : Heap} {x e : Addr} {o' : HO}
theorem HOk.write (ok : HOk P w H h) (mu : Mut (H x)) (he : e = x ∨ H e = some (.own x)) (k : ∀ b u, b ≠ e → h.get? b = some u → h'.get? b = some u) (heo : ∃ u, h'.get? e = some u)
  (new : zc6 P w (upd H x o') h' x o') : HOk P w (upd H x o') h' := fun b u q => by
 have nown : ∀ c y, H c = some (.own y) → c ≠ x := fun c y r z => by subst z; rw [r] at mu; exact mu
 have ntup : ∀ c xs, H c = some (.tup xs) → c ≠ x := fun c xs r z => by subst z; rw [r] at mu; exact mu
 by_cases hb : b = x
 ·subst hb; rw [zau] at q; cases q; exact new
 ·rw [zax hb] at q
  by_cases hbe : b = e
  ·have q' : H b = some (.own x) := by
    rcases he with z | z
    ·exact absurd (hbe.trans z) hb
    ·rw [hbe]; exact z
   rw [q] at q'; cases q'
   obtain ⟨v, hv⟩ := heo
   exact ⟨v, by rw [hbe]; exact hv⟩
  ·refine (ok b u q).stay (fun c v hc r => k c v ?_ r) (fun c r => by rw [zax (nown c b r)]; exact r) fun c xs r => by rw [zax (ntup c xs r)]; exact r
   rcases hc with rfl | hc
   ·exact hbe
   ·rintro rfl
    rcases he with z | z
    ·exact nown c b hc z
    ·rw [hc] at z; cases z; exact hb rfl
end
structure Un (fs ex : List Addr) (H H' : Hp) (h h' : Heap) : Prop where
 keep : ∀ b o, h.get? b = some o → H b = none → b ∉ fs → b ∉ ex → h'.get? b = some o
 slot : ∀ b o, h.get? b = some o → H b = none → b ∈ fs → b ∉ ex → ∃ sl, h'.get? b = some { o with slots := sl }
 free : ∀ b o, h.get? b = some o → H b = none → b ∉ ex → H' b = none
 there : ∀ b o, h.get? b = some o → b ∉ ex → ∃ o', h'.get? b = some o'
 tups : ∀ b xs, H b = some (.tup xs) → H' b = some (.tup xs)
 frzs : ∀ b o u, H b = some (.frz o u) → H' b = some (.frz o u)
 tbls : ∀ b ps, H b = some (.tbl ps) → ∃ more, H' b = some (.tbl (ps ++ more))
section
variable {fs fs' ex ex' : List Addr} {H H1 H2 : Hp} {h h1 h2 h' : Heap} {a x e : Addr} {o : HO}
theorem Un.any (u : Un fs ex H H1 h h1) {b : Addr} {ob : Obj} (q : h.get? b = some ob) (n : H b = none) (hx : b ∉ ex) : ∃ sl, h1.get? b = some { ob with slots := sl } := by
 by_cases hb : b ∈ fs
 ·exact u.slot b ob q n hb hx
 ·exact ⟨ob.slots, u.keep b ob q n hb hx⟩
theorem Un.kept (k : ∀ b u, h.get? b = some u → h'.get? b = some u) : Un fs ex H H h h' :=
 ⟨fun b ob q _ _ _ => k b ob q, fun b ob q _ _ _ => ⟨ob.slots, k b ob q⟩, fun _ _ _ n _ => n, fun b ob q _ => ⟨ob, k b ob q⟩, fun _ _ q => q, fun _ _ _ q => q, fun _ ps q => ⟨#[], by rw [q]; simp⟩⟩
theorem Un.refl : Un fs ex H H h h := Un.kept fun _ _ q => q
theorem Un.laid (k : ∀ b u, h.get? b = some u → h'.get? b = some u) (hp : h.objs.size ≤ a) (hn : H a = none) : Un fs ex H (upd H a o) h h' where
 keep := fun b u q _ _ _ => k b u q
 slot := fun b u q _ _ _ => ⟨u.slots, k b u q⟩
 free := fun b u q n _ => by rw [zax (Nat.ne_of_lt (Nat.lt_of_lt_of_le (Heap.lt_size q) hp))]; exact n
 there := fun b u q _ => ⟨u, k b u q⟩
 tups := fun b xs q => by rw [zax (zan q hn)]; exact q
 frzs := fun b u xs q => by rw [zax (zan q hn)]; exact q
 tbls := fun b ps q => ⟨#[], by rw [zax (zan q hn), q]; simp⟩
theorem Un.write (mu : Mut (H x)) (he : e = x ∨ H e = some (.own x)) (k : ∀ b u, b ≠ e → h.get? b = some u → h'.get? b = some u) (heo : ∃ u, h'.get? e = some u) : Un fs ex H (upd H x o) h h' := by
 have hx : ∀ b, H b = none → b ≠ x := fun b n z => by subst z; rw [n] at mu; exact mu
 have hb : ∀ b, H b = none → b ≠ e := fun b n z => by
  subst z
  rcases he with r | r
  ·exact hx b n r
  ·rw [n] at r; cases r
 have hm : ∀ b u, H b = some u → ¬ Mut (some u) → b ≠ x := fun b u q nm z => by subst z; rw [q] at mu; exact nm mu
 refine ⟨fun b u q n _ _ => k b u (hb b n) q, fun b u q n _ _ => ⟨u.slots, k b u (hb b n) q⟩, fun b u q n _ => by rw [zax (hx b n)]; exact n, fun b u q _ => ?_,
  fun b xs q => by rw [zax (hm b _ q fun z => z)]; exact q, fun b u xs q => by rw [zax (hm b _ q fun z => z)]; exact q, fun b ps q => ⟨#[], by rw [zax (hm b _ q fun z => z), q]; simp⟩⟩
 by_cases hbe : b = e
 ·subst hbe; exact heo
 ·exact ⟨u, k b u hbe q⟩
end
def trk (h : Heap) (H : Hp) : List Addr := (List.range h.objs.size).filter fun a => (H a).isSome
def zn6 (h : Heap) (H : Hp) : Heap := PySem.W.hideAll h (trk h H)
theorem zlK (h : Heap) (H : Hp) : (zn6 h H).objs.size = h.objs.size := PySem.W.hideAll_size _ _
theorem zn7 {h : Heap} {H : Hp} {b : Addr} {o : Obj} (e : h.get? b = some o) (n : H b = none) : (zn6 h H).get? b = some o :=
 PySem.W.hideAll_get _ e fun hm => by
  have q : (H b).isSome = true := (List.mem_filter.mp hm).2
  rw [n] at q; simp at q
theorem zqp {h : Heap} {H : Hp} {b : Addr} {o : Obj} (e : (zn6 h H).get? b = some o) : h.get? b = some o ∧ H b = none := by
 have e' : h.get? b = some o := PySem.W.of_hideAll (trk h H) e
 refine ⟨e', ?_⟩
 cases q : H b with
 | none => rfl
 | some x =>
  have hm : b ∈ trk h H := List.mem_filter.mpr ⟨List.mem_range.mpr (Heap.lt_size e'), by simp [q]⟩
  have z : (zn6 h H).get? b = none := PySem.W.hideAll_none (trk h H) hm
  rw [z] at e; cases e
def zqq (g h : Heap) (L : Addr) : List (Addr × Obj) := (List.range h.objs.size).filterMap fun a => if a = L ∨ (g.get? a).isSome = true then none else (h.get? a).map fun o => (a, o)
def za4 (g h : Heap) (L d : Addr) : List (Addr × Obj) := (zqq g h L).filter fun p => decide (p.1 ≠ d)
end L2
namespace L2
open PySem PySem.Spec PyProof.Rows
structure Mod (K : PySem.W.Frag) (mg : Str → Option Value) (base : Heap) : Prop where
 kin : K.In base
 glob : base.Ns mainGlobals mg
 blt : ∃ mb, base.Ns builtinsNs mb ∧ ∀ x : Str, x ≠ "__name__" → mb x = bootBuiltins x
 nolimit : base.NoLimit
structure Cx where
 prog : Program
 w : World
 K : PySem.W.Frag
 mg : Str → Option Value
 base : Heap
 A : Around
 N : List Str
 s₀ : Shared
 H₀ : Hp
 env : Env
 outer : List Env
 stack : List Env
 ex : List Addr
 fn : Str → Bool
 calm : Bool
 pn : List (Addr × Obj)
 xe : Value → Shared → Prop
def frs (l : List Env) : List Addr := l.filterMap (·.frame)
abbrev Cx.fs (X : Cx) : List Addr := frs X.outer
def Vis (sc : Scope) (x : Str) : Prop := sc.names.lookup x = some .local ∨ sc.names.lookup x = some .cell ∨ sc.names.lookup x = some .free
def Loc (sc : Scope) (x : Str) : Prop := sc.names.lookup x = some .local ∨ sc.names.lookup x = some .cell
def Look (env : Env) (h : Heap) (m : Str → Option Value) (x : Str) (u : Value) : Prop :=
 (env.kindOf x = some .local ∧ m x = some u) ∨ ((env.kindOf x = some .cell ∨ env.kindOf x = some .free) ∧ ∃ c, env.cells.lookup x = some c ∧ h.IsCell c (some u))
structure Cx.Ok (X : Cx) : Prop where
 mod : Mod X.K X.mg X.base
 kind : X.env.scope.kind = .function
 glob : X.env.globals = mainGlobals
 blt : X.env.builtins = builtinsNs
 above : X.s₀.heap.objs.size ≤ X.env.locals
 inj : ∀ x y c, X.env.cells.lookup x = some c → X.env.cells.lookup y = some c → x = y
 has : ∀ x, (X.env.kindOf x = some .cell ∨ X.env.kindOf x = some .free) → ∃ c, X.env.cells.lookup x = some c
 cab : ∀ x c, X.fn x = true → X.env.cells.lookup x = some c → X.s₀.heap.objs.size ≤ c
 hd : X.calm = true → X.A.handled = none
 frames : X.A.frames = some X.stack
 stk : X.stack = X.outer ∨ (X.stack = X.env :: X.outer ∧ X.env.frame = some X.env.locals)
 exf : ∀ b ∈ X.ex, b ≠ X.env.locals ∧ ∀ x c, X.env.cells.lookup x = some c → c ≠ b
 bs : ∀ b o, X.base.get? b = some o → X.s₀.heap.get? b = some o ∧ X.H₀ b = none
 bsz : X.base.objs.size ≤ X.s₀.heap.objs.size
 noex : ∀ b o, X.base.get? b = some o → b ∉ X.ex
 exfs : ∀ b ∈ X.ex, b ∉ X.fs
 funs : X.s₀.heap.FunFrames X.base X.outer
 frf : ∀ b ∈ X.fs, X.H₀ b = none
structure Inv (X : Cx) (pins : List (Addr × Obj)) (σ : List (Option V)) (H : Hp) (s : Shared) : Prop where
 ok : X.Ok
 os : s.os = X.s₀.os
 bare : AllBare s.gens
 base : Un X.fs X.ex X.H₀ H X.s₀.heap s.heap
 loc : ∃ m, s.heap.Ns X.env.locals m ∧ ∀ (i : Nat) (x : Str) (v : V), X.N[i]? = some x → σ[i]? = some (some v) → Vis X.env.scope x → ∃ u, zbz v u ∧ Look X.env s.heap m x u
 cell : ∀ x c, X.env.cells.lookup x = some c → ∃ v, s.heap.IsCell c v
 free : H X.env.locals = none
 freeC : ∀ x c, X.env.cells.lookup x = some c → H c = none
 pin : ∀ p ∈ X.pn ++ pins, s.heap.get? p.1 = some p.2 ∧ H p.1 = none ∧ p.1 ≠ X.env.locals ∧ p.1 ∉ X.fs ∧ ∀ v, p.2.data ≠ .cell v
 hok : HOk X.prog X.w H s.heap
 len : σ.length = X.N.length
section
variable {X : Cx} {pins : List (Addr × Obj)} {σ : List (Option V)} {H H' : Hp} {s : Shared} {h' : Heap}
theorem Cx.Ok.nofr (ok : X.Ok) {b : Addr} {o : Obj} (e : X.base.get? b = some o) : b ∉ X.fs := fun hb => by
 have := (ok.funs.mem hb).1
 rw [e] at this; cases this
theorem Inv.bs (I : Inv X pins σ H s) : ∀ b o, X.base.get? b = some o → s.heap.get? b = some o ∧ H b = none := fun b o e =>
 ⟨I.base.keep b o (I.ok.bs b o e).1 (I.ok.bs b o e).2 (I.ok.nofr e) (I.ok.noex b o e), I.base.free b o (I.ok.bs b o e).1 (I.ok.bs b o e).2 (I.ok.noex b o e)⟩
theorem Inv.bk (I : Inv X pins σ H s) : ∀ b o, X.base.get? b = some o → s.heap.get? b = some o := fun b o e => (I.bs b o e).1
theorem Inv.mod (I : Inv X pins σ H s) : Mod X.K X.mg X.base := I.ok.mod
theorem Inv.kIn (I : Inv X pins σ H s) : X.K.In s.heap := I.ok.mod.kin.keeps I.bk
theorem Inv.fr (I : Inv X pins σ H s) : ∃ m, Fr X.base X.env.locals s.heap m :=
 let ⟨m, hn, _⟩ := I.loc
 ⟨m, hn, I.bk, Nat.le_trans I.ok.bsz I.ok.above⟩
theorem Inv.lt (I : Inv X pins σ H s) : X.env.locals < s.heap.objs.size := let ⟨_, hn, _⟩ := I.loc; hn.lt
theorem Inv.sz (I : Inv X pins σ H s) : X.s₀.heap.objs.size ≤ s.heap.objs.size := Nat.le_trans I.ok.above (Nat.le_of_lt I.lt)
theorem Inv.nofs (I : Inv X pins σ H s) {a : Addr} (h : s.heap.objs.size ≤ a) : a ∉ X.fs := fun hb => by
 obtain ⟨_, o, ho, _⟩ := I.ok.funs.mem hb
 exact absurd (Nat.lt_of_lt_of_le (Heap.lt_size ho) (Nat.le_trans I.sz h)) (Nat.lt_irrefl _)
theorem Inv.cne (I : Inv X pins σ H s) : ∀ x c, X.env.cells.lookup x = some c → c ≠ X.env.locals := fun x c e z => by
 obtain ⟨v, o, ho, hd⟩ := I.cell x c e
 obtain ⟨m, ⟨o', es, ep, ho', hd', _⟩, _⟩ := I.loc
 rw [z, ho'] at ho; cases ho; rw [hd'] at hd; cases hd
theorem Inv.funs (I : Inv X pins σ H s) : s.heap.FunFrames X.base X.outer := by
 have all : ∀ (l : List Env), (∀ b ∈ frs l, b ∈ X.fs) → X.s₀.heap.FunFrames X.base l → s.heap.FunFrames X.base l := by
  intro l
  induction l with
  | nil => intro _ _; trivial
  | cons env r ih =>
   intro hs hl
   obtain ⟨hk, ⟨L, o, hf, hn, ho, hd⟩, hr⟩ := hl
   have hL : L ∈ X.fs := hs L (by unfold frs; rw [List.filterMap_cons, hf]; exact List.mem_cons_self)
   obtain ⟨sl, e⟩ := I.base.slot L o ho (I.ok.frf L hL) hL fun z => I.ok.exfs L z hL
   exact ⟨hk, ⟨L, _, hf, hn, e, hd⟩, ih (fun b hb => hs b (by unfold frs; rw [List.filterMap_cons, hf]; exact List.mem_cons_of_mem _ hb)) hr⟩
 exact all X.outer (fun _ hb => hb) I.ok.funs
theorem Inv.stack (I : Inv X pins σ H s) : s.heap.FunFrames X.base X.stack := by
 rcases I.ok.stk with e | ⟨e, hf⟩
 ·rw [e]; exact I.funs
 ·rw [e]
  obtain ⟨m, hn, _⟩ := I.loc
  refine .cons (by rw [I.ok.kind]; decide) hf hn ?_ I.funs
  exact Heap.get?_none_of_le (Nat.le_trans I.ok.bsz I.ok.above)
theorem Inv.stkSub (I : Inv X pins σ H s) : ∀ b ∈ frs X.stack, b ∈ X.env.locals :: X.fs := fun b hb => by
 rcases I.ok.stk with e | ⟨e, hf⟩
 ·rw [e] at hb; exact List.mem_cons_of_mem _ hb
 ·rw [e] at hb
  unfold frs at hb
  rw [List.filterMap_cons, hf] at hb
  exact hb
theorem Inv.stkFree (I : Inv X pins σ H s) : ∀ b ∈ frs X.stack, H b = none := fun b hb => by
 rcases List.mem_cons.mp (I.stkSub b hb) with e | hb
 ·rw [e]; exact I.free
 ·obtain ⟨_, o, ho, _⟩ := I.ok.funs.mem hb
  exact I.base.free b o ho (I.ok.frf b hb) fun z => I.ok.exfs b z hb
theorem Inv.step {g' : Array GenState} {t' : Nat} {d' : Drawn} {ch : List Addr} (I : Inv X pins σ H s)
  (hch : ∀ b ∈ ch, (b ∈ X.ex ∨ X.s₀.heap.objs.size ≤ b) ∧ b ≠ X.env.locals ∧ (∀ x c, X.env.cells.lookup x = some c → c ≠ b) ∧ ∀ p ∈ X.pn ++ pins, p.1 ≠ b)
  (keep : ∀ b o, b ≠ X.env.locals → b ∉ X.fs → b ∉ ch → s.heap.get? b = some o → H b = none → h'.get? b = some o)
  (slot : ∀ b o, b ≠ X.env.locals → b ∈ X.fs → b ∉ ch → s.heap.get? b = some o → H b = none → ∃ sl, h'.get? b = some { o with slots := sl }) (free : ∀ b o, b ∉ ch → s.heap.get? b = some o → H b = none → H' b = none)
  (there : ∀ b o, b ∉ ch → s.heap.get? b = some o → ∃ o', h'.get? b = some o')
  (tups : ∀ b xs, H b = some (.tup xs) → H' b = some (.tup xs)) (frzs : ∀ b o u, H b = some (.frz o u) → H' b = some (.frz o u)) (tbls : ∀ b ps, H b = some (.tbl ps) → ∃ more, H' b = some (.tbl (ps ++ more)))
  (ns : ∀ m, s.heap.Ns X.env.locals m → h'.Ns X.env.locals m) (hok : HOk X.prog X.w H' h') (hg : AllBare g') :
  Inv X pins σ H' { s with heap := h', gens := g', drawn := d', toks := t' } := by
 have neL : ∀ b o, X.s₀.heap.get? b = some o → b ≠ X.env.locals := fun b o e => Nat.ne_of_lt (Nat.lt_of_lt_of_le (Heap.lt_size e) I.ok.above)
 have neC : ∀ b o, X.s₀.heap.get? b = some o → b ∉ X.ex → b ∉ ch := fun b o e hx hb => by
  rcases (hch b hb).1 with z | z
  ·exact hx z
  ·exact absurd (Nat.lt_of_lt_of_le (Heap.lt_size e) z) (Nat.lt_irrefl _)
 have cellK : ∀ x c, X.env.cells.lookup x = some c → ∀ v, s.heap.IsCell c v → h'.IsCell c v := fun x c e v ⟨o, ho, hd⟩ => by
  have nch : c ∉ ch := fun z => (hch c z).2.2.1 x c e rfl
  by_cases hc : c ∈ X.fs
  ·obtain ⟨sl, q⟩ := slot c o (I.cne x c e) hc nch ho (I.freeC x c e)
   exact ⟨_, q, hd⟩
  ·exact ⟨o, keep c o (I.cne x c e) hc nch ho (I.freeC x c e), hd⟩
 refine ⟨I.ok, I.os, hg, ⟨fun b o e n hb hx => ?_, fun b o e n hb hx => ?_, fun b o e n hx => ?_, fun b o e hx => ?_, fun b xs e => tups b xs (I.base.tups b xs e), fun b o xs e => frzs b o xs (I.base.frzs b o xs e), fun b ps e => ?_⟩, ?_, fun x c e => ?_, ?_, fun x c e => ?_, fun p hp => ?_, hok, I.len⟩
 ·exact keep b o (neL b o e) hb (neC b o e hx) (I.base.keep b o e n hb hx) (I.base.free b o e n hx)
 ·obtain ⟨sl, e1⟩ := I.base.slot b o e n hb hx
  obtain ⟨sl', e2⟩ := slot b _ (neL b o e) hb (neC b o e hx) e1 (I.base.free b o e n hx)
  exact ⟨sl', e2⟩
 ·obtain ⟨o', e1⟩ := I.base.there b o e hx
  exact free b o' (neC b o e hx) e1 (I.base.free b o e n hx)
 ·obtain ⟨o', e1⟩ := I.base.there b o e hx
  exact there b o' (neC b o e hx) e1
 ·obtain ⟨m1, e1⟩ := I.base.tbls b ps e
  obtain ⟨m2, e2⟩ := tbls b _ e1
  exact ⟨m1 ++ m2, by rw [e2, Array.append_assoc]⟩
 ·obtain ⟨m, hn, hl⟩ := I.loc
  refine ⟨m, ns m hn, fun i x v e1 e2 e3 => ?_⟩
  obtain ⟨u, r, l⟩ := hl i x v e1 e2 e3
  refine ⟨u, r, ?_⟩
  rcases l with l | ⟨k, c, e, z⟩
  ·exact .inl l
  ·exact .inr ⟨k, c, e, cellK x c e _ z⟩
 ·obtain ⟨v, z⟩ := I.cell x c e
  exact ⟨v, cellK x c e v z⟩
 ·obtain ⟨m, ⟨o, _, _, ho, _⟩, _⟩ := I.loc
  exact free _ o (fun z => (hch _ z).2.1 rfl) ho I.free
 ·obtain ⟨v, o, ho, hd⟩ := I.cell x c e
  exact free c o (fun z => (hch c z).2.2.1 x c e rfl) ho (I.freeC x c e)
 ·obtain ⟨e, n, ne, nf, d⟩ := I.pin p hp
  have nch : p.1 ∉ ch := fun z => (hch p.1 z).2.2.2 p hp rfl
  exact ⟨keep p.1 p.2 ne nf nch e n, free p.1 p.2 nch e n, ne, nf, d⟩
theorem Inv.un {t' : Nat} (I : Inv X pins σ H s) (u : Un X.fs [] H H' s.heap h') (hok : HOk X.prog X.w H' h') : Inv X pins σ H' { s with heap := h', toks := t' } := by
 obtain ⟨m, ⟨o, es, ep, ho, r⟩, _⟩ := id I.loc
 obtain ⟨sl, hL⟩ := u.any ho I.free (by simp)
 exact I.step (g' := s.gens) (d' := s.drawn) (ch := []) (fun _ z => nomatch z) (fun b o _ hb _ e n => u.keep b o e n hb (by simp)) (fun b o _ hb _ e n => u.slot b o e n hb (by simp)) (fun b o _ e n => u.free b o e n (by simp)) (fun b o _ e => u.there b o e (by simp)) u.tups u.frzs u.tbls (fun m' hm => by
  obtain ⟨o', es', ep', ho', r'⟩ := hm
  rw [ho] at ho'; cases ho'
  exact ⟨_, es', ep', hL, r'⟩) hok I.bare
theorem Inv.call {g' : Array GenState} {t' : Nat} {d' : Drawn} {ch : List Addr} (I : Inv X pins σ H s) (u : Un (frs X.stack) ch H H' s.heap h') (hok : HOk X.prog X.w H' h') (hg : AllBare g')
  (hch : ∀ b ∈ ch, (b ∈ X.ex ∨ X.s₀.heap.objs.size ≤ b) ∧ b ≠ X.env.locals ∧ (∀ x c, X.env.cells.lookup x = some c → c ≠ b) ∧ ∀ p ∈ X.pn ++ pins, p.1 ≠ b) :
  Inv X pins σ H' { s with heap := h', gens := g', drawn := d', toks := t' } := by
 obtain ⟨m, ⟨o, es, ep, ho, r⟩, _⟩ := id I.loc
 obtain ⟨sl, hL⟩ := u.any ho I.free fun z => (hch _ z).2.1 rfl
 exact I.step (ch := ch) hch (fun b o hL hb hc e n => u.keep b o e n (fun z => (List.mem_cons.mp (I.stkSub b z)).elim hL hb) hc) (fun b o _ _ hc e n => u.any e n hc) (fun b o hc e n => u.free b o e n hc) (fun b o hc e => u.there b o e hc) u.tups u.frzs u.tbls (fun m' hm => by
  obtain ⟨o', es', ep', ho', r'⟩ := hm
  rw [ho] at ho'; cases ho'
  exact ⟨_, es', ep', hL, r'⟩) hok hg
theorem Inv.turned {t' : Nat} {it : Addr} (I : Inv X pins σ H s) (k : ∀ b o, b ≠ it → s.heap.get? b = some o → h'.get? b = some o) (hn : H it = none) (hL : it ≠ X.env.locals)
  (h1 : it ∈ X.ex ∨ X.s₀.heap.objs.size ≤ it) (h2 : ∀ x c, X.env.cells.lookup x = some c → c ≠ it) (h3 : ∀ p ∈ X.pn ++ pins, p.1 ≠ it) : Inv X pins σ H { s with heap := h', toks := t' } := by
 have nit : ∀ b u, H b = some u → b ≠ it := fun b u e z => by rw [z, hn] at e; cases e
 refine I.step (g' := s.gens) (d' := s.drawn) (ch := [it]) (fun b hb => ?_) (fun b o _ _ hc e _ => k b o (fun z => hc (by simp [z])) e) (fun b o _ _ hc e _ => ⟨o.slots, k b o (fun z => hc (by simp [z])) e⟩) (fun _ _ _ _ n => n)
  (fun b o hc e => ⟨o, k b o (fun z => hc (by simp [z])) e⟩) (fun _ _ e => e) (fun _ _ _ e => e) (fun b ps e => ⟨#[], by rw [e]; simp⟩) (fun m hm => ?_) (fun b u e => ?_) I.bare
 ·have e : b = it := by simpa using hb
  subst e
  exact ⟨h1, hL, h2, h3⟩
 ·obtain ⟨o, es, ep, ho, r⟩ := hm
  exact ⟨o, es, ep, k _ o (Ne.symm hL) ho, r⟩
 ·refine (I.hok b u e).stay (fun c v hc q => k c v ?_ q) (fun _ q => q) fun _ _ q => q
  rcases hc with z | z
  ·rw [z]; exact nit b u e
  ·exact nit c _ z
theorem Inv.tok (I : Inv X pins σ H s) (t : Nat) : Inv X pins σ H { s with toks := t } := I.un (h' := s.heap) (t' := t) Un.refl I.hok
theorem Inv.kept {t' : Nat} (I : Inv X pins σ H s) (k : ∀ b u, s.heap.get? b = some u → h'.get? b = some u) : Inv X pins σ H { s with heap := h', toks := t' } := I.un (Un.kept k) (I.hok.kept k)
theorem Inv.laid {a : Addr} {o : HO} {t' : Nat} (I : Inv X pins σ H s) (k : ∀ b u, s.heap.get? b = some u → h'.get? b = some u) (hp : s.heap.objs.size ≤ a) (new : zc6 X.prog X.w (upd H a o) h' a o) :
  Inv X pins σ (upd H a o) { s with heap := h', toks := t' } := I.un (Un.laid k hp (I.hok.fresh hp)) (I.hok.laid k hp new)
theorem Inv.write {x e : Addr} {o : HO} {t' : Nat} (I : Inv X pins σ H s) (mu : Mut (H x)) (he : e = x ∨ H e = some (.own x)) (k : ∀ b u, b ≠ e → s.heap.get? b = some u → h'.get? b = some u) (heo : ∃ u, h'.get? e = some u)
  (new : zc6 X.prog X.w (upd H x o) h' x o) : Inv X pins σ (upd H x o) { s with heap := h', toks := t' } := I.un (Un.write mu he k heo) (I.hok.write mu he k heo new)
theorem Inv.weak {σ' : List (Option V)} (I : Inv X pins σ H s) (hl : σ'.length = σ.length) (w : ∀ (i : Nat) v, σ'[i]? = some (some v) → σ[i]? = some (some v)) : Inv X pins σ' H s :=
 ⟨I.ok, I.os, I.bare, I.base, let ⟨m, hn, hl'⟩ := I.loc; ⟨m, hn, fun i x v e1 e2 e3 => hl' i x v e1 (w i v e2) e3⟩, I.cell, I.free, I.freeC, I.pin, I.hok, hl.trans I.len⟩
theorem Inv.pins_of {pins' : List (Addr × Obj)} (I : Inv X pins σ H s) (h : ∀ p ∈ pins', s.heap.get? p.1 = some p.2 ∧ H p.1 = none ∧ p.1 ≠ X.env.locals ∧ p.1 ∉ X.fs ∧ ∀ v, p.2.data ≠ .cell v) : Inv X pins' σ H s :=
 ⟨I.ok, I.os, I.bare, I.base, I.loc, I.cell, I.free, I.freeC, fun p hp => (List.mem_append.mp hp).elim (fun z => I.pin p (List.mem_append_left _ z)) (h p), I.hok, I.len⟩
theorem zho {N : List Str} (hN : N.Nodup) {i j : Nat} {x : Str} (a : N[i]? = some x) (b : N[j]? = some x) : i = j := by
 obtain ⟨h1, e1⟩ := List.getElem?_eq_some_iff.mp a
 obtain ⟨h2, e2⟩ := List.getElem?_eq_some_iff.mp b
 exact (List.getElem_inj hN).mp (e1.trans e2.symm)
theorem zlL {M : Model} {A : Around} {E : Value → Shared → Prop} {i : Nat} {x : Str} {v : V} {u : Value} {Q : Unit → Shared → Prop} (I : Inv X pins σ H s) (hN : X.N.Nodup) (hi : X.N[i]? = some x) (hx : Loc X.env.scope x) (r : zbz v u)
  (h : ∀ s', Inv X pins (σ.set i (some v)) H s' → (∃ a, Heap.SameBut a s.heap s'.heap ∧ (a = X.env.locals ∨ X.env.cells.lookup x = some a)) → Q () s') (hf : X.fn x = true ∨ X.env.scope.names.lookup x = some .local := by first | exact .inl rfl | exact .inr rfl | assumption) : wpAny M A (storeName X.env x u) Q E s := by
 obtain ⟨m, hn, hl⟩ := id I.loc
 have hcls : (X.env.scope.kind == .class || (X.env.scope.kind == .module && X.env.locals != X.env.globals)) = false := by rw [I.ok.kind]; rfl
 have hiσ : i < σ.length := by rw [I.len]; exact (List.getElem?_eq_some_iff.mp hi).1
 have cne := I.cne
 have tracked : ∀ {a : Addr} {h' : Heap}, (∃ o, s.heap.get? a = some o ∧ H a = none) → Heap.SameBut a s.heap h' → HOk X.prog X.w H h' := fun {a h'} ha hs b ob e => by
  obtain ⟨_, _, hfree⟩ := ha
  refine (I.hok b ob e).stay (fun c w' hc q => (hs.2 c ?_).trans q) (fun _ q => q) fun _ _ q => q
  rintro rfl
  rcases hc with rfl | hc
  ·rw [hfree] at e; cases e
  ·rw [hfree] at hc; cases hc
 rcases hx with hk | hk
 ·refine wpAny_storeName_local hk hn (fun h' hn' hs => ?_) hcls
  obtain ⟨oL, _, _, hoL, _⟩ := id hn
  refine h _ ⟨I.ok, I.os, I.bare, ⟨fun b o e n hb hx => ?_, fun b o e n hb hx => ?_, I.base.free, fun b o e hx => ?_, I.base.tups, I.base.frzs, I.base.tbls⟩, ⟨_, hn', fun j y v' e1 e2 e3 => ?_⟩, fun y c e => ?_, I.free, I.freeC, fun p hp => ?_, tracked ⟨oL, hoL, I.free⟩ hs, by simpa using I.len⟩ ⟨_, hs, .inl rfl⟩
  ·exact (hs.2 b (Nat.ne_of_lt (Nat.lt_of_lt_of_le (Heap.lt_size e) I.ok.above))).trans (I.base.keep b o e n hb hx)
  ·obtain ⟨sl, e1⟩ := I.base.slot b o e n hb hx
   exact ⟨sl, (hs.2 b (Nat.ne_of_lt (Nat.lt_of_lt_of_le (Heap.lt_size e) I.ok.above))).trans e1⟩
  ·obtain ⟨o', e1⟩ := I.base.there b o e hx
   exact ⟨o', (hs.2 b (Nat.ne_of_lt (Nat.lt_of_lt_of_le (Heap.lt_size e) I.ok.above))).trans e1⟩
  ·by_cases hj : j = i
   ·subst hj
    rw [hi] at e1; cases e1
    rw [List.getElem?_set_self hiσ] at e2
    cases e2
    exact ⟨u, r, .inl ⟨hk, by simp⟩⟩
   ·rw [List.getElem?_set_ne (Ne.symm hj)] at e2
    obtain ⟨u', r', q⟩ := hl j y v' e1 e2 e3
    refine ⟨u', r', ?_⟩
    rcases q with ⟨k, e⟩ | ⟨k, c, e, z⟩
    ·refine .inl ⟨k, ?_⟩
     have : y ≠ x := fun e => hj (zho hN e1 (e ▸ hi))
     simp [this, e]
    ·exact .inr ⟨k, c, e, z.sameBut hs (cne y c e)⟩
  ·obtain ⟨w', z⟩ := I.cell y c e
   exact ⟨w', z.sameBut hs (cne y c e)⟩
  ·obtain ⟨e, n, ne, nf, d⟩ := I.pin p hp
   exact ⟨(hs.2 p.1 ne).trans e, n, ne, nf, d⟩
 ·have hfn : X.fn x = true := by
   rcases hf with z | z
   ·exact z
   ·rw [z] at hk; cases hk
  obtain ⟨c, hc⟩ := I.ok.has x (.inl hk)
  obtain ⟨w', z⟩ := I.cell x c hc
  refine wpAny_storeName_cell I.ok.kind hk hc z (fun h' hc' hs => ?_)
  obtain ⟨oc, hoc, hocd⟩ := id z
  refine h { s with heap := h' } ⟨I.ok, I.os, I.bare, ⟨fun b o e n hb hx => ?_, fun b o e n hb hx => ?_, I.base.free, fun b o e hx => ?_, I.base.tups, I.base.frzs, I.base.tbls⟩, ⟨m, hn.sameBut hs (Ne.symm (cne x c hc)), fun j y v' e1 e2 e3 => ?_⟩, fun y c' e => ?_, I.free, I.freeC, fun p hp => ?_, tracked ⟨oc, hoc, I.freeC x c hc⟩ hs, by simpa using I.len⟩ ⟨c, hs, .inr hc⟩
  ·exact (hs.2 b (Nat.ne_of_lt (Nat.lt_of_lt_of_le (Heap.lt_size e) (I.ok.cab x c hfn hc)))).trans (I.base.keep b o e n hb hx)
  ·obtain ⟨sl, e1⟩ := I.base.slot b o e n hb hx
   exact ⟨sl, (hs.2 b (Nat.ne_of_lt (Nat.lt_of_lt_of_le (Heap.lt_size e) (I.ok.cab x c hfn hc)))).trans e1⟩
  ·obtain ⟨o', e1⟩ := I.base.there b o e hx
   exact ⟨o', (hs.2 b (Nat.ne_of_lt (Nat.lt_of_lt_of_le (Heap.lt_size e) (I.ok.cab x c hfn hc)))).trans e1⟩
  ·by_cases hj : j = i
   ·subst hj
    rw [hi] at e1; cases e1
    rw [List.getElem?_set_self hiσ] at e2
    cases e2
    exact ⟨u, r, .inr ⟨.inl hk, c, hc, hc'⟩⟩
   ·rw [List.getElem?_set_ne (Ne.symm hj)] at e2
    obtain ⟨u', r', q⟩ := hl j y v' e1 e2 e3
    refine ⟨u', r', ?_⟩
    rcases q with q | ⟨k, c', e, z'⟩
    ·exact .inl q
    ·refine .inr ⟨k, c', e, z'.sameBut hs ?_⟩
     rintro rfl
     exact hj (zho hN e1 (I.ok.inj _ _ _ e hc ▸ hi))
  ·by_cases hcc : c' = c
   ·subst hcc; exact ⟨_, hc'⟩
   ·obtain ⟨w2, z2⟩ := I.cell y c' e
    exact ⟨w2, z2.sameBut hs hcc⟩
  ·obtain ⟨e, n, ne, nf, d⟩ := I.pin p hp
   refine ⟨(hs.2 p.1 ?_).trans e, n, ne, nf, d⟩
   intro q
   rw [q, hoc] at e
   have q' : oc = p.2 := Option.some.inj e
   exact d w' (by rw [← q']; exact hocd)
theorem zfv {M : Model} {A : Around} {E : Value → Shared → Prop} {i : Nat} {x : Str} {v : V} {u : Value} {Q : Unit → Shared → Prop} (I : Inv X pins σ H s) (hN : X.N.Nodup) (hi : X.N[i]? = some x) (hx : Loc X.env.scope x) (r : zbz v u)
  (h : ∀ s', Inv X pins (σ.set i (some v)) H s' → Q () s') (hf : X.fn x = true ∨ X.env.scope.names.lookup x = some .local := by first | exact .inl rfl | exact .inr rfl | assumption) : wpAny M A (storeName X.env x u) Q E s :=
 zlL I hN hi hx r (fun s' I' _ => h s' I') hf
theorem Inv.call' {s' : Shared} {ch : List Addr} (I : Inv X pins σ H s) (ho : s'.os = s.os) (u : Un (frs X.stack) ch H H' s.heap s'.heap) (hok : HOk X.prog X.w H' s'.heap) (hg : AllBare s'.gens)
  (hch : ∀ b ∈ ch, (b ∈ X.ex ∨ X.s₀.heap.objs.size ≤ b) ∧ b ≠ X.env.locals ∧ (∀ x c, X.env.cells.lookup x = some c → c ≠ b) ∧ ∀ p ∈ X.pn ++ pins, p.1 ≠ b) : Inv X pins σ H' s' := by
 obtain ⟨h', g', d', t', o'⟩ := s'
 have e : o' = s.os := ho
 subst e
 exact I.call (g' := g') (t' := t') (d' := d') u hok hg hch
end
abbrev XK := Value → Option Addr → Hp → Prop
abbrev St := List (Option V)
abbrev VK := V → Hp → Prop
abbrev TE := St → Hp → VK → Prop
abbrev TT := St → Hp → (Bool → Hp → Prop) → Prop
abbrev TA := St → Hp → (List V → Hp → Prop) → Prop
structure zlM where
 nx : St → Hp → Prop
 rt : VK
 bk : St → Hp → Prop := fun _ _ => False
 ct : St → Hp → Prop := fun _ _ => False
abbrev TS := zlM → St → Hp → Prop
def EP (X : Cx) (pins : List (Addr × Obj)) (σ : St) (Q : VK) (u : Value) (s' : Shared) : Prop := ∃ v H', Inv X pins σ H' s' ∧ zbz v u ∧ Q v H'
def TP (X : Cx) (pins : List (Addr × Obj)) (σ : St) (Q : Bool → Hp → Prop) (b : Bool) (s' : Shared) : Prop := ∃ H', Inv X pins σ H' s' ∧ Q b H'
def AP (X : Cx) (pins : List (Addr × Obj)) (σ : St) (Q : List V → Hp → Prop) (us : List Value) (s' : Shared) : Prop := ∃ vs H', Inv X pins σ H' s' ∧ zbt vs us ∧ Q vs H'
def SP (X : Cx) (pins : List (Addr × Obj)) (D : zlM) (f : Flow) (s' : Shared) : Prop :=
 match f with
 | .next => ∃ σ' H', Inv X pins σ' H' s' ∧ D.nx σ' H'
 | .brk => ∃ σ' H', Inv X pins σ' H' s' ∧ D.bk σ' H'
 | .cont => ∃ σ' H', Inv X pins σ' H' s' ∧ D.ct σ' H'
 | .ret u => ∃ v σ' H', Inv X pins σ' H' s' ∧ zbz v u ∧ D.rt v H'
def PE (X : Cx) (e : Expr) (t : TE) : Prop :=
 ∀ (pins : List (Addr × Obj)) (s : Shared) (σ : St) (H : Hp) (Q : VK), Inv X pins σ H s → t σ H Q → wpAny (model X.prog X.w) X.A (eval e X.env) (EP X pins σ Q) X.xe s
def PT (X : Cx) (e : Expr) (t : TT) : Prop :=
 ∀ (pins : List (Addr × Obj)) (s : Shared) (σ : St) (H : Hp) (Q : Bool → Hp → Prop), Inv X pins σ H s → t σ H Q → wpAny (model X.prog X.w) X.A (isTrue e X.env (eval e X.env)) (TP X pins σ Q) X.xe s
def PW (X : Cx) (e : Expr) (t : TT) : Prop :=
 ∀ (whole : Sem Value) (pins : List (Addr × Obj)) (s : Shared) (σ : St) (H : Hp) (Q : Bool → Hp → Prop), Inv X pins σ H s → t σ H Q → wpAny (model X.prog X.w) X.A (isTrue e X.env whole) (TP X pins σ Q) X.xe s
def PA (X : Cx) (es : List Expr) (t : TA) : Prop :=
 ∀ (pos : Pos) (pins : List (Addr × Obj)) (s : Shared) (σ : St) (H : Hp) (Q : List V → Hp → Prop), Inv X pins σ H s → t σ H Q → wpAny (model X.prog X.w) X.A (spliced (backTo pos (starEach es X.env))) (AP X pins σ Q) X.xe s
def PS (X : Cx) (st : Stmt) (t : TS) : Prop :=
 ∀ (pins : List (Addr × Obj)) (s : Shared) (σ : St) (H : Hp) (D : zlM), Inv X pins σ H s → t D σ H → wpAny (model X.prog X.w) X.A (exec st X.env) (SP X pins D) X.xe s
def PSs (X : Cx) (st : List Stmt) (t : TS) : Prop :=
 ∀ (pins : List (Addr × Obj)) (s : Shared) (σ : St) (H : Hp) (D : zlM), Inv X pins σ H s → t D σ H → wpAny (model X.prog X.w) X.A (execs st X.env) (SP X pins D) X.xe s
theorem thn {α : Type} {t : Sem α} {Q Q' : α → Shared → Prop} {M : Model} {A : Around} {E : Value → Shared → Prop} {s : Shared} (h : wpAny M A t Q E s) (hQ : ∀ a s, Q a s → Q' a s) : wpAny M A t Q' E s := wpAny_mono h hQ fun _ _ x => x
end L2
namespace L2
open PySem PySem.Spec PyProof.Rows
section
variable {X : Cx}
theorem bin {a b : Expr} {ta tb : TE} (ha : PE X a ta) (hb : PE X b tb) {pins : List (Addr × Obj)} {s : Shared} {σ : St} {H : Hp} {R : V → V → Hp → Prop} (I : Inv X pins σ H s) (h : ta σ H fun x H1 => tb σ H1 fun y H2 => R x y H2)
  {α : Type} {Q : α → Shared → Prop} {f : Value → Value → Sem α}
  (hf : ∀ v u s2 x y H2, Inv X pins σ H2 s2 → zbz x v → zbz y u → R x y H2 → wpAny (model X.prog X.w) X.A (f v u) Q X.xe s2) :
  wpAny (model X.prog X.w) X.A (eval a X.env) (fun v s₁ => wpAny (model X.prog X.w) X.A (eval b X.env) (fun u s₂ => wpAny (model X.prog X.w) X.A (f v u) Q X.xe s₂) X.xe s₁) X.xe s := by
 refine thn (ha pins s σ H _ I h) fun v s1 ⟨x, H1, I1, r1, q1⟩ => ?_
 refine thn (hb pins s1 σ H1 _ I1 q1) fun u s2 ⟨y, H2, I2, r2, q2⟩ => ?_
 exact hf v u s2 x y H2 I2 r1 r2 q2
def ztI (i : Nat) : TE := fun σ H Q => ∃ v, σ[i]? = some (some v) ∧ Q v H
def tC (v : V) : TE := fun _ H Q => Q v H
theorem zrU {i : Nat} {x : Str} {pos : Pos} (hN : X.N[i]? = some x) (hv : Vis X.env.scope x) (hd : (x == ("__debug__" : Str)) = false := by decide) (hcd : (x == ("__classdict__" : Str)) = false := by decide) : PE X (.Name x pos) (ztI i) := by
 intro pins s σ H Q I h
 obtain ⟨v, e, h⟩ := h
 obtain ⟨m, hn, hl⟩ := I.loc
 obtain ⟨u, r, l⟩ := hl i x v hN e hv
 have fin : EP X pins σ Q u s := ⟨v, H, I, r, h⟩
 rcases l with ⟨hk, hm⟩ | ⟨hk, c, hc, hcell⟩
 ·exact wpAny_Name (wpAny_loadName_local I.ok.kind hk hn hm fin) hd
 ·rcases hk with hk | hk
  ·exact wpAny_Name (wpAny_loadName_cell I.ok.kind hk hc hcell fin) hd
  ·exact wpAny_Name (wpAny_loadName_free I.ok.kind hk hc hcell fin hcd) hd
theorem zrV {i j pos} : PE X (.Constant (.int i) j pos) (tC (.int i)) := fun _ _ _ H _ I h => wpAny_Constant_int ⟨.int i, H, I.tok _, ⟨_, rfl⟩, h⟩
theorem ztJ {b j pos} : PE X (.Constant (.bool b) j pos) (tC (.bl b)) := fun _ _ _ H _ I h => Constant_bool ⟨.bl b, H, I, rfl, h⟩
theorem zrW {j pos} : PE X (.Constant .none j pos) (tC .non) := fun _ _ _ H _ I h => Constant_none ⟨.non, H, I, rfl, h⟩
theorem zrX {x j pos} : PE X (.Constant (.str x) j pos) (tC (.str x)) := fun _ _ _ H _ I h => Calls.Constant_str ⟨.str x, H, I.tok _, ⟨_, rfl⟩, h⟩
def Gl (X : Cx) (x : Str) : Prop := X.env.kindOf x = some .globalImplicit
theorem zhp {E : Value → Shared → Prop} {pins : List (Addr × Obj)} {s : Shared} {σ : St} {H : Hp} {x : Str} {u : Value} {pos : Pos} {Q : Value → Shared → Prop} (I : Inv X pins σ H s) (hg : Gl X x) (hm : X.mg x = some u) (h : Q u s)
  (hd : (x == ("__debug__" : Str)) = false := by decide) : wpAny (model X.prog X.w) X.A (eval (.Name x pos) X.env) Q E s :=
 Calls.Name_function_global I.ok.kind hg (Calls.loadGlobal_global (by rw [I.ok.glob]; exact I.mod.glob.keeps I.bk) hm h) hd
theorem zgS {E : Value → Shared → Prop} {pins : List (Addr × Obj)} {s : Shared} {σ : St} {H : Hp} {x : Str} {u : Value} {pos : Pos} {Q : Value → Shared → Prop} (I : Inv X pins σ H s) (hg : Gl X x) (hm : X.mg x = none) (hv : bootBuiltins x = some u) (h : Q u s)
  (hn : x ≠ "__name__" := by decide) (hd : (x == ("__debug__" : Str)) = false := by decide) : wpAny (model X.prog X.w) X.A (eval (.Name x pos) X.env) Q E s := by
 obtain ⟨mb, h1, h2⟩ := I.mod.blt
 exact Calls.Name_function_global I.ok.kind hg (Calls.loadGlobal_builtin (by rw [I.ok.glob]; exact I.mod.glob.keeps I.bk) hm (by rw [I.ok.blt]; exact h1.keeps I.bk) ((h2 x hn).trans hv) h) hd
theorem zqr {x : Str} {v : V} {u : Value} {pos : Pos} (hg : Gl X x) (hm : X.mg x = some u) (r : zbz v u) (hd : (x == ("__debug__" : Str)) = false := by decide) : PE X (.Name x pos) (tC v) :=
 fun _ _ _ H _ I h => zhp I hg hm ⟨v, H, I, r, h⟩ hd
theorem zqs {x : Str} {v : V} {u : Value} {pos : Pos} (hg : Gl X x) (hm : X.mg x = none) (hv : bootBuiltins x = some u) (r : zbz v u) (hn : x ≠ "__name__" := by decide) (hd : (x == ("__debug__" : Str)) = false := by decide) : PE X (.Name x pos) (tC v) :=
 fun _ _ _ H _ I h => zgS I hg hm hv ⟨v, H, I, r, h⟩ hn hd
variable {a b : Expr} {ta tb : TE} {pos : Pos}
def PC (X : Cx) (op : CmpOp) (a b : Expr) (t : TE) : Prop :=
 ∀ (pins : List (Addr × Obj)) (s : Shared) (σ : St) (H : Hp) (Q : VK), Inv X pins σ H s → t σ H Q →
  wpAny (model X.prog X.w) X.A (eval a X.env) (fun v s₁ => wpAny (model X.prog X.w) X.A (eval b X.env) (fun u s₂ => wpAny (model X.prog X.w) X.A (compareOp op v u) (EP X pins σ Q) X.xe s₂) X.xe s₁) X.xe s
theorem zak (b : Expr) {op : CmpOp} (h : op ≠ .In) (h2 : op ≠ .NotIn) : behindInMarks op b = false := by
 have e1 : (op == CmpOp.In) = false := by cases op <;> first | rfl | exact absurd rfl h
 have e2 : (op == CmpOp.NotIn) = false := by cases op <;> first | rfl | exact absurd rfl h2
 cases b <;> simp [behindInMarks, e1, e2]
def tB (t : TE) : TT := fun σ H Q => t σ H fun x H1 => ∃ c, x = .bl c ∧ Q c H1
theorem pt_cmp {op : CmpOp} {t : TE} (h : PC X op a b t) (h1 : behindInMarks op b = false := by first | exact zak _ (by decide) (by decide) | rfl) : PT X (.Compare a [op] [b] pos) (tB t) := by
 intro pins s σ H Q I hw
 refine wpAny_isTrue_Compare1 (thn (h pins s σ H _ I hw) fun v s1 h1 => thn h1 fun u s2 h2 => thn h2 fun c s3 ⟨x, H1, I1, r1, q1⟩ => ?_) h1
 obtain ⟨d, rfl, q⟩ := q1
 cases r1
 exact wpAny_truthy_bool ⟨H1, I1, q⟩
theorem zrY {e : Expr} {t : TE} (h : PE X e t) (he : ∀ whole, isTrue e X.env whole = (do let v ← whole; standAt e.pos; holding [v] (truthy v)) := by intro _; rfl) : PT X e (tB t) := by
 intro pins s σ H Q I hw
 refine isTrue_plain (thn (h pins s σ H _ I hw) fun v s1 ⟨x, H1, I1, r1, q1⟩ => ?_) (he _)
 obtain ⟨d, rfl, q⟩ := q1
 cases r1
 exact wpAny_truthy_bool ⟨H1, I1, q⟩
variable {tA tB' : TT} {za4 : List Expr}
def tAnd (t u : TT) : TT := fun σ H Q => t σ H fun c H1 => if c = true then u σ H1 Q else Q false H1
def tOr (t u : TT) : TT := fun σ H Q => t σ H fun c H1 => if c = true then Q true H1 else u σ H1 Q
def tNot (t : TT) : TT := fun σ H Q => t σ H fun c H1 => Q (!c) H1
theorem zqt (ha : PT X a tA) : PW X (.BoolOp .And [a] pos) tA := by
 intro wh pins s σ H Q I h
 refine isTrue_and (thn (ha pins s σ H Q I h) fun c s1 e => ?_)
 cases c with
 | true => exact isTrue_and_nil e
 | false => exact e
theorem zrZ (ha : PT X a tA) : PW X (.BoolOp .Or [a] pos) tA := by
 intro wh pins s σ H Q I h
 refine isTrue_or (thn (ha pins s σ H Q I h) fun c s1 e => ?_)
 cases c with
 | false => exact isTrue_or_nil e
 | true => exact e
theorem zr0 (ha : PT X a tA) (hb : PW X (.BoolOp .And (b :: za4) pos) tB') : PW X (.BoolOp .And (a :: b :: za4) pos) (tAnd tA tB') := by
 intro wh pins s σ H Q I h
 refine isTrue_and (thn (ha pins s σ H _ I h) fun c s1 ⟨H1, I1, q1⟩ => ?_)
 cases c with
 | true => exact hb wh pins s1 σ H1 Q I1 q1
 | false => exact ⟨H1, I1, q1⟩
theorem ztK (ha : PT X a tA) (hb : PW X (.BoolOp .Or (b :: za4) pos) tB') : PW X (.BoolOp .Or (a :: b :: za4) pos) (tOr tA tB') := by
 intro wh pins s σ H Q I h
 refine isTrue_or (thn (ha pins s σ H _ I h) fun c s1 ⟨H1, I1, q1⟩ => ?_)
 cases c with
 | true => exact ⟨H1, I1, q1⟩
 | false => exact hb wh pins s1 σ H1 Q I1 q1
theorem zr1 (ha : PT X a tA) : PT X (.UnaryOp .Not a pos) (tNot tA) := by
 intro pins s σ H Q I h
 exact isTrue_not (ha pins s σ H (fun c H1 => Q (!c) H1) I h)
def ztL (ta tb : TE) : TE := fun σ H Q => ta σ H fun x H1 => ∃ c, x = .bl c ∧ if c = true then tb σ H1 Q else Q (.bl false) H1
def ztM (ta : TE) : TE := fun σ H Q => ta σ H fun x H1 => ∃ c, x = .bl c ∧ Q (.bl (!c)) H1
theorem zr2 {op} {t : TE} (h : PE X a t) : PE X (.BoolOp op [a] pos) t := fun pins s σ H Q I hw => BoolOp_one (h pins s σ H Q I hw)
theorem zr3 (ha : PE X a ta) (hb : PE X (.BoolOp .And (b :: za4) pos) tb) : PE X (.BoolOp .And (a :: b :: za4) pos) (ztL ta tb) := by
 intro pins s σ H Q I h
 refine BoolOp_and (thn (ha pins s σ H _ I h) fun v s1 ⟨x, H1, I1, r1, q1⟩ => ?_)
 obtain ⟨c, rfl, q1⟩ := q1
 cases r1
 refine wpAny_truthy_bool ?_
 cases c with
 | true => exact hb pins s1 σ H1 Q I1 q1
 | false => exact ⟨.bl false, H1, I1, rfl, q1⟩
theorem zr4 (ha : PE X a ta) : PE X (.UnaryOp .Not a pos) (ztM ta) := by
 intro pins s σ H Q I h
 refine UnaryOp_ (thn (ha pins s σ H _ I h) fun v s1 ⟨x, H1, I1, r1, q1⟩ => ?_)
 obtain ⟨c, rfl, q1⟩ := q1
 cases r1
 exact not_of (wpAny_truthy_bool ⟨.bl (!c), H1, I1, rfl, q1⟩)
end
end L2
namespace L2
open PySem PySem.Spec PyProof.Rows
def SqL (K : PySem.W.Frag) (H : Hp) (a : Addr) (xs : List V) : Prop :=
 Rd H a (.lst xs) ∨
  ∃ (o : Obj) (its : Array Value) (n : Nat), K.lookup a = some o ∧ o.cls = .type "list" ∧ o.dict = none ∧ o.data = .seq its n ∧ its.size ≤ sizeLine ∧ zbt xs its.toList
def SqT (K : PySem.W.Frag) (H : Hp) (a : Addr) (xs : List V) : Prop :=
 Rd H a (.tup xs) ∨
  ∃ (o : Obj) (its : Array Value) (n : Nat), K.lookup a = some o ∧ o.cls = .type "tuple" ∧ o.data = .seq its n ∧ its.size ≤ sizeLine ∧ zbt xs its.toList
def absV : Value → Option V
 | .none => some .non
 | .bool b => some (.bl b)
 | .int i _ => some (.int i)
 | .str x _ => some (.str x)
 | .bytes b _ => some (.byt b)
 | .float b _ => some (.flt b)
 | .ref a => some (.ref a)
 | .type n => some (.ty n)
 | _ => none
theorem zbz.abs {x : V} {u : Value} (r : zbz x u) : absV u = some x := by
 cases x with
 | non => cases r; rfl
 | bl _ => cases r; rfl
 | int _ => obtain ⟨t, rfl⟩ := r; rfl
 | str _ => obtain ⟨t, rfl⟩ := r; rfl
 | byt _ => obtain ⟨t, rfl⟩ := r; rfl
 | flt _ => obtain ⟨t, rfl⟩ := r; rfl
 | ref _ => cases r; rfl
 | ty _ => cases r; rfl
theorem zbz.inj {x y : V} {u : Value} (r : zbz x u) (q : zbz y u) : x = y := Option.some.inj (r.abs.symm.trans q.abs)
theorem zbt.inj : ∀ {xs ys : List V} {us : List Value}, zbt xs us → zbt ys us → xs = ys
 | _, _, _, .nil, .nil => rfl
 | _, _, _, .cons r t, .cons r' t' => by rw [r.inj r', zbt.inj t t']
section
variable {X : Cx} {pins : List (Addr × Obj)} {σ : St} {H : Hp} {s : Shared} {a : Addr} {xs ys : List V}
theorem SqL.of {K : PySem.W.Frag} (h : H a = some (.lst xs)) : SqL K H a xs := .inl (.inl h)
theorem SqT.of {K : PySem.W.Frag} (h : H a = some (.tup xs)) : SqT K H a xs := .inl (.inl h)
theorem Inv.list (I : Inv X pins σ H s) (h : SqL X.K H a xs) : ∃ its : List Value, zbt xs its ∧ PlainL s.heap a its.toArray ∧ xs.length ≤ sizeLine := by
 rcases h with h | ⟨o, its, n, hk, hc, hd, hs, hz, r⟩
 ·obtain ⟨z, its, n, r, e⟩ := h.ok I.hok
  exact ⟨its, r, ⟨_, n, e, rfl, rfl, rfl⟩, z⟩
 ·refine ⟨its.toList, r, ⟨o, n, I.kIn a o hk, hc, hd, by simpa using hs⟩, ?_⟩
  have e := r.length
  simp only [Array.length_toList] at e
  omega
theorem Inv.tuple (I : Inv X pins σ H s) (h : SqT X.K H a xs) : ∃ its : List Value, zbt xs its ∧ IsTup s.heap a its.toArray ∧ xs.length ≤ sizeLine := by
 rcases h with h | ⟨o, its, n, hk, hc, hs, hz, r⟩
 ·obtain ⟨z, its, r, p⟩ := h.ok I.hok
  exact ⟨its, r, p, z⟩
 ·refine ⟨its.toList, r, ⟨o, I.kIn a o hk, hc, n, by simpa using hs⟩, ?_⟩
  have e := r.length
  simp only [Array.length_toList] at e
  omega
theorem Inv.list_inj (I : Inv X pins σ H s) (h : SqL X.K H a xs) (h' : SqL X.K H a ys) : xs = ys := by
 obtain ⟨its, r, ⟨o, n, e, _, _, d⟩, _⟩ := I.list h
 obtain ⟨its', r', ⟨o', n', e', _, _, d'⟩, _⟩ := I.list h'
 rw [e] at e'; cases e'
 rw [d] at d'
 injection d' with d1 _
 have : its = its' := by simpa using congrArg Array.toList d1
 subst this
 exact r.inj r'
theorem Inv.tuple_inj (I : Inv X pins σ H s) (h : SqT X.K H a xs) (h' : SqT X.K H a ys) : xs = ys := by
 obtain ⟨its, r, ⟨o, e, _, n, d⟩, _⟩ := I.tuple h
 obtain ⟨its', r', ⟨o', e', _, n', d'⟩, _⟩ := I.tuple h'
 rw [e] at e'; cases e'
 rw [d] at d'
 injection d' with d1 _
 have : its = its' := by simpa using congrArg Array.toList d1
 subst this
 exact r.inj r'
end
abbrev Cx.wish (X : Cx) (E : Value → Shared → Prop) : Cx := { X with xe := E }
abbrev Cx.nox (X : Cx) : Cx := X.wish fun _ _ => False
theorem Cx.Ok.wish {X : Cx} (ok : X.Ok) (E : Value → Shared → Prop) : (X.wish E).Ok :=
 ⟨ok.mod, ok.kind, ok.glob, ok.blt, ok.above, ok.inj, ok.has, ok.cab, ok.hd, ok.frames, ok.stk, ok.exf, ok.bs, ok.bsz, ok.noex, ok.exfs, ok.funs, ok.frf⟩
theorem Cx.Ok.unwish {X : Cx} {E : Value → Shared → Prop} (ok : (X.wish E).Ok) : X.Ok :=
 ⟨ok.mod, ok.kind, ok.glob, ok.blt, ok.above, ok.inj, ok.has, ok.cab, ok.hd, ok.frames, ok.stk, ok.exf, ok.bs, ok.bsz, ok.noex, ok.exfs, ok.funs, ok.frf⟩
section
variable {X : Cx} {pins : List (Addr × Obj)} {σ : St} {H : Hp} {s : Shared} {E : Value → Shared → Prop}
theorem Inv.wish (I : Inv X pins σ H s) (E : Value → Shared → Prop) : Inv (X.wish E) pins σ H s := ⟨I.ok.wish E, I.os, I.bare, I.base, I.loc, I.cell, I.free, I.freeC, I.pin, I.hok, I.len⟩
theorem Inv.unwish (I : Inv (X.wish E) pins σ H s) : Inv X pins σ H s := ⟨I.ok.unwish, I.os, I.bare, I.base, I.loc, I.cell, I.free, I.freeC, I.pin, I.hok, I.len⟩
end
section
variable {X : Cx} {st : Stmt} {za4 : List Stmt} {t u : TS} {e : Expr} {te : TE} {pos : Pos}
def ztN : TS := fun D σ H => D.nx σ H
def tSeq (t u : TS) : TS := fun D σ H => t { D with nx := u D } σ H
theorem zqu : PSs X [] ztN := fun _ _ σ H _ I h => wpAny_execs_nil ⟨σ, H, I, h⟩
theorem zn8 (h1 : PS X st t) (h2 : PSs X za4 u) : PSs X (st :: za4) (tSeq t u) := by
 intro pins s σ H D I h
 refine wpAny_execs_cons (thn (h1 pins s σ H { D with nx := u D } I h) fun f s1 q => ?_)
 cases f with
 | next =>
  obtain ⟨σ', H', I', q⟩ := q
  exact h2 pins s1 σ' H' D I' q
 | ret v => exact q
 | brk => exact q
 | cont => exact q
theorem zqv (h1 : PS X st t) : PSs X [st] t := by
 intro pins s σ H D I h
 refine wpAny_execs_cons (thn (h1 pins s σ H D I h) fun f s1 q => ?_)
 cases f with
 | next => exact wpAny_execs_nil q
 | ret v => exact q
 | brk => exact q
 | cont => exact q
theorem Inv.quiet {pins : List (Addr × Obj)} {σ : St} {H : Hp} {s : Shared} (I : Inv X pins σ H s) : interactive X.env = false := by simp [interactive, I.ok.kind]
def ztO (te : TE) : TS := fun D σ H => te σ H fun _ H1 => D.nx σ H1
theorem zlN (he : PE X e te) (hs : swapsWith e none pos.line X.env = pure false := by rfl) : PS X (.Expr e pos) (ztO te) := by
 intro pins s σ H D I h
 exact wpAny_Expr_any (thn (he pins s σ H _ I h) fun v s1 ⟨x, H1, I1, r1, q1⟩ => ⟨σ, H1, I1, q1⟩) I.quiet hs
def tRet (te : TE) : TS := fun D σ H => te σ H D.rt
theorem zr5 (he : PE X e te) : PS X (.Return (some e) pos) (tRet te) := by
 intro pins s σ H D I h
 exact wpAny_Return_some (thn (he pins s σ H _ I h) fun v s1 ⟨x, H1, I1, r1, q1⟩ => ⟨x, σ, H1, I1, r1, q1⟩)
def tIfS (c : TT) (t u : TS) : TS := fun D σ H => c σ H fun b H1 => if b = true then t D σ H1 else u D σ H1
theorem ztP {c : Expr} {a b : List Stmt} {tc : TT} (hc : PT X c tc) (ha : PSs X a t) (hb : PSs X b u) : PS X (.If c a b pos) (tIfS tc t u) := by
 intro pins s σ H D I h
 refine wpAny_If (thn (hc pins s σ H _ I h) fun d s1 ⟨H1, I1, q1⟩ => ?_)
 cases d with
 | true => exact ha pins s1 σ H1 D I1 q1
 | false => exact hb pins s1 σ H1 D I1 q1
def zr6 : TS := fun _ _ _ => False
theorem zn9 : PS X st zr6 := fun _ _ _ _ _ _ h => h.elim
end
abbrev TG := V → St → Hp → (St → Hp → Prop) → Prop
abbrev TGs := List V → St → Hp → (St → Hp → Prop) → Prop
def PG (X : Cx) (target : Expr) (t : TG) : Prop :=
 ∀ (pins : List (Addr × Obj)) (s : Shared) (σ : St) (H : Hp) (v : V) (u : Value) (Q : St → Hp → Prop), Inv X pins σ H s → zbz v u → t v σ H Q →
  wpAny (model X.prog X.w) X.A (assign target X.env u) (fun _ s' => ∃ σ' H', Inv X pins σ' H' s' ∧ Q σ' H') X.xe s
def PGs (X : Cx) (ts : List Expr) (t : TGs) : Prop :=
 ∀ (pins : List (Addr × Obj)) (s : Shared) (σ : St) (H : Hp) (vs : List V) (us : List Value) (Q : St → Hp → Prop), Inv X pins σ H s → zbt vs us → t vs σ H Q →
  wpAny (model X.prog X.w) X.A (assignInOrder ((assignEach ts X.env).map (·.2)) us) (fun _ s' => ∃ σ' H', Inv X pins σ' H' s' ∧ Q σ' H') X.xe s
abbrev TSet := V → V → V → Hp → (Hp → Prop) → Prop
def PSet (X : Cx) (t : TSet) : Prop :=
 ∀ (pins : List (Addr × Obj)) (s : Shared) (σ : St) (H : Hp) (o i v : V) (ov iv u : Value) (Q : Hp → Prop), Inv X pins σ H s → zbz o ov → zbz i iv → zbz v u → t o i v H Q →
  wpAny (model X.prog X.w) X.A (setItem ov iv u) (fun _ s' => ∃ H', Inv X pins σ H' s' ∧ Q H') X.xe s
section
variable {X : Cx} {pos : Pos}
def zjg (i : Nat) : TG := fun v σ H Q => Q (σ.set i (some v)) H
theorem zdy {i : Nat} {x : Str} (hN : X.N.Nodup) (hi : X.N[i]? = some x) (hx : Loc X.env.scope x) (hf : X.fn x = true ∨ X.env.scope.names.lookup x = some .local := by first | exact .inl rfl | exact .inr rfl | assumption) : PG X (.Name x pos) (zjg i) := by
 intro pins s σ H v u Q I r h
 exact wpAny_assign_Name (zfv I hN hi hx r (fun s' I' => ⟨_, H, I', h⟩) hf)
def gNil : TGs := fun vs σ H Q => vs = [] ∧ Q σ H
def zr7 (t : TG) (u : TGs) : TGs := fun vs σ H Q => ∃ v r, vs = v :: r ∧ t v σ H fun σ' H' => u r σ' H' Q
theorem zjh : PGs X [] gNil := by
 intro pins s σ H vs us Q I r h
 obtain ⟨e, h⟩ := h
 subst e
 cases r
 exact assignInOrder_nil ⟨σ, H, I, h⟩
theorem zc7 {e : Expr} {es : List Expr} {t : TG} {u : TGs} (h1 : PG X e t) (h2 : PGs X es u)
  (hs : (assignEach (e :: es) X.env).map (·.2) = assign e X.env :: (assignEach es X.env).map (·.2) := by rfl) : PGs X (e :: es) (zr7 t u) := by
 intro pins s σ H vs us Q I r h
 obtain ⟨v, vr, e1, h⟩ := h
 subst e1
 cases r with
 | cons r rr =>
  rw [hs]
  refine assignInOrder_cons (thn (h1 pins s σ H _ _ _ I r h) fun _ s1 ⟨σ1, H1, I1, q1⟩ => ?_)
  exact h2 pins s1 σ1 H1 _ _ Q I1 rr q1
def gTup (K : PySem.W.Frag) (n : Nat) (t : TGs) : TG := fun v σ H Q => ∃ a xs, v = .ref a ∧ SqT K H a xs ∧ xs.length = n ∧ t xs σ H Q
theorem zr8 {es : List Expr} {k : Nat} {t : TGs} {n : Nat} (hc : X.calm = true) (h : PGs X es t)
  (hn : (assignEach es X.env).length = n := by rfl) (hst : (assignEach es X.env).findIdx? (·.1) = none := by rfl) : PG X (.Tuple es k pos) (gTup X.K n t) := by
 intro pins s σ H v u Q I r hw
 obtain ⟨a, xs, e1, hq, hl, hw⟩ := hw
 subst e1
 cases r
 obtain ⟨its, rv, ht, hz⟩ := I.tuple hq
 refine assign_Tuple_tuple (I.ok.hd hc) ht (by simp [hn, ← hl, rv.length]) hst fun h' hx => ?_
 have I1 : Inv X pins σ H { s with heap := h' } := I.kept (t' := s.toks) fun b o e => hx b o (Nat.ne_of_lt (Heap.lt_size e)) e
 exact h pins _ σ H xs _ Q I1 (by simpa using rv) hw
def gSub (to ti : TE) (t : TSet) : TG := fun v σ H Q => to σ H fun o H1 => ti σ H1 fun i H2 => t o i v H2 fun H3 => Q σ H3
theorem zr9 {o i : Expr} {to ti : TE} {t : TSet} (ho : PE X o to) (hi : PE X i ti) (hs : PSet X t)
  (ha : ∀ v, assign (.Subscript o i pos) X.env v = (do
   let ov ← holding [v] (eval o X.env)
   let iv ← holding [v, ov] (eval i X.env)
   standAt pos
   holding [v, ov, iv] (setItem ov iv v)
   release [v, ov, iv] []) := by intro _; rfl) : PG X (.Subscript o i pos) (gSub to ti t) := by
 intro pins s σ H v u Q I r h
 rw [ha]
 refine wpAny_bind (wpAny_holding (thn (ho pins s σ H _ I h) fun ov s1 ⟨x, H1, I1, r1, q1⟩ => ?_))
 refine wpAny_bind (wpAny_holding (thn (hi pins s1 σ H1 _ I1 q1) fun iv s2 ⟨y, H2, I2, r2, q2⟩ => ?_))
 refine wpAny_bind (wpAny_standAt (wpAny_bind (wpAny_holding (thn (hs pins s2 σ H2 x y v ov iv u _ I2 r1 r2 r q2) fun _ s3 ⟨H3, I3, q3⟩ => ?_))))
 exact wpAny_release ⟨σ, H3, I3, q3⟩
def zrH (te : TE) (g : TG) : TS := fun D σ H => te σ H fun x H1 => g x σ H1 D.nx
theorem zpf {tg e : Expr} {te : TE} {g : TG} (he : PE X e te) (hg : PG X tg g) (hs : swapsWithSole [tg] e pos.line X.env = pure false := by rfl) (hw : swappedStores [tg] e X.env = pure none := by rfl)
  (h1 : (assignEach [tg] X.env).map (·.2) = [assign tg X.env] := by rfl) : PS X (.Assign [tg] e pos) (zrH te g) := by
 intro pins s σ H D I h
 refine wpAny_Assign_stores (thn (he pins s σ H _ I h) fun v s1 ⟨x, H1, I1, r1, q1⟩ => ?_) hs hw
 rw [h1]
 exact thn (hg pins s1 σ H1 x v _ I1 r1 q1) fun _ s2 q => q
theorem zlO {i : Nat} {x : Str} {e : Expr} {te : TE} {pos' : Pos} (hN : X.N.Nodup) (hi : X.N[i]? = some x) (hx : Loc X.env.scope x) (he : PE X e te) (hs : swapsWith e (some (.Name x pos')) pos.line X.env = pure false := by rfl) (hf : X.fn x = true ∨ X.env.scope.names.lookup x = some .local := by first | exact .inl rfl | exact .inr rfl | assumption) :
  PS X (.Assign [.Name x pos'] e pos) (zrH te (zjg i)) := by
 intro pins s σ H D I h
 refine wpAny_Assign_Name (thn (he pins s σ H _ I h) fun v s1 ⟨y, H1, I1, r1, q1⟩ => ?_) hs
 exact zfv I1 hN hi hx r1 (fun s2 I2 => ⟨_, H1, I2, q1⟩) hf
end
section
variable {X : Cx} {pos : Pos}
def zsa (c : TT) (tb : TS) : TS := fun D σ H => ∃ W : Nat → St → Hp → Prop, (∃ m, W m σ H) ∧ ∀ m σ H, W m σ H →
 c σ H fun b H1 => if b = true then ∃ N : St → Hp → Prop, (∀ σ' H', N σ' H' → ∃ m', m' < m ∧ W m' σ' H') ∧ tb { D with nx := N, ct := N, bk := D.nx } σ H1 else D.nx σ H1
theorem zoa {c : Expr} {body : List Stmt} {tc : TT} {tb : TS} (hp : PassesOwn (model X.prog X.w) X.A X.env X.xe) (hc : PT X c tc) (hb : PSs X body tb) : PS X (.While c body [] pos) (zsa tc tb) := by
 intro pins s σ H D I h
 obtain ⟨W, ⟨m0, w0⟩, turn⟩ := h
 refine wpAny_While (codeAny_whileLoop (fun n s' => ∃ σ' H', Inv X pins σ' H' s' ∧ W n σ' H') ?_ m0 ⟨σ, H, I, w0⟩)
 rintro n s1 ⟨σ1, H1, I1, w1⟩
 refine wpAny_passesOwn hp (thn (hc pins s1 σ1 H1 _ I1 (turn n σ1 H1 w1)) fun b s2 ⟨H2, I2, q2⟩ => ?_)
 cases b with
 | true =>
  obtain ⟨N, hN, q2⟩ := q2
  rw [if_pos rfl]
  refine wpAny_passesOwn hp (thn (hb pins s2 σ1 H2 _ I2 q2) fun f s3 q3 => ?_)
  cases f with
  | next =>
   obtain ⟨σ3, H3, I3, n3⟩ := q3
   obtain ⟨m', hm, w3⟩ := hN σ3 H3 n3
   exact ⟨m', hm, σ3, H3, I3, w3⟩
  | cont =>
   obtain ⟨σ3, H3, I3, n3⟩ := q3
   obtain ⟨m', hm, w3⟩ := hN σ3 H3 n3
   exact ⟨m', hm, σ3, H3, I3, w3⟩
  | brk => exact q3
  | ret v => exact q3
 | false =>
  rw [if_neg Bool.false_ne_true]
  exact wpAny_execs_nil ⟨σ1, H2, I2, q2⟩
end
structure It where
 go : Nat → Hp → Prop
 yld : Nat → Hp → V → Hp → Prop
 stop : Nat → Hp → Prop
def zlF (X : Cx) (pins : List (Addr × Obj)) (H : Hp) (b : Addr) : Prop :=
 H b = none ∧ b ≠ X.env.locals ∧ b ∉ X.fs ∧ (b ∈ X.ex ∨ X.s₀.heap.objs.size ≤ b) ∧ (∀ x c, X.env.cells.lookup x = some c → c ≠ b) ∧ ∀ p ∈ X.pn ++ pins, p.1 ≠ b
theorem Inv.fpOk {X : Cx} {pins : List (Addr × Obj)} {σ : St} {H H' : Hp} {s : Shared} {b : Addr} (I : Inv X pins σ H s) (hb : s.heap.objs.size ≤ b) (hn : H' b = none) : zlF X pins H' b := by
 refine ⟨hn, Nat.ne_of_gt (Nat.lt_of_lt_of_le I.lt hb), I.nofs hb, .inr (Nat.le_trans I.sz hb), fun x c e z => ?_, fun p hp z => ?_⟩
 ·obtain ⟨v, q⟩ := I.cell x c e
  exact absurd (Nat.lt_of_lt_of_le q.lt (by rw [z]; exact hb)) (Nat.lt_irrefl _)
 ·exact absurd (Nat.lt_of_lt_of_le (Heap.lt_size (I.pin p hp).1) (by rw [z]; exact hb)) (Nat.lt_irrefl _)
structure zrI (P : Program) (w : World) (K : PySem.W.Frag) (tg : Expr) (J : It) (fp : List Addr) (it : Addr) (tn : Nat → Heap → Prop) : Prop where
 mem : it ∈ fp
 obj : ∀ i h, tn i h → ∀ b ∈ fp, ∃ o, h.get? b = some o ∧ ∀ v, o.data ≠ .cell v
 keep : ∀ i h h', tn i h → (∀ b ∈ fp, ∀ o, h.get? b = some o → h'.get? b = some o) → tn i h'
 item : ∀ (X : Cx), X.prog = P → X.w = w → X.K = K → X.calm = true → ∀ (i : Nat) (pins : List (Addr × Obj)) (s : Shared) (σ : St) (H : Hp) (E : Value → Shared → Prop), Inv X pins σ H s → (∀ b ∈ fp, zlF X pins H b) → tn i s.heap → J.go i H →
  wpAny (model P w) X.A (pyNext (.ref it)) (fun r s1 => ∃ u, r = some u ∧
   wpAny (model P w) X.A (letOwnedTupleGo tg (.ref it) u) (fun _ s2 => ∃ x H', Inv X pins σ H' s2 ∧ zbz x u ∧ J.yld i H x H' ∧ tn (i + 1) s2.heap ∧ ∀ b ∈ fp, H' b = none) E s1) E s
 done : ∀ (X : Cx), X.prog = P → X.w = w → X.K = K → X.calm = true → ∀ (i : Nat) (pins : List (Addr × Obj)) (s : Shared) (σ : St) (H : Hp) (E : Value → Shared → Prop), Inv X pins σ H s → (∀ b ∈ fp, zlF X pins H b) → tn i s.heap → J.stop i H →
  wpAny (model P w) X.A (pyNext (.ref it)) (fun r s1 => r = none ∧ Inv X pins σ H s1) E s
 self : ∀ (A : Around) (i : Nat) (s : Shared) (Q : Value → Shared → Prop) (E : Value → Shared → Prop), tn i s.heap → Q (.ref it) s → wpAny (model P w) A (pyIter (.ref it)) Q E s
abbrev TI := St → Hp → (It → Hp → Prop) → Prop
def PIE (X : Cx) (pins : List (Addr × Obj)) (σ : St) (tg : Expr) (R : It → Hp → Prop) (itv : Value) (s2 : Shared) : Prop :=
 ∃ (it : Addr) (fp : List Addr) (tn : Nat → Heap → Prop) (J : It) (H' : Hp), itv = .ref it ∧ Inv X pins σ H' s2 ∧ zrI X.prog X.w X.K tg J fp it tn ∧ tn 0 s2.heap ∧ (∀ b ∈ fp, zlF X pins H' b) ∧ R J H'
def PI (X : Cx) (tg iter : Expr) (wi : TI) : Prop :=
 ∀ (pins : List (Addr × Obj)) (s : Shared) (σ : St) (H : Hp) (R : It → Hp → Prop), Inv X pins σ H s → wi σ H R →
  wpAny (model X.prog X.w) X.A (eval iter X.env) (fun v s1 => wpAny (model X.prog X.w) X.A (pyIter v) (PIE X pins σ tg R) X.xe s1) X.xe s
theorem zqw {M : Model} {A : Around} {E : Value → Shared → Prop} {s : Shared} {tg : Expr} {it : Addr} {u : Value} {o : Obj} {n : String} {vs : Array Value} {Q : Unit → Shared → Prop} (ho : s.heap.get? it = some o) (hc : o.cls = .type n) (hd : o.data = .fields vs)
  (hn : ["enumerate", "zip", "dict_itemiterator", "dict_reverseitemiterator", "odict_iterator", "itertools.zip_longest", "itertools.pairwise"].contains n = false) (hQ : Q () s) : wpAny M A (letOwnedTupleGo tg (.ref it) u) Q E s := by
 unfold letOwnedTupleGo
 cases tg <;> first
  | exact wpAny_pure hQ
  | (cases u <;> first
    | exact wpAny_pure hQ
    | (refine wpAny_bind (wpAny_load ho ?_)
       rw [hc, hd]
       show wpAny M A (if (["enumerate", "zip", "dict_itemiterator", "dict_reverseitemiterator", "odict_iterator", "itertools.zip_longest", "itertools.pairwise"].contains n && vs[0]? == some (rawInt _)) = true then _ else _) Q E s
       rw [if_neg (by intro h; rw [hn, Bool.false_and] at h; cases h)]
       exact wpAny_pure hQ))
def Itl (K : PySem.W.Frag) (a : Addr) : It :=
 ⟨fun i H => ∃ xs x, SqL K H a xs ∧ xs[i]? = some x, fun i H x H' => H' = H ∧ ∀ xs, SqL K H a xs → xs[i]? = some x, fun i H => ∃ xs, SqL K H a xs ∧ xs.length ≤ i⟩
def Itt (K : PySem.W.Frag) (a : Addr) : It :=
 ⟨fun i H => ∃ xs x, SqT K H a xs ∧ xs[i]? = some x, fun i H x H' => H' = H ∧ ∀ xs, SqT K H a xs → xs[i]? = some x, fun i H => ∃ xs, SqT K H a xs ∧ xs.length ≤ i⟩
def Itr (lo : Int) (n : Nat) : It := ⟨fun i _ => i < n, fun i H x H' => H' = H ∧ x = .int (lo + i), fun i _ => n ≤ i⟩
theorem zlP {P : Program} {w : World} {K : PySem.W.Frag} {tg : Expr} (a it : Addr) : zrI P w K tg (Itl K a) [it] it (fun i h => h.IsListIter it a i) where
 mem := by simp
 obj := fun i h st b hb => by
  have e : b = it := by simpa using hb
  subst e
  obtain ⟨o, e, c, d⟩ := st
  exact ⟨o, e, fun v z => by rw [d] at z; cases z⟩
 keep := fun i h h' st k => st.at fun o e => k it (by simp) o e
 item := by
  intro X hP hw hK hc i pins s σ H E I hf st hg
  subst hP hw hK
  obtain ⟨xs, x, hq, hx⟩ := hg
  obtain ⟨its, rv, p, hz⟩ := I.list hq
  obtain ⟨u, hu, ru⟩ := rv.get hx
  obtain ⟨f0, f1, f2, f3, f4, f5⟩ := hf it (by simp)
  refine wpAny_pyNext_list_item st p.isList (x := u) (by simpa using hu) fun h' st' sb => ?_
  have I1 : Inv X pins σ H { s with heap := h' } := I.turned (t' := s.toks) (fun b o hb e => (sb.2 b hb).trans e) f0 f1 f3 f4 f5
  obtain ⟨o, e, c, d⟩ := id st'
  exact ⟨u, rfl, zqw (s := { s with heap := h' }) e c d (by decide) ⟨x, H, I1, ru, ⟨rfl, fun ys hy => by rw [I.list_inj hy hq]; exact hx⟩, st', fun b hb => (hf b hb).1⟩⟩
 done := by
  intro X hP hw hK hc i pins s σ H E I hf st hg
  subst hP hw hK
  obtain ⟨xs, hq, hx⟩ := hg
  obtain ⟨its, rv, p, hz⟩ := I.list hq
  obtain ⟨f0, f1, f2, f3, f4, f5⟩ := hf it (by simp)
  have hl := rv.length
  exact wpAny_pyNext_list_end (I.ok.hd hc) st p.isList (by simp; omega) fun h' eb => ⟨rfl, I.turned (t' := s.toks) (fun b o hb e => eb b o hb e) f0 f1 f3 f4 f5⟩
 self := fun _ _ _ _ _ st h => wpAny_pyIter_listiter st h
theorem zk5 {P : Program} {w : World} {K : PySem.W.Frag} {tg : Expr} (a it : Addr) : zrI P w K tg (Itt K a) [it] it (fun i h => h.IsTupleIter it a i) where
 mem := by simp
 obj := fun i h st b hb => by
  have e : b = it := by simpa using hb
  subst e
  obtain ⟨o, e, c, d⟩ := st
  exact ⟨o, e, fun v z => by rw [d] at z; cases z⟩
 keep := fun i h h' st k => st.at fun o e => k it (by simp) o e
 item := by
  intro X hP hw hK hc i pins s σ H E I hf st hg
  subst hP hw hK
  obtain ⟨xs, x, hq, hx⟩ := hg
  obtain ⟨its, rv, p, hz⟩ := I.tuple hq
  obtain ⟨u, hu, ru⟩ := rv.get hx
  obtain ⟨f0, f1, f2, f3, f4, f5⟩ := hf it (by simp)
  refine wpAny_pyNext_tuple_item st (show s.heap.IsTuple a its.toArray from p) (x := u) (by simpa using hu) fun h' st' sb => ?_
  have I1 : Inv X pins σ H { s with heap := h' } := I.turned (t' := s.toks) (fun b o hb e => (sb.2 b hb).trans e) f0 f1 f3 f4 f5
  obtain ⟨o, e, c, d⟩ := id st'
  exact ⟨u, rfl, zqw (s := { s with heap := h' }) e c d (by decide) ⟨x, H, I1, ru, ⟨rfl, fun ys hy => by rw [I.tuple_inj hy hq]; exact hx⟩, st', fun b hb => (hf b hb).1⟩⟩
 done := by
  intro X hP hw hK hc i pins s σ H E I hf st hg
  subst hP hw hK
  obtain ⟨xs, hq, hx⟩ := hg
  obtain ⟨its, rv, p, hz⟩ := I.tuple hq
  obtain ⟨f0, f1, f2, f3, f4, f5⟩ := hf it (by simp)
  have hl := rv.length
  exact wpAny_pyNext_tuple_end (I.ok.hd hc) st (show s.heap.IsTuple a its.toArray from p) (by simp; omega) fun h' eb => ⟨rfl, I.turned (t' := s.toks) (fun b o hb e => eb b o hb e) f0 f1 f3 f4 f5⟩
 self := fun _ _ _ _ _ st h => wpAny_pyIter_tupleiter st h
theorem zk6 {P : Program} {w : World} {K : PySem.W.Frag} {tg : Expr} (it : Addr) (lo : Int) (n : Nat) : zrI P w K tg (Itr lo n) [it] it (fun i h => IsRangeIter h it (lo + (i : Nat) * 1) ((n : Int) - (i : Nat)) 1) where
 mem := by simp
 obj := fun i h st b hb => by
  have e : b = it := by simpa using hb
  subst e
  exact ⟨_, st, fun v z => by
   have z' : Data.fields _ = Data.cell v := z
   cases z'⟩
 keep := fun i h h' st k => k it (by simp) _ st
 item := by
  intro X hP hw hK hc i pins s σ H E I hf st hg
  subst hP hw hK
  obtain ⟨f0, f1, f2, f3, f4, f5⟩ := hf it (by simp)
  have W := Walks.range (prog := X.prog) (w := X.w) (I.ok.hd hc) it lo 1 n
  refine W.item i s _ _ hg st fun v h' tk hv st' kk => ?_
  obtain ⟨t, rfl⟩ := hv
  have I1 : Inv X pins σ H { s with heap := h', toks := tk } := I.turned (fun b o hb e => kk b o (by simpa using hb) e) f0 f1 f3 f4 f5
  refine ⟨_, rfl, zqw (s := { s with heap := h', toks := tk }) (n := "range_iterator") st' rfl rfl (by decide) ⟨.int (lo + i), H, I1, ⟨t, ?_⟩, ⟨rfl, rfl⟩, st', fun b hb => (hf b hb).1⟩⟩
  rw [Int.mul_one]
 done := by
  intro X hP hw hK hc i pins s σ H E I hf st hg
  subst hP hw hK
  obtain ⟨f0, f1, f2, f3, f4, f5⟩ := hf it (by simp)
  exact wpAny_pyNext_range_end (I.ok.hd hc) st (by have : n ≤ i := hg; omega) fun h' eb => ⟨rfl, I.turned (t' := s.toks) (fun b o hb e => eb b o hb e) f0 f1 f3 f4 f5⟩
 self := fun _ _ _ _ _ st h => wpAny_pyIter_rangeiter st h
end L2
namespace L2
open PySem PySem.Spec PyProof.Rows
section
variable {X : Cx} {tg : Expr}
def zsb (K : PySem.W.Frag) (tl : TE) : TI := fun σ H R => tl σ H fun x H1 => ∃ a, x = .ref a ∧ (∃ xs, SqL K H1 a xs) ∧ R (Itl K a) H1
def iTup (K : PySem.W.Frag) (tl : TE) : TI := fun σ H R => tl σ H fun x H1 => ∃ a, x = .ref a ∧ (∃ xs, SqT K H1 a xs) ∧ R (Itt K a) H1
theorem zqx {l : Expr} {tl : TE} (hl : PE X l tl) : PI X tg l (zsb X.K tl) := by
 intro pins s σ H R I h
 refine thn (hl pins s σ H _ I h) fun v s1 ⟨x, H1, I1, r1, q1⟩ => ?_
 obtain ⟨a, e, ⟨xs, hq⟩, q⟩ := q1
 subst e
 cases r1
 obtain ⟨its, rv, p, hz⟩ := I1.list hq
 refine wpAny_pyIter_list p.isList ?_
 refine ⟨s1.heap.objs.size, [s1.heap.objs.size], _, _, H1, rfl, I1.kept (t' := s1.toks) fun b o e => Heap.get?_push_of_some _ e, zlP a _, ⟨_, Heap.get?_push_size _ rfl, rfl, rfl⟩, fun b hb => ?_, q⟩
 have e : b = s1.heap.objs.size := by simpa using hb
 subst e
 exact I1.fpOk (Nat.le_refl _) (I1.hok.fresh (Nat.le_refl _))
theorem zsc {l : Expr} {tl : TE} (hl : PE X l tl) : PI X tg l (iTup X.K tl) := by
 intro pins s σ H R I h
 refine thn (hl pins s σ H _ I h) fun v s1 ⟨x, H1, I1, r1, q1⟩ => ?_
 obtain ⟨a, e, ⟨xs, hq⟩, q⟩ := q1
 subst e
 cases r1
 obtain ⟨its, rv, p, hz⟩ := I1.tuple hq
 refine wpAny_pyIter_tuple (show s1.heap.IsTuple a its.toArray from p) ?_
 refine ⟨s1.heap.objs.size, [s1.heap.objs.size], _, _, H1, rfl, I1.kept (t' := s1.toks) fun b o e => Heap.get?_push_of_some _ e, zk5 a _, ⟨_, Heap.get?_push_size _ rfl, rfl, rfl⟩, fun b hb => ?_, q⟩
 have e : b = s1.heap.objs.size := by simpa using hb
 subst e
 exact I1.fpOk (Nat.le_refl _) (I1.hok.fresh (Nat.le_refl _))
theorem zjJ {pins : List (Addr × Obj)} {σ : St} {H : Hp} {s : Shared} {R : It → Hp → Prop} {E : Value → Shared → Prop} {lo hi : Int} {t u v : Tok} {tk : Nat} (I : Inv X pins σ H s) (h1 : -(2 ^ 62) ≤ lo) (h2 : lo < 2 ^ 62) (h3 : -(2 ^ 62) ≤ hi) (h4 : hi < 2 ^ 62)
  (q : R (Itr lo (hi - lo).toNat) H) : wpAny (model X.prog X.w) X.A (pyIter (.ref s.heap.objs.size)) (PIE X pins σ tg R) E { s with heap := s.heap.push { cls := .type "range", data := .fields #[.int lo t, .int hi u, .int 1 v] }, toks := tk } := by
 refine wpAny_pyIter_range (IsRange.new ..) (small_one h1 h2 h3 h4) ?_
 have I1 : Inv X pins σ H { s with heap := s.heap.push { cls := .type "range", data := .fields #[.int lo t, .int hi u, .int 1 v] }, toks := tk } := I.kept fun b o e => Heap.get?_push_of_some _ e
 refine ⟨(s.heap.push { cls := .type "range", data := .fields #[.int lo t, .int hi u, .int 1 v] }).objs.size, [(s.heap.push { cls := .type "range", data := .fields #[.int lo t, .int hi u, .int 1 v] }).objs.size], _, _, H, rfl,
  I1.kept (t' := tk) fun b o e => Heap.get?_push_of_some _ e, zk6 _ lo (hi - lo).toNat, ?_, fun b hb => ?_, q⟩
 ·have e1 : lo + ((0 : Nat) : Int) * 1 = lo := by simp
  have e2 : (((hi - lo).toNat : Nat) : Int) - ((0 : Nat) : Int) = Builtin.Range.rangeSize lo hi 1 := by rw [rangeSize_one]; split <;> omega
  show IsRangeIter _ _ (lo + ((0 : Nat) : Int) * 1) ((((hi - lo).toNat : Nat) : Int) - ((0 : Nat) : Int)) 1
  rw [e1, e2]
  exact Heap.get?_push_size _ rfl
 ·have e : b = (s.heap.push { cls := .type "range", data := .fields #[.int lo t, .int hi u, .int 1 v] }).objs.size := by simpa using hb
  subst e
  exact I1.fpOk (Nat.le_refl _) (I1.hok.fresh (Nat.le_refl _))
def ztQ (ta : TA) : TI := fun σ H R => ta σ H fun vs H1 => ∃ j : Int, vs = [.int j] ∧ -(2 ^ 62) ≤ j ∧ j < 2 ^ 62 ∧ R (Itr 0 j.toNat) H1
def ztR (ta : TA) : TI := fun σ H R => ta σ H fun vs H1 => ∃ i j : Int, vs = [.int i, .int j] ∧ (-(2 ^ 62) ≤ i ∧ i < 2 ^ 62 ∧ -(2 ^ 62) ≤ j ∧ j < 2 ^ 62) ∧ R (Itr i (j - i).toNat) H1
theorem zlQ {a : Expr} {ta : TA} {p pos : Pos} (hg : Gl X "range") (hm : X.mg "range" = none) (ha : PA X [a] ta) (hs : starEach [a] X.env = [(false, eval a X.env)] := by rfl) : PI X tg (.Call (.Name "range" p) [a] [] pos) (ztQ ta) := by
 intro pins s σ H R I h
 refine Call_ (zgS I hg hm boot_range (PyProof.Rows.callWith_type1 (thn (ha pos pins s σ H _ I h) fun us s1 ⟨vs, H1, I1, r1, q1⟩ => ?_) hs rfl))
 obtain ⟨j, e, q1, q2, q⟩ := q1
 subst e
 cases r1 with
 | cons r rr =>
  cases rr
  obtain ⟨t, rfl⟩ := r
  exact call_range_1 (zjJ I1 (by omega) (by omega) q1 q2 (by simpa using q))
theorem zlR {a b : Expr} {ta : TA} {p pos : Pos} (hg : Gl X "range") (hm : X.mg "range" = none) (ha : PA X [a, b] ta) (hs : starEach [a, b] X.env = [(false, eval a X.env), (false, eval b X.env)] := by rfl) (hs2 : starEach [b] X.env = [(false, eval b X.env)] := by rfl) :
  PI X tg (.Call (.Name "range" p) [a, b] [] pos) (ztR ta) := by
 intro pins s σ H R I h
 refine Call_ (zgS I hg hm boot_range (PyProof.Rows.callWith_type1 (thn (ha pos pins s σ H _ I h) fun us s1 ⟨vs, H1, I1, r1, q1⟩ => ?_) (by rw [hs, hs2]) (by rw [hs2]; rfl)))
 obtain ⟨i, j, e, ⟨q1, q2, q3, q4⟩, q⟩ := q1
 subst e
 cases r1 with
 | cons r rr =>
  cases rr with
  | cons r' rr =>
   cases rr
   obtain ⟨t, rfl⟩ := r
   obtain ⟨t', rfl⟩ := r'
   exact call_range_2 (zjJ I1 q1 q2 q3 q4 q)
def tFor (wi : TI) (g : TG) (tb : TS) : TS := fun D σ H => wi σ H fun J H1 => ∃ W : Nat → Nat → St → Hp → Prop, (∃ m, W 0 m σ H1) ∧ ∀ i m σ H, W i m σ H →
 (J.stop i H ∧ D.nx σ H) ∨ (J.go i H ∧ ∃ N : St → Hp → Prop, (∀ σ' H', N σ' H' → ∃ m', m' < m ∧ W (i + 1) m' σ' H') ∧ ∀ x H', J.yld i H x H' → g x σ H' fun σ2 H2 => tb { D with nx := N, ct := N, bk := D.nx } σ2 H2)
def zh5 (fp : List Addr) (h : Heap) : List (Addr × Obj) := fp.filterMap fun b => (h.get? b).map fun o => (b, o)
theorem zdS {fp : List Addr} {h : Heap} {b : Addr} {o : Obj} (hb : b ∈ fp) (e : h.get? b = some o) : (b, o) ∈ zh5 fp h := List.mem_filterMap.mpr ⟨b, hb, by rw [e]; rfl⟩
theorem zlS {fp : List Addr} {h : Heap} {p : Addr × Obj} (hp : p ∈ zh5 fp h) : p.1 ∈ fp ∧ h.get? p.1 = some p.2 := by
 obtain ⟨b, hb, e⟩ := List.mem_filterMap.mp hp
 cases q : h.get? b with
 | none => rw [q] at e; cases e
 | some o =>
  rw [q] at e
  have e' : (b, o) = p := Option.some.inj e
  subst e'
  exact ⟨hb, q⟩
theorem Inv.pinned {pins : List (Addr × Obj)} {σ : St} {H : Hp} {s : Shared} {fp : List Addr} (I : Inv X pins σ H s) (hf : ∀ b ∈ fp, zlF X pins H b) (ho : ∀ b ∈ fp, ∃ o, s.heap.get? b = some o ∧ ∀ v, o.data ≠ .cell v) : Inv X (pins ++ zh5 fp s.heap) σ H s :=
 I.pins_of fun p hp => (List.mem_append.mp hp).elim (fun z => I.pin p (List.mem_append_right _ z)) fun z => by
  obtain ⟨hb, e⟩ := zlS z
  obtain ⟨f0, f1, f2, _⟩ := hf p.1 hb
  obtain ⟨o, e', d⟩ := ho p.1 hb
  rw [e] at e'; cases e'
  exact ⟨e, f0, f1, f2, d⟩
theorem Inv.unpinned {pins pl : List (Addr × Obj)} {σ : St} {H : Hp} {s : Shared} (I : Inv X (pins ++ pl) σ H s) : Inv X pins σ H s := I.pins_of fun p hp => I.pin p (List.mem_append_right _ (List.mem_append_left _ hp))
theorem zsd {iter : Expr} {body : List Stmt} {wi : TI} {g : TG} {tb : TS} {pos : Pos} (hp : PassesOwn (model X.prog X.w) X.A X.env X.xe) (hc : X.calm = true) (hi : PI X tg iter wi) (hg : PG X tg g) (hb : PSs X body tb)
  (hs : ∀ x, foldedSetIterable iter X.env x = pure x := by intro _; rfl) : PS X (.For tg iter body [] pos) (tFor wi g tb) := by
 intro pins s σ H D I h
 refine wpAny_For (thn (hi pins s σ H _ I h) fun v s1 h1 => thn h1 fun itv s2 h2 => ?_) hs
 obtain ⟨it, fp, tn, J, H2, e, I2, T, st2, f2, W, ⟨m0, w0⟩, turn⟩ := h2
 subst e
 have stat : ∀ {H' : Hp}, (∀ b ∈ fp, H' b = none) → ∀ b ∈ fp, zlF X pins H' b := fun hn b hb => ⟨hn b hb, (f2 b hb).2⟩
 refine codeAny_forLoop_any (fun n s' => ∃ i σ' H', Inv X pins σ' H' s' ∧ tn i s'.heap ∧ (∀ b ∈ fp, H' b = none) ∧ W i n σ' H') ?_ m0 ⟨0, σ, H2, I2, st2, fun b hb => (f2 b hb).1, w0⟩
 rintro n s3 ⟨i, σ3, H3, I3, st3, fr3, w3⟩
 rcases turn i n σ3 H3 w3 with ⟨stop, qn⟩ | ⟨go, N, hN, step⟩
 ·refine wpAny_passesOwn hp (thn (T.done X rfl rfl rfl hc i pins s3 σ3 H3 X.xe I3 (stat fr3) st3 stop) fun r s4 ⟨hr, I4⟩ => ?_)
  subst hr
  exact wpAny_execs_nil ⟨σ3, H3, I4, qn⟩
 ·refine wpAny_passesOwn hp (thn (T.item X rfl rfl rfl hc i pins s3 σ3 H3 X.xe I3 (stat fr3) st3 go) fun r s4 ⟨u, hr, h4⟩ => ?_)
  subst hr
  refine wpAny_passesOwn hp (thn h4 fun _ s5 ⟨x, H5, I5, r5, y5, st5, fr5⟩ => ?_)
  have I5' := I5.pinned (stat fr5) (T.obj _ _ st5)
  refine wpAny_passesOwn hp (thn (hg _ s5 σ3 H5 x u _ I5' r5 (step x H5 y5)) fun _ s6 ⟨σ6, H6, I6, q6⟩ => ?_)
  refine wpAny_passesOwn hp (thn (hb _ s6 σ6 H6 _ I6 q6) fun f s7 q7 => ?_)
  have again : ∀ {σ7 : St} {H7 : Hp}, Inv X (pins ++ zh5 fp s5.heap) σ7 H7 s7 → N σ7 H7 → ∃ m, m < n ∧ ∃ i σ' H', Inv X pins σ' H' s7 ∧ tn i s7.heap ∧ (∀ b ∈ fp, H' b = none) ∧ W i m σ' H' := fun {σ7 H7} I7 n7 => by
   obtain ⟨m', hm, w7⟩ := hN σ7 H7 n7
   refine ⟨m', hm, i + 1, σ7, H7, I7.unpinned, T.keep _ _ _ st5 fun b hb o e => (I7.pin (b, o) (List.mem_append_right _ (List.mem_append_right _ (zdS hb e)))).1, fun b hb => ?_, w7⟩
   obtain ⟨o, e, d⟩ := T.obj _ _ st5 b hb
   exact (I7.pin (b, o) (List.mem_append_right _ (List.mem_append_right _ (zdS hb e)))).2.1
  cases f with
  | next => obtain ⟨σ7, H7, I7, n7⟩ := q7; exact again I7 n7
  | cont => obtain ⟨σ7, H7, I7, n7⟩ := q7; exact again I7 n7
  | brk => obtain ⟨σ7, H7, I7, q7⟩ := q7; exact ⟨σ7, H7, I7.unpinned, q7⟩
  | ret v => obtain ⟨x7, σ7, H7, I7, r7, q7⟩ := q7; exact ⟨x7, σ7, H7, I7.unpinned, r7, q7⟩
end
end L2
namespace L2
open PySem PySem.Spec PyProof.Rows
abbrev R2 := V → V → Hp → VK → Prop
def OpR (X : Cx) (f : Value → Value → Sem Value) (r : R2) : Prop :=
 ∀ (pins : List (Addr × Obj)) (s : Shared) (σ : St) (H : Hp) (x y : V) (v u : Value) (Q : VK), Inv X pins σ H s → zbz x v → zbz y u → r x y H Q →
  wpAny (model X.prog X.w) X.A (f v u) (EP X pins σ Q) X.xe s
def UnR (X : Cx) (f : Value → Sem Value) (r : V → Hp → VK → Prop) : Prop :=
 ∀ (pins : List (Addr × Obj)) (s : Shared) (σ : St) (H : Hp) (x : V) (v : Value) (Q : VK), Inv X pins σ H s → zbz x v → r x H Q →
  wpAny (model X.prog X.w) X.A (f v) (EP X pins σ Q) X.xe s
def zcP (X : Cx) (f : Value) (r : List V → Hp → VK → Prop) : Prop :=
 ∀ (pins : List (Addr × Obj)) (s : Shared) (σ : St) (H : Hp) (xs : List V) (us : List Value) (Q : VK), Inv X pins σ H s → zbt xs us → r xs H Q →
  wpAny (model X.prog X.w) X.A (call f us) (EP X pins σ Q) X.xe s
def tOp (r : R2) (ta tb : TE) : TE := fun σ H Q => ta σ H fun x H1 => tb σ H1 fun y H2 => r x y H2 Q
def tUn (r : V → Hp → VK → Prop) (ta : TE) : TE := fun σ H Q => ta σ H fun x H1 => r x H1 Q
def rI (C : Int → Int → Prop) (g : Int → Int → V) : R2 := fun x y H Q => ∃ i j, x = .int i ∧ y = .int j ∧ C i j ∧ Q (g i j) H
def rI0 (g : Int → Int → V) : R2 := fun x y H Q => ∃ i j, x = .int i ∧ y = .int j ∧ Q (g i j) H
def rU (g : Int → V) : V → Hp → VK → Prop := fun x H Q => ∃ i, x = .int i ∧ Q (g i) H
section
variable {X : Cx} {a b c : Expr} {ta tb tc : TE} {pos : Pos}
theorem ztS (ha : PE X a ta) (hb : PE X b tb) {pins : List (Addr × Obj)} {s : Shared} {σ : St} {H : Hp} {R : V → V → Hp → Prop} (I : Inv X pins σ H s)
  (h : ta σ H fun x H1 => tb σ H1 fun y H2 => R x y H2) {Q : Value → Shared → Prop} {f : Value → Value → Sem Value}
  (hf : ∀ v u s2 x y H2, Inv X pins σ H2 s2 → zbz x v → zbz y u → R x y H2 → wpAny (model X.prog X.w) X.A (f v u) Q X.xe s2) :
  wpAny (model X.prog X.w) X.A (eval a X.env) (fun v s₁ => wpAny (model X.prog X.w) X.A (eval b X.env) (fun u s₂ => wpAny (model X.prog X.w) X.A (f v u) Q X.xe s₂) X.xe s₁) X.xe s := by
 refine thn (ha pins s σ H _ I h) fun v s1 ⟨x, H1, I1, r1, q1⟩ => ?_
 refine thn (hb pins s1 σ H1 _ I1 q1) fun u s2 ⟨y, H2, I2, r2, q2⟩ => ?_
 exact hf v u s2 x y H2 I2 r1 r2 q2
theorem zse {op : Operator} {r : R2} (ho : OpR X (binaryOp op) r) (ha : PE X a ta) (hb : PE X b tb) : PE X (.BinOp a op b pos) (tOp r ta tb) := by
 intro pins s σ H Q I h
 exact wpAny_BinOp (ztS ha hb I h fun v u s2 x y H2 I2 rx ry q => ho pins s2 σ H2 x y v u Q I2 rx ry q)
theorem ztT {op : UnaryOp} {r : V → Hp → VK → Prop} (ho : UnR X (unaryOp op) r) (ha : PE X a ta) : PE X (.UnaryOp op a pos) (tUn r ta) := by
 intro pins s σ H Q I h
 exact UnaryOp_ (thn (ha pins s σ H _ I h) fun v s1 ⟨x, H1, I1, r1, q1⟩ => ho pins s1 σ H1 x v Q I1 r1 q1)
theorem opI {f : Value → Value → Sem Value} {C : Int → Int → Prop} {g : Int → Int → Int}
  (rule : ∀ (i j : Int) (t u : Tok) (s : Shared) (Q : Value → Shared → Prop) (E : Value → Shared → Prop), C i j → Q (.int (g i j) s.toks) { s with toks := s.toks + 1 } → wpAny (model X.prog X.w) X.A (f (.int i t) (.int j u)) Q E s) :
  OpR X f (rI C fun i j => .int (g i j)) := by
 intro pins s σ H x y v u Q I rx ry h
 obtain ⟨i, j, rfl, rfl, hc, q⟩ := h
 obtain ⟨t, rfl⟩ := rx
 obtain ⟨t', rfl⟩ := ry
 exact rule i j t t' s _ _ hc ⟨.int (g i j), H, I.tok _, ⟨_, rfl⟩, q⟩
theorem opI0 {f : Value → Value → Sem Value} {g : Int → Int → Int}
  (rule : ∀ (i j : Int) (t u : Tok) (s : Shared) (Q : Value → Shared → Prop) (E : Value → Shared → Prop), Q (.int (g i j) s.toks) { s with toks := s.toks + 1 } → wpAny (model X.prog X.w) X.A (f (.int i t) (.int j u)) Q E s) :
  OpR X f (rI0 fun i j => .int (g i j)) := by
 intro pins s σ H x y v u Q I rx ry h
 obtain ⟨i, j, rfl, rfl, q⟩ := h
 obtain ⟨t, rfl⟩ := rx
 obtain ⟨t', rfl⟩ := ry
 exact rule i j t t' s _ _ ⟨.int (g i j), H, I.tok _, ⟨_, rfl⟩, q⟩
theorem ztU {f : Value → Value → Sem Value} {g : Int → Int → Bool}
  (rule : ∀ (i j : Int) (t u : Tok) (s : Shared) (Q : Value → Shared → Prop) (E : Value → Shared → Prop), Q (.bool (g i j)) s → wpAny (model X.prog X.w) X.A (f (.int i t) (.int j u)) Q E s) :
  OpR X f (rI0 fun i j => .bl (g i j)) := by
 intro pins s σ H x y v u Q I rx ry h
 obtain ⟨i, j, rfl, rfl, q⟩ := h
 obtain ⟨t, rfl⟩ := rx
 obtain ⟨t', rfl⟩ := ry
 exact rule i j t t' s _ _ ⟨.bl (g i j), H, I, rfl, q⟩
def CPow (i j : Int) : Prop := 0 ≤ j ∧ j ≤ 1000000 ∧ i.natAbs < 2 ^ 64
theorem zk7 (k : Nat) : (0 : Int) ≤ 2 ^ k := by
 rw [two_pow_cast]
 exact Int.natCast_nonneg _
theorem zsf : OpR X (binaryOp .Add) (rI0 fun i j => .int (i + j)) := opI0 fun _ _ _ _ _ _ _ q => add_int q
theorem zqy : OpR X (binaryOp .Mod) (rI (fun _ j => j ≠ 0) fun i j => .int (i.fmod j)) := opI fun _ _ _ _ _ _ _ hc q => mod_int' hc q
theorem zsg : OpR X (binaryOp .Pow) (rI CPow fun i j => .int (i ^ j.toNat)) := opI fun _ _ _ _ _ _ _ hc q => pow_int_small hc.1 hc.2.1 hc.2.2 q
theorem zsh : OpR X (binaryOp .RShift) (rI (fun _ j => 0 ≤ j) fun i j => .int (i / 2 ^ j.toNat)) := opI fun i j _ _ _ _ _ hc q =>
 rshift_int hc (by rw [Int.fdiv_eq_ediv_of_nonneg i (zk7 _)]; exact q)
theorem unI {f : Value → Sem Value} {g : Int → Int}
  (rule : ∀ (i : Int) (t : Tok) (s : Shared) (Q : Value → Shared → Prop) (E : Value → Shared → Prop), Q (.int (g i) s.toks) { s with toks := s.toks + 1 } → wpAny (model X.prog X.w) X.A (f (.int i t)) Q E s) :
  UnR X f (rU fun i => .int (g i)) := by
 intro pins s σ H x v Q I rx h
 obtain ⟨i, rfl, q⟩ := h
 obtain ⟨t, rfl⟩ := rx
 exact rule i t s _ _ ⟨.int (g i), H, I.tok _, ⟨_, rfl⟩, q⟩
theorem zsi : UnR X (unaryOp .USub) (rU fun i => .int (-i)) := unI fun _ _ _ _ _ q => neg_int q
end
section
variable {X : Cx} {a b c : Expr} {ta tb tc : TE} {pos : Pos}
theorem zh6 {pins : List (Addr × Obj)} {σ : St} {H : Hp} {s : Shared} {Q : VK} {k k' : Bool} (I : Inv X pins σ H s) (q : Q (.bl k) H) (e : k = k') : EP X pins σ Q (.bool k') s := by
 subst e
 exact ⟨.bl k, H, I, rfl, q⟩
theorem ztV : OpR X (compareOp .Lt) (rI0 fun i j => .bl (decide (i < j))) := ztU fun _ _ _ _ _ _ _ q => lt_int q
theorem ztW : OpR X (compareOp .LtE) (rI0 fun i j => .bl (decide (i ≤ j))) := ztU fun _ _ _ _ _ _ _ q => le_int q
theorem ztX : OpR X (compareOp .GtE) (rI0 fun i j => .bl (decide (j ≤ i))) := ztU fun _ _ _ _ _ _ _ q => ge_int q
theorem zlT : OpR X (compareOp .In) (fun x y H Q => ∃ i j, x = .str i ∧ y = .str j ∧ Q (.bl (!(Builtin.Str.occurrences j i 0 j.length 1).isEmpty)) H) := by
 intro pins s σ H x y v u Q I rx ry h
 obtain ⟨i, j, rfl, rfl, q⟩ := h
 obtain ⟨t, rfl⟩ := rx
 obtain ⟨t', rfl⟩ := ry
 exact in_str (zh6 I q rfl)
theorem zsj : OpR X (compareOp .Is) (fun x y H Q => y = .non ∧ Q (.bl (decide (x = .non))) H) := by
 intro pins s σ H x y v u Q I rx ry h
 obtain ⟨rfl, q⟩ := h
 cases ry
 refine is_none_gen (zh6 I q ?_)
 cases x <;> first
  | (cases rx; rfl)
  | (obtain ⟨t, rfl⟩ := rx; rfl)
theorem zqz : OpR X (compareOp .IsNot) (fun x y H Q => y = .non ∧ Q (.bl (!decide (x = .non))) H) := by
 intro pins s σ H x y v u Q I rx ry h
 obtain ⟨rfl, q⟩ := h
 cases ry
 refine isnot_none_gen (zh6 I q ?_)
 cases x <;> first
  | (cases rx; rfl)
  | (obtain ⟨t, rfl⟩ := rx; rfl)
theorem OpR.or {f : Value → Value → Sem Value} {r r' : R2} (h : OpR X f r) (h' : OpR X f r') : OpR X f (fun x y H Q => r x y H Q ∨ r' x y H Q) := by
 intro pins s σ H x y v u Q I rx ry q
 rcases q with q | q
 ·exact h pins s σ H x y v u Q I rx ry q
 ·exact h' pins s σ H x y v u Q I rx ry q
theorem zqA {op : CmpOp} {r : R2} (ho : OpR X (compareOp op) r) (ha : PE X a ta) (hb : PE X b tb) (hm : behindInMarks op b = false) : PE X (.Compare a [op] [b] pos) (tOp r ta tb) := by
 intro pins s σ H Q I h
 exact wpAny_Compare1 (ztS ha hb I h fun v u s2 x y H2 I2 rx ry q => ho pins s2 σ H2 x y v u Q I2 rx ry q) hm
def zqB (t : TE) : TT := fun σ H Q => t σ H fun x H' => ∃ k, x = .bl k ∧ Q k H'
theorem zqC {op : CmpOp} {r : R2} (ho : OpR X (compareOp op) r) (ha : PE X a ta) (hb : PE X b tb) (hm : behindInMarks op b = false) : PT X (.Compare a [op] [b] pos) (zqB (tOp r ta tb)) := by
 intro pins s σ H Q I h
 refine wpAny_isTrue_Compare1 (thn (ha pins s σ H _ I h) fun v s1 ⟨x, H1, I1, r1, q1⟩ => thn (hb pins s1 σ H1 _ I1 q1) fun u s2 ⟨y, H2, I2, r2, q2⟩ =>
  thn (ho pins s2 σ H2 x y v u _ I2 r1 r2 q2) fun c s3 ⟨z, H3, I3, r3, k, e, q3⟩ => ?_) hm
 subst e
 cases r3
 exact wpAny_truthy_bool ⟨H3, I3, q3⟩
def zpg (r r' : R2) (ta tb tc : TE) : TE := fun σ H Q => ta σ H fun x H1 => tb σ H1 fun y H2 => r x y H2 fun z H3 => ∃ k, z = .bl k ∧
 (if k = true then tc σ H3 fun w' H4 => r' y w' H4 Q else Q (.bl false) H3)
theorem zob {op op' : CmpOp} {r r' : R2} (ho : OpR X (compareOp op) r) (ho' : OpR X (compareOp op') r') (ha : PE X a ta) (hb : PE X b tb) (hc : PE X c tc)
  (hm : lastMarks [op, op'] [b, c] = false := by with_unfolding_all rfl) : PT X (.Compare a [op, op'] [b, c] pos) (zqB (zpg r r' ta tb tc)) := by
 intro pins s σ H Q I h
 refine isTrue_chain (thn (ha pins s σ H _ I h) fun v s1 ⟨x, H1, I1, r1, q1⟩ => test_link (thn (hb pins s1 σ H1 _ I1 q1) fun u s2 ⟨y, H2, I2, r2, q2⟩ =>
  thn (ho pins s2 σ H2 x y v u _ I2 r1 r2 q2) fun d s3 ⟨z, H3, I3, r3, k, e, q3⟩ => ?_)) hm
 subst e
 cases r3
 refine wpAny_truthy_bool ?_
 cases k with
 | false =>
  obtain ⟨k', e', q'⟩ := q3
  cases e'
  exact ite_ff ⟨H3, I3, q'⟩
 | true =>
  refine ite_tt (test_last (thn (hc pins s3 σ H3 _ I3 q3) fun w' s4 ⟨z', H4, I4, r4, q4⟩ => thn (ho' pins s4 σ H4 y z' u w' _ I4 r2 r4 q4) fun d' s5 ⟨z2, H5, I5, r5, k2, e2, q5⟩ => ?_))
  subst e2
  cases r5
  exact wpAny_truthy_bool ⟨H5, I5, q5⟩
theorem zh7 : (sizeLine : Nat) < 2 ^ 63 := by rw [sizeLine_eq]; decide
theorem zk8 : OpR X (binaryOp .Add) (fun x y H Q => ∃ i j, x = .str i ∧ y = .str j ∧ i.length + j.length ≤ sizeLine ∧ Q (.str (i ++ j)) H) := by
 intro pins s σ H x y v u Q I rx ry h
 obtain ⟨i, j, rfl, rfl, hz, q⟩ := h
 obtain ⟨t, rfl⟩ := rx
 obtain ⟨t', rfl⟩ := ry
 exact add_str (fun t' tk => ⟨.str (i ++ j), H, I.tok _, ⟨_, rfl⟩, q⟩) hz
theorem zgE {x : V} {us : List Value} (r : zbt [x] us) : ∃ u, us = [u] ∧ zbz x u := by
 cases r with
 | cons r1 r2 => cases r2; exact ⟨_, rfl, r1⟩
theorem zsk {x y : V} {us : List Value} (r : zbt [x, y] us) : ∃ u w', us = [u, w'] ∧ zbz x u ∧ zbz y w' := by
 cases r with
 | cons r1 r2 =>
  cases r2 with
  | cons r3 r4 => cases r4; exact ⟨_, _, rfl, r1, r3⟩
theorem zoc : zcP X (.builtin "abs") (fun xs H Q => ∃ i, xs = [.int i] ∧ Q (.int (if i < 0 then -i else i)) H) := by
 intro pins s σ H xs us Q I r h
 obtain ⟨i, rfl, q⟩ := h
 obtain ⟨u, rfl, t, rfl⟩ := zgE r
 exact call_abs_int fun u tk => ⟨.int (if i < 0 then -i else i), H, I.tok _, ⟨_, rfl⟩, q⟩
end
end L2
namespace L2
open PySem PySem.Spec PyProof.Rows
structure zfi (k : Nat) (A : Around) : Prop where
 hd : A.handled = none
 dp : A.depth + 3 * k + 5 < recursionLimit
 un : A.units + 16 * k + 200 < cLine
theorem zfi.mono {j k : Nat} {A : Around} (r : zfi k A) (h : j ≤ k) : zfi j A := ⟨r.hd, by have := r.dp; omega, by have := r.un; omega⟩
theorem zfi.deeper {k : Nat} {A : Around} (r : zfi (k + 1) A) (env : Env) : zfi k (A.deeper env) :=
 ⟨r.hd, by have := r.dp; show A.depth + 1 + 3 * k + 5 < _; omega, by have := r.un; show A.units + 3 + 16 * k + 200 < _; omega⟩
theorem zfi.depth {k : Nat} {A : Around} (r : zfi k A) : A.depth < recursionLimit := by have := r.dp; omega
def tNil : TA := fun _ H Q => Q [] H
def ztY (ta : TE) (tr : TA) : TA := fun σ H Q => ta σ H fun x H1 => tr σ H1 fun xs H2 => Q (x :: xs) H2
section
variable {X : Cx} {e : Expr} {es : List Expr} {te : TE} {t : TA} {pos : Pos}
theorem zph : PA X [] tNil := fun _ _ _ _ H Q I h => Calls.spliced_nil ⟨[], H, I, .nil, h⟩
theorem zlU (ha : PE X e te) (hr : PA X es t) (hs : starEach (e :: es) X.env = (false, eval e X.env) :: starEach es X.env := by rfl) : PA X (e :: es) (ztY te t) := by
 intro pos pins s σ H Q I h
 rw [hs]
 show wpAny _ _ (spliced ((false, eval e X.env) :: backTo pos (starEach es X.env))) _ _ s
 refine Calls.spliced_cons (thn (ha pins s σ H _ I h) fun u s1 ⟨x, H1, I1, r1, q1⟩ => ?_)
 exact thn (hr pos pins s1 σ H1 _ I1 q1) fun us s2 ⟨xs, H2, I2, r2, q2⟩ => ⟨x :: xs, H2, I2, .cons r1 r2, q2⟩
def tTup (t : TA) : TE := fun σ H Q => t σ H fun xs H1 => xs.length ≤ sizeLine ∧ ∀ p, H1 p = none → Q (.ref p) (upd H1 p (.tup xs))
def tLst (t : TA) : TE := fun σ H Q => t σ H fun xs H1 => xs.length ≤ sizeLine ∧ ∀ p, H1 p = none → Q (.ref p) (upd H1 p (.lst xs))
theorem zsl {x1} (h : PA X es t) : PE X (.Tuple es x1 pos) (tTup t) := by
 intro pins s σ H Q I hq
 refine wpAny_Tuple_spliced (thn (h pos pins s σ H _ I hq) fun us s1 ⟨xs, H1, I1, r, z, q⟩ => ⟨by rw [← r.length]; exact z, ?_⟩)
 have hf : H1 s1.heap.objs.size = none := I1.hok.fresh (Nat.le_refl _)
 refine ⟨.ref s1.heap.objs.size, upd H1 s1.heap.objs.size (.tup xs), I1.laid (t' := s1.toks) (fun b u e => Heap.get?_push_of_some _ e) (Nat.le_refl _) ?_, rfl, q _ hf⟩
 exact ⟨z, us, r, ⟨_, Heap.get?_push_size _ rfl, rfl, _, rfl⟩⟩
theorem zsm (h : PA X es t) : PE X (.List es pos) (tLst t) := by
 intro pins s σ H Q I hq
 refine wpAny_List_spliced (thn (h pos pins s σ H _ I hq) fun us s1 ⟨xs, H1, I1, r, z, q⟩ => ⟨by rw [← r.length]; exact z, ?_⟩)
 have hf : H1 s1.heap.objs.size = none := I1.hok.fresh (Nat.le_refl _)
 refine ⟨.ref s1.heap.objs.size, upd H1 s1.heap.objs.size (.lst xs), I1.laid (t' := s1.toks) (fun b u e => Heap.get?_push_of_some _ e) (Nat.le_refl _) ?_, rfl, q _ hf⟩
 exact ⟨z, us, 0, r, Heap.get?_push_size _ rfl⟩
end
abbrev Sp := List V → Hp → VK → XK → Prop
abbrev CXT := List Env → Hp → Shared → XK → Value → Shared → Prop
structure ztA (P : Program) (w : World) (K : PySem.W.Frag) (mg : Str → Option Value) (base : Heap) (A : Around) (outer : List Env) (s : Shared) (H : Hp) : Prop where
 frames : A.frames = some outer
 mod : Mod K mg base
 bs : ∀ b o, base.get? b = some o → s.heap.get? b = some o ∧ H b = none
 bsz : base.objs.size ≤ s.heap.objs.size
 funs : s.heap.FunFrames base outer
 frf : ∀ b ∈ frs outer, H b = none
 hok : HOk P w H s.heap
 bare : AllBare s.gens
def CE (outer : List Env) (P : Program) (w : World) (H : Hp) (s : Shared) (Q : VK) (u : Value) (s' : Shared) : Prop :=
 ∃ v H', s'.os = s.os ∧ AllBare s'.gens ∧ Un (frs outer) [] H H' s.heap s'.heap ∧ HOk P w H' s'.heap ∧ zbz v u ∧ Q v H'
def CR (CX : CXT) (outer : List Env) (P : Program) (w : World) (H : Hp) (s : Shared) (Q : VK) (E : XK) (r : Result) (s' : Shared) : Prop :=
 match r with
 | .ok (.ret u) => CE outer P w H s Q u s'
 | .ok _ => False
 | .error e => CX outer H s E e s'
structure zgT (P : Program) (w : World) (K : PySem.W.Frag) (mg : Str → Option Value) (base : Heap) (CX : CXT) (k : Nat) (f : Addr) (fd : FuncData) (ps : List Str) (sp : Sp) : Prop where
 len : ∀ vs H Q E, sp vs H Q E → vs.length = ps.length
 run : ∀ (A : Around) (outer : List Env) (s : Shared) (H : Hp) (args : Args) (us : List Value) (vs : List V) (Q : VK) (E : XK), zfi k A → ztA P w K mg base A outer s H → BindsTo s fd args (ps.zip us) → zbt vs us → sp vs H Q E →
  codeAny (model P w) A (.call (.ref f) args) (CR CX outer P w H s Q E) s
theorem zgT.mono {P : Program} {w : World} {K : PySem.W.Frag} {mg : Str → Option Value} {base : Heap} {CX : CXT} {j k : Nat} {f : Addr} {fd : FuncData} {ps : List Str} {sp : Sp} (F : zgT P w K mg base CX j f fd ps sp) (h : j ≤ k) :
  zgT P w K mg base CX k f fd ps sp := ⟨F.len, fun A outer s H args us vs Q E hr => F.run A outer s H args us vs Q E (hr.mono h)⟩
theorem zgT.imp {P : Program} {w : World} {K : PySem.W.Frag} {mg : Str → Option Value} {base : Heap} {CX : CXT} {k : Nat} {f : Addr} {fd : FuncData} {ps : List Str} {sp sp' : Sp} (F : zgT P w K mg base CX k f fd ps sp)
  (h : ∀ vs H Q E, sp' vs H Q E → sp vs H Q E) : zgT P w K mg base CX k f fd ps sp' :=
 ⟨fun vs H Q E q => F.len vs H Q E (h _ _ _ _ q), fun A outer s H args us vs Q E hr he hb hv hs => F.run A outer s H args us vs Q E hr he hb hv (h _ _ _ _ hs)⟩
section
variable {X : Cx} {pins : List (Addr × Obj)} {σ : St} {H : Hp} {s s' : Shared}
theorem Inv.env0 (I : Inv X pins σ H s) : ztA X.prog X.w X.K X.mg X.base X.A X.stack s H :=
 ⟨I.ok.frames, I.ok.mod, I.bs, Nat.le_trans I.ok.bsz I.sz, I.stack, I.stkFree, I.hok, I.bare⟩
theorem Inv.after {Q : VK} {u : Value} (I : Inv X pins σ H s) (h : CE X.stack X.prog X.w H s Q u s') : EP X pins σ Q u s' := by
 obtain ⟨v, H', os, bare, un, hok, r, q⟩ := h
 obtain ⟨hh, g, d, t, os'⟩ := s'
 obtain rfl : os' = s.os := os
 exact ⟨v, H', I.call (h' := hh) (g' := g) (d' := d) (t' := t) (ch := []) un hok bare (fun b z => absurd z (by simp)), r, q⟩
end
def ztZ (sp : Sp) (dvs : List V) (E : XK) (t : TA) : TE := fun σ H Q => t σ H fun vs H1 => sp (vs ++ dvs) H1 Q E
def za8 (K : PySem.W.Frag) (fd : FuncData) (ps : List Str) (ds : List Value) : Prop :=
 ∀ (s : Shared) (us : List Value), K.In s.heap → (us ++ ds).length = ps.length → BindsTo s fd ⟨us, []⟩ (ps.zip (us ++ ds))
theorem za8.all {K : PySem.W.Frag} {fd : FuncData} {ps : List Str} (h : ∀ us : List Value, us.length = ps.length → bindArgs fd ⟨us, []⟩ = pure (ps.zip us)) : za8 K fd ps [] := fun s us _ hl => by
 rw [List.append_nil] at hl ⊢
 exact .of_eq (h us hl)
def zh8 (CX : CXT) (X : Cx) (E : XK) : Prop := ∀ (pins : List (Addr × Obj)) (σ : St) (H : Hp) (s : Shared) (e : Value) (s' : Shared), Inv X pins σ H s → CX X.stack H s E e s' → X.xe e s'
section
variable {X : Cx} {CX : CXT} {k : Nat} {f C : Addr} {fd : FuncData} {ps : List Str} {sp : Sp} {dvs : List V} {ds : List Value} {E : XK} {x m : Str} {p pos apos : Pos} {e o : Expr} {es : List Expr} {ta : TE} {t : TA}
theorem zsn {pins : List (Addr × Obj)} {σ : St} {H : Hp} {s : Shared} {Q : VK} {us : List Value} {vs : List V} (F : zgT X.prog X.w X.K X.mg X.base CX k f fd ps sp) (hr : zfi k X.A) (hb : za8 X.K fd ps ds) (hd : zbt dvs ds) (hx : zh8 CX X E)
  (I : Inv X pins σ H s) (r : zbt vs us) (h : sp (vs ++ dvs) H Q E) : wpAny (model X.prog X.w) X.A (call (.ref f) us) (EP X pins σ Q) X.xe s := by
 have r2 : zbt (vs ++ dvs) (us ++ ds) := r.append hd
 have hl : (us ++ ds).length = ps.length := by rw [← r2.length]; exact F.len _ _ _ _ h
 refine wpAny_call (codeAny_mono (F.run X.A X.stack s H ⟨us, []⟩ (us ++ ds) (vs ++ dvs) Q E hr I.env0 (hb s us I.kIn hl) r2 h) fun r s' hq => ?_)
 cases r with
 | error e => exact hx pins σ H s e s' I hq
 | ok fl =>
  cases fl with
  | ret u => exact I.after hq
  | next => exact False.elim hq
  | brk => exact False.elim hq
  | cont => exact False.elim hq
theorem zqD (F : zgT X.prog X.w X.K X.mg X.base CX k f fd ps sp) (hr : zfi k X.A) (hg : Gl X x) (hm : X.mg x = some (.ref f)) (hk : PySem.W.keepIn X.K (.ref f) = true) (hb : za8 X.K fd ps ds) (hd : zbt dvs ds) (hx : zh8 CX X E)
  (ha : PA X (e :: es) t) (hdb : (x == ("__debug__" : Str)) = false := by decide) (he : starEach (e :: es) X.env = (false, eval e X.env) :: starEach es X.env := by rfl) (hpl : (backTo pos (starEach es X.env)).any (·.1) = false := by rfl) :
  PE X (.Call (.Name x p) (e :: es) [] pos) (ztZ sp dvs E t) := by
 intro pins s σ H Q I h
 refine wpAny_Call_Name_kw (zhp I hg hm ?_ hdb)
 refine PySem.W.callWith_K (h₀ := X.base) I.ok.mod.kin hk (thn (ha pos pins s σ H _ I h) fun us s1 ⟨vs, H1, I1, r, q⟩ => ⟨I1.kIn, ?_⟩) he hpl
 exact zsn F hr hb hd hx I1 r q
end
structure zay (N P : List Str) (sc : Scope) : Prop where
 kind : sc.kind = .function
 co : sc.isCoroutine = false
 gen : sc.isGenerator = false
 nd : N.Nodup
 pre : N.take P.length = P
 par : ∀ x ∈ P, sc.names.lookup x = some .local ∨ sc.names.lookup x = some .cell
 nofree : ∀ y ∈ sc.names, y.2 ≠ .free
theorem zh9 {kindOf : Str → Option NameKind} {x : Str} : ∀ {binds : List (Str × Value)} {m : Str → Option Value}, (∀ v, (x, v) ∉ binds) → bindL kindOf binds m x = m x
 | [], _, _ => rfl
 | (n, v) :: r, m, h => by
  unfold bindL
  rw [zh9 fun w hw => h w (List.mem_cons_of_mem _ hw)]
  split
  ·have : x ≠ n := by rintro rfl; exact h v List.mem_cons_self
   simp [this]
  ·rfl
theorem zia {kindOf : Str → Option NameKind} {x : Str} : ∀ {binds : List (Str × Value)} {m : Str → Option Value}, (∀ v, (x, v) ∉ binds) → bindC kindOf binds m x = m x
 | [], _, _ => rfl
 | (n, v) :: r, m, h => by
  unfold bindC
  rw [zia fun w hw => h w (List.mem_cons_of_mem _ hw)]
  split
  ·rfl
  ·have : x ≠ n := by rintro rfl; exact h v List.mem_cons_self
   simp [this]
theorem zib {kindOf : Str → Option NameKind} {x : Str} {v : Value} : ∀ {P : List Str} {vs : List Value} {i : Nat} {m : Str → Option Value}, P.Nodup → P[i]? = some x → vs[i]? = some v → kindOf x = some .local →
  bindL kindOf (P.zip vs) m x = some v
 | [], _, _, _, _, h, _, _ => by simp at h
 | _ :: _, [], _, _, _, _, h, _ => by simp at h
 | p :: P, w :: vs, 0, m, nd, h1, h2, hk => by
  simp at h1 h2; subst h1; subst h2
  show bindL kindOf ((p, w) :: P.zip vs) m p = _
  unfold bindL
  rw [zh9 fun v hv => (List.nodup_cons.mp nd).1 (List.of_mem_zip hv).1, if_pos hk]
  simp
 | p :: P, w :: vs, i + 1, m, nd, h1, h2, hk => by
  show bindL kindOf ((p, w) :: P.zip vs) m x = _
  unfold bindL
  exact zib (i := i) (List.nodup_cons.mp nd).2 (by simpa using h1) (by simpa using h2) hk
theorem zic {kindOf : Str → Option NameKind} {x : Str} {v : Value} : ∀ {P : List Str} {vs : List Value} {i : Nat} {m : Str → Option Value}, P.Nodup → P[i]? = some x → vs[i]? = some v → kindOf x ≠ some .local →
  bindC kindOf (P.zip vs) m x = some v
 | [], _, _, _, _, h, _, _ => by simp at h
 | _ :: _, [], _, _, _, _, h, _ => by simp at h
 | p :: P, w :: vs, 0, m, nd, h1, h2, hk => by
  simp at h1 h2; subst h1; subst h2
  show bindC kindOf ((p, w) :: P.zip vs) m p = _
  unfold bindC
  rw [zia fun v hv => (List.nodup_cons.mp nd).1 (List.of_mem_zip hv).1, if_neg hk]
  simp
 | p :: P, w :: vs, i + 1, m, nd, h1, h2, hk => by
  show bindC kindOf ((p, w) :: P.zip vs) m x = _
  unfold bindC
  exact zic (i := i) (List.nodup_cons.mp nd).2 (by simpa using h1) (by simpa using h2) hk
def start (N : List Str) (vs : List V) : St := vs.map some ++ List.replicate (N.length - vs.length) none
def zh3 (CX : CXT) (P : Program) (w : World) (K : PySem.W.Frag) (mg : Str → Option Value) (base : Heap) (N : List Str) (qual : Str) (scope : Scope) (f : Addr) (cd : Value) (A : Around) (outer : List Env) (s : Shared) (H : Hp) (E : XK) : Cx where
 prog := P
 w := w
 K := K
 mg := mg
 base := base
 A := A.deeper (envOfC qual scope s.heap.objs.size f cd)
 N := N
 s₀ := s
 H₀ := H
 env := envOfC qual scope s.heap.objs.size f cd
 outer := outer
 stack := envOfC qual scope s.heap.objs.size f cd :: outer
 ex := []
 calm := true
 fn := fun _ => true
 pn := []
 xe := fun e s' => wpAny (model P w) (A.deeper (envOfC qual scope s.heap.objs.size f cd)) (leaving (envOfC qual scope s.heap.objs.size f cd) e) (fun _ s'' => CX outer H s E e s'') (fun e' s'' => CX outer H s E e' s'') s'
theorem zjK {sc : Scope} {n : Nat} {x : Str} (h : sc.names.lookup x = some .cell) : ∃ c, (cellsFrom n sc.names []).lookup x = some c := by
 have q := PySem.W.cellsFrom_some sc.names n [] (.inl h)
 exact Option.isSome_iff_exists.mp q
theorem zlV {CX : CXT} {P : Program} {w : World} {K : PySem.W.Frag} {mg : Str → Option Value} {base : Heap} {N ps : List Str} {qual : Str} {scope : Scope} {f : Addr} {cd : Value} {A : Around} {outer : List Env} {s s1 : Shared} {H : Hp} {E : XK} {us : List Value} {vs : List V}
  (S : zay N ps scope) (hd : A.handled = none) (e0 : ztA P w K mg base A outer s H) (hl : vs.length = ps.length) (r : zbt vs us)
  (x : InCallC s s.heap.objs.size (bindL (envOfC qual scope s.heap.objs.size f cd).kindOf (ps.zip us) fun _ => none) (cellsFrom (s.heap.objs.size + 1) scope.names []) (bindC (envOfC qual scope s.heap.objs.size f cd).kindOf (ps.zip us) fun _ => none) s1) :
  Inv (zh3 CX P w K mg base N qual scope f cd A outer s H E) [] (start N vs) H s1 := by
 have hpl : ps.length ≤ N.length := by have := congrArg List.length S.pre; rw [List.length_take] at this; omega
 obtain ⟨h1, tk, rfl, hk⟩ := x.done
 have noA : ∀ b : Addr, b ∉ (zh3 CX P w K mg base N qual scope f cd A outer s H E).ex := fun b z => absurd (show b ∈ ([] : List Addr) from z) (by simp)
 refine ⟨⟨e0.mod, S.kind, rfl, rfl, Nat.le_refl _, fun y z c h1 h2 => ?_, fun y hy => ?_, fun y c _ h => ?_, fun _ => hd, Around.frames_deeper e0.frames, .inr ⟨rfl, rfl⟩, fun b z => absurd z (noA b), e0.bs, e0.bsz, fun b _ _ => noA b, fun b z => absurd z (noA b), e0.funs, e0.frf⟩,
  rfl, e0.bare, Un.kept hk, ⟨_, x.toInCall.ns, fun i y v h1 h2 h3 => ?_⟩, fun y c h => ⟨_, x.cell y c h⟩, e0.hok.fresh (Nat.le_refl _), fun y c h => ?_, fun p hp => absurd (show p ∈ ([] : List (Addr × Obj)) from hp) (by simp), e0.hok.kept hk, ?_⟩
 ·exact name_of_addr x.apart (PySem.mem_of_lookup h1) (PySem.mem_of_lookup h2)
 ·have hy : scope.names.lookup y = some .cell ∨ scope.names.lookup y = some .free := hy
  rcases hy with hy | hy
  ·exact zjK hy
  ·exact absurd rfl (S.nofree _ (PySem.mem_of_lookup hy))
 ·exact Nat.le_of_lt (x.above y c (PySem.mem_of_lookup h))
 ·have hi : i < vs.length := by
   unfold start at h2
   by_cases hi : i < vs.length
   ·exact hi
   ·rw [List.getElem?_append_right (by simpa using hi)] at h2
    rw [List.getElem?_replicate] at h2
    split at h2 <;> cases h2
  have ha : vs[i]? = some v := by
   unfold start at h2
   rw [List.getElem?_append_left (by simpa using hi), List.getElem?_map] at h2
   cases e : vs[i]? with
   | none => rw [e] at h2; cases h2
   | some a => rw [e] at h2; cases h2; rfl
  obtain ⟨u, hu, rv⟩ := r.get ha
  have hp : ps[i]? = some y := by
   rw [← S.pre, List.getElem?_take_of_lt (by omega)]; exact h1
  have ndP : ps.Nodup := by rw [← S.pre]; exact S.nd.sublist (List.take_sublist _ _)
  refine ⟨u, rv, ?_⟩
  rcases S.par y (List.mem_of_getElem? hp) with k | k
  ·exact .inl ⟨k, zib ndP hp hu k⟩
  ·obtain ⟨c, e⟩ := zjK (n := s.heap.objs.size + 1) k
   refine .inr ⟨.inl k, c, e, ?_⟩
   have q := x.cell y c e
   rw [zic ndP hp hu (by show scope.names.lookup y ≠ _; rw [k]; decide)] at q
   exact q
 ·exact e0.hok.fresh (Nat.le_of_lt (x.above y c (PySem.mem_of_lookup h)))
 ·unfold start
  show _ = N.length
  rw [List.length_append, List.length_map, List.length_replicate]
  omega
theorem zt0 {CX : CXT} {P : Program} {w : World} {K : PySem.W.Frag} {mg : Str → Option Value} {base : Heap} {k : Nat} {f : Addr} {name qual : Str} {params : Arguments} {body : List Stmt} {scope : Scope} {dV kV doc pm cdv ct oc : Value} {an od : Option Addr}
  {osl : Array (Option Value)} {N ps : List Str} {sp : Sp} (lk : K.lookup f = some ⟨oc, od, .func (PySem.W.fnOf name qual params body scope dV kV doc pm an cdv ct), osl⟩) (hcd : PySem.W.codeIn K cdv qual = true) (S : zay N ps scope)
  (len : ∀ vs H Q E, sp vs H Q E → vs.length = ps.length)
  (hbody : ∀ (A : Around) (outer : List Env) (s : Shared) (H : Hp) (vs : List V) (Q : VK) (E : XK), zfi k (A.deeper (envOfC qual scope s.heap.objs.size f cdv)) → sp vs H Q E →
   ∃ t, PSs (zh3 CX P w K mg base N qual scope f cdv A outer s H E) body t ∧ t { nx := fun _ H' => Q .non H', rt := Q } (start N vs) H) :
  zgT P w K mg base CX (k + 1) f (PySem.W.fnOf name qual params body scope dV kV doc pm an cdv ct) ps sp := by
 refine ⟨len, fun A outer s H args us vs Q E hr e0 hb r hsp => ?_⟩
 have hl := len _ _ _ _ hsp
 have KX : K.In s.heap := e0.mod.kin.keeps fun b o e => (e0.bs b o e).1
 have lim : s.heap.NoLimit := e0.mod.nolimit.keeps fun b o e => (e0.bs b o e).1
 have hkind : ∀ y ∈ ps.zip us, scope.names.lookup y.1 = some .local ∨ (scope.names.lookup y.1 = some .cell ∧ ((cellsFrom (s.heap.objs.size + 1) scope.names []).lookup y.1).isSome = true) := fun ⟨n, v⟩ hy => by
  rcases S.par n (List.of_mem_zip hy).1 with q | q
  ·exact .inl q
  ·exact .inr ⟨q, PySem.W.cellsFrom_some _ _ _ (.inl q)⟩
 refine codeAny_call_function hr.depth (KX _ _ lk) rfl S.co S.gen rfl (PySem.W.codeRec_of KX hcd) (hb _ _ _ _ ?_)
 refine wpAny_newFunctionEnv_cells S.kind hkind fun env he s1 x => ?_
 subst he
 refine ⟨lim.keeps x.toInCall.keep, codeAny_func ?_⟩
 obtain ⟨t, ht, hq⟩ := hbody A outer s H vs Q E (hr.deeper _) hsp
 have I : Inv (zh3 CX P w K mg base N qual scope f cdv A outer s H E) [] (start N vs) H s1 := zlV S hr.hd e0 hl r x
 refine wpAny_mono (ht [] s1 (start N vs) H _ I hq) (fun fl s' hs => ?_) fun e s' hs => hs
 have fin : ∀ {σ' : St} {H' : Hp} {v : V} {u : Value}, Inv (zh3 CX P w K mg base N qual scope f cdv A outer s H E) [] σ' H' s' → zbz v u → Q v H' → CE outer P w H s Q u s' :=
  fun {σ' H' v u} J rv q => ⟨v, H', J.os, J.bare, J.base, J.hok, rv, q⟩
 cases fl with
 | ret u =>
  obtain ⟨v, σ', H', J, rv, q⟩ := hs
  exact fin J rv q
 | next =>
  obtain ⟨σ', H', J, q⟩ := hs
  exact fin (v := V.non) (u := Value.none) J rfl q
 | brk =>
  obtain ⟨_, _, _, q⟩ := hs
  exact False.elim q
 | cont =>
  obtain ⟨_, _, _, q⟩ := hs
  exact False.elim q
end L2
namespace L2
open PySem PySem.Spec PyProof.Rows
section
variable {X : Cx} {x : Str} {p pos : Pos} {e : Expr} {es : List Expr} {t : TA} {id T : String} {r : List V → Hp → VK → Prop}
def tCB (r : List V → Hp → VK → Prop) (t : TA) : TE := fun σ H Q => t σ H fun vs H1 => r vs H1 Q
theorem zjL (hc : zcP X (.builtin id) r) (hg : Gl X x) (hm : X.mg x = none) (hv : bootBuiltins x = some (.builtin id)) (ha : PA X (e :: es) t) (hn : x ≠ "__name__" := by decide) (hdb : (x == ("__debug__" : Str)) = false := by decide)
  (he : starEach (e :: es) X.env = (false, eval e X.env) :: starEach es X.env := by rfl) (hpl : (backTo pos (starEach es X.env)).any (·.1) = false := by rfl) : PE X (.Call (.Name x p) (e :: es) [] pos) (tCB r t) := by
 intro pins s σ H Q I h
 refine wpAny_Call_Name_kw (zgS I hg hm hv ?_ hn hdb)
 exact PyProof.Rows.callWith_builtin1 (thn (ha pos pins s σ H _ I h) fun us s1 ⟨vs, H1, I1, r1, q1⟩ => hc pins s1 σ H1 vs us Q I1 r1 q1) he hpl
theorem zfE (hc : zcP X (.type T) r) (hg : Gl X x) (hm : X.mg x = none) (hv : bootBuiltins x = some (.type T)) (ha : PA X (e :: es) t) (hn : x ≠ "__name__" := by decide) (hdb : (x == ("__debug__" : Str)) = false := by decide)
  (he : starEach (e :: es) X.env = (false, eval e X.env) :: starEach es X.env := by rfl) (hpl : (backTo pos (starEach es X.env)).any (·.1) = false := by rfl) : PE X (.Call (.Name x p) (e :: es) [] pos) (tCB r t) := by
 intro pins s σ H Q I h
 refine wpAny_Call_Name_kw (zgS I hg hm hv ?_ hn hdb)
 exact PyProof.Rows.callWith_type1 (thn (ha pos pins s σ H _ I h) fun us s1 ⟨vs, H1, I1, r1, q1⟩ => hc pins s1 σ H1 vs us Q I1 r1 q1) he hpl
end
end L2
namespace HT
open PySem PyProof.Rows
section
variable {prog : Program} {w : World} {A : Around} {E : Value → Shared → Prop} {s : Shared}
theorem cat_tup {t b : Addr} {vs ws : List Value} {Q : Value → Shared → Prop} (ht : IsTup s.heap t vs.toArray) (hb : IsTup s.heap b ws.toArray) (hv : vs ≠ [])
  (h1 : ws = [] → Q (.ref t) s) (h2 : ws ≠ [] → Q (.ref s.heap.objs.size) { s with heap := s.heap.push { cls := .type "tuple", data := .seq (vs ++ ws).toArray } })
  (hsz : vs.length + ws.length ≤ sizeLine) : wpAny (model prog w) A (binaryOp .Add (.ref t) (.ref b)) Q E s := by
 obtain ⟨⟨cls, dd, data, sl⟩, ho, hc, n, hd⟩ := id ht
 obtain ⟨⟨cls2, dd2, data2, sl2⟩, ho2, hc2, n2, hd2⟩ := id hb
 simp only at hc hd hc2 hd2
 subst hc hd hc2 hd2
 have e : vs.toArray ++ ws.toArray = (vs ++ ws).toArray := by simp
 by_cases hw : ws = []
 ·exact concat_meets ⟨_, ho, rfl⟩ ⟨_, ho2, rfl⟩ noFill_tuple_add seq_tuple_add PySem.F.slot_tuple_add PySem.F.entry_tuple_add (PySem.F.args_tuple_add_2 _ _)
   (tuple_addW1 t b vs.toArray ws.toArray n n2 dd dd2 sl sl2 (by simpa using hv) (by simp [hw])) ⟨ho, ho2, h1 hw⟩
 ·refine concat_meets ⟨_, ho, rfl⟩ ⟨_, ho2, rfl⟩ noFill_tuple_add seq_tuple_add PySem.F.slot_tuple_add PySem.F.entry_tuple_add (PySem.F.args_tuple_add_2 _ _)
   (tuple_addW2 t b vs.toArray ws.toArray n n2 dd dd2 sl sl2 (by simpa using hv) (by simpa using hw) (by rw [List.size_toArray, List.size_toArray]; exact hsz)) ⟨ho, ho2, ?_⟩
  rw [e]
  exact h2 hw
def sIx (n d : Nat) : Option Int → Nat
 | none => d
 | some v => if v < 0 then (v + (n : Int)).toNat else min v.toNat n
theorem sIx_none (n d : Nat) : sIx n d none = d := rfl
theorem sIx_nat (n d k : Nat) : sIx n d (some (k : Int)) = min k n := by
 show (if (k : Int) < 0 then ((k : Int) + (n : Int)).toNat else min (k : Int).toNat n) = min k n
 rw [if_neg (by omega), Int.toNat_natCast]
theorem zso (n d : Nat) (hd : d ≤ n) (o : Option Int) : sIx n d o ≤ n := by
 cases o with
 | none => exact hd
 | some v =>
  show (if v < 0 then (v + (n : Int)).toNat else min v.toNat n) ≤ n
  by_cases hv : v < 0
  ·rw [if_pos hv]; omega
  ·rw [if_neg hv]; exact Nat.min_le_right _ _
theorem zlW (v : Int) (n d : Nat) : (if v < 0 then max (v + (n : Int)) 0 else min v (n : Int)) = ((sIx n d (some v) : Nat) : Int) := by
 show (if v < 0 then max (v + (n : Int)) 0 else min v (n : Int)) = (((if v < 0 then (v + (n : Int)).toNat else min v.toNat n) : Nat) : Int)
 by_cases hv : v < 0
 ·simp only [if_pos hv]; omega
 ·simp only [if_neg hv]; omega
theorem zk9 (lo hi : Option Int) (n : Nat) : Builtin.Slice.sliceAdjust lo hi 1 (n : Int) = (((sIx n 0 lo : Nat) : Int), ((sIx n n hi : Nat) : Int)) := by
 have h1 : ¬ ((1 : Int) < 0) := by omega
 unfold Builtin.Slice.sliceAdjust
 simp only [h1, if_false]
 refine Prod.ext ?_ ?_
 ·cases lo with
  | none => rfl
  | some v => exact zlW v n 0
 ·cases hi with
  | none => rfl
  | some v => exact zlW v n n
theorem zla (i j : Nat) : Builtin.Slice.slicePlaces (i : Int) (j : Int) 1 = j - i := by
 unfold Builtin.Slice.slicePlaces
 have h1 : (1 : Int) > 0 := by omega
 simp only [h1, if_true, Int.ediv_one]
 split <;> omega
theorem zgU {v : Value} {o : Option Int} {Q : Option Int → Shared → Prop} (p : IsPart v o) (h : Q o s) : wpAny (model prog w) A (Builtin.Slice.slicePartIndex v) Q E s := by
 cases p with
 | none => exact slicePart_none h
 | int i t => exact slicePart_int h
theorem zfj {sl : Addr} {vl vu : Value} {lo hi : Option Int} {n : Nat} {Q : Int × Int × Nat → Shared → Prop} (hs : s.heap.IsSliceOf sl vl vu .none) (pl : IsPart vl lo) (pu : IsPart vu hi)
  (h : Q (((sIx n 0 lo : Nat) : Int), 1, sIx n n hi - sIx n 0 lo) s) : wpAny (model prog w) A (Builtin.Slice.sliceApplied (.ref sl) (pure (n : Int))) Q E s := by
 obtain ⟨os, hos, hcs, hds⟩ := id hs
 unfold Builtin.Slice.sliceApplied Builtin.Slice.sliceFields
 refine wpAny_bind (wpAny_bind (wpAny_field hos hds (x := vl) rfl (wpAny_bind (wpAny_field hos hds (x := vu) rfl (wpAny_bind (wpAny_field hos hds (x := .none) rfl (wpAny_pure ?_)))))))
 refine wpAny_bind (slicePart_none ?_)
 show wpAny _ _ (if ((1 : Int) == 0) = true then _ else _) _ _ s
 rw [if_neg (by decide)]
 refine wpAny_bind (zgU pl (wpAny_bind (zgU pu (wpAny_bind (wpAny_pure ?_)))))
 show wpAny _ _ (match Builtin.Slice.sliceAdjust lo hi 1 (n : Int) with | (lo, hi) => pure (lo, (1 : Int), Builtin.Slice.slicePlaces lo hi 1)) _ _ s
 rw [zk9 lo hi n]
 show wpAny _ _ (pure (((sIx n 0 lo : Nat) : Int), (1 : Int), Builtin.Slice.slicePlaces ((sIx n 0 lo : Nat) : Int) ((sIx n n hi : Nat) : Int) 1)) _ _ s
 rw [zla]
 exact wpAny_pure h
theorem zod (xs : Array Value) (i k : Nat) : ((List.range k).filterMap fun (m : Nat) => xs[((i : Int) + (m : Int) * 1).toNat]?).toArray = ((xs.toList.drop i).take k).toArray := by
 have e : (fun (m : Nat) => xs[((i : Int) + (m : Int) * 1).toNat]?) = fun m => xs[i + m]? := by
  funext m
  have : ((i : Int) + (m : Int) * 1).toNat = i + m := by omega
  rw [this]
 rw [e]
 have := pick_run xs i k
 rw [List.filterMap_map] at this
 have e2 : ((fun x => xs[x]?) ∘ fun x => i + x) = fun m => xs[i + m]? := rfl
 rw [e2] at this
 rw [this]
theorem getItem_tuple_cut {t sl : Addr} {items : Array Value} {vl vu : Value} {lo hi : Option Int} {Q : Value → Shared → Prop} (ht : IsTup s.heap t items) (hs : s.heap.IsSliceOf sl vl vu .none) (pl : IsPart vl lo) (pu : IsPart vu hi)
  (hw : ¬ (sIx items.size 0 lo = 0 ∧ sIx items.size items.size hi = items.size))
  (h : Q (.ref s.heap.objs.size) { s with heap := s.heap.push { cls := .type "tuple", data := .seq ((items.toList.drop (sIx items.size 0 lo)).take (sIx items.size items.size hi - sIx items.size 0 lo)).toArray } })
  (hsz : items.size ≤ sizeLine) : wpAny (model prog w) A (getItem (.ref t) (.ref sl)) Q E s := by
 have htake : sizeOk (.seq ((items.toList.drop (sIx items.size 0 lo)).take (sIx items.size items.size hi - sIx items.size 0 lo)).toArray) := by
  show ((items.toList.drop (sIx items.size 0 lo)).take (sIx items.size items.size hi - sIx items.size 0 lo)).toArray.size ≤ sizeLine
  rw [List.size_toArray, List.length_take, List.length_drop, Array.length_toList]
  omega
 have hj : sIx items.size items.size hi ≤ items.size := zso _ _ (Nat.le_refl _) hi
 obtain ⟨os, hos, hcs, hds⟩ := id hs
 have hTs : s.TypeIs (.ref sl) "slice" := ⟨os, hos, hcs⟩
 unfold getItem
 try with_reducible refine wpAny_holding ?_
 first | refine wpAny_bind (wpAny_pure ?_) | skip
 refine wpAny_bind (wpAny_sequenceKey ht.typeIs (by decide) ?_)
 refine wpAny_bind (wpAny_callSpecial?_slot (name := Str.ofString "__getitem__") ht.typeIs PyProof.Rows.slot_tuple_getitem
  (wpAny_call_entry PyProof.Rows.slot_tuple_getitem ht.typeIs entry_tuple_getitem ?_ (args_tuple_getitem _ _)))
 show wpAny _ _ (Builtin.Tuple.tupleItemsOf (.ref t) >>= _) _ _ s
 refine wpAny_bind (tupleItemsOf_ ht ?_)
 refine wpAny_bind (wpAny_typeOf hTs ?_)
 rw [if_pos (by decide)]
 refine wpAny_bind (zfj hs pl pu ?_)
 have hno : ¬ ((((sIx items.size 0 lo : Nat) : Int) == 0 && (1 : Int) == 1 && (sIx items.size items.size hi - sIx items.size 0 lo) == items.size) = true) := by
  intro q
  rw [Bool.and_eq_true, Bool.and_eq_true] at q
  have q1 : ((sIx items.size 0 lo : Nat) : Int) = 0 := eq_of_beq q.1.1
  have q2 : sIx items.size items.size hi - sIx items.size 0 lo = items.size := eq_of_beq q.2
  exact hw ⟨by omega, by omega⟩
 show wpAny _ _ (if (((sIx items.size 0 lo : Nat) : Int) == 0 && (1 : Int) == 1 && (sIx items.size items.size hi - sIx items.size 0 lo) == items.size) = true then _ else _) _ _ s
 rw [if_neg hno, zod]
 first
  | exact wpAny_bind (m := Builtin.Tuple.tupleExact _) (wpAny_newObj_type (wpAny_pure ⟨_, rfl, wpAny_pure h⟩) htake)
  | exact wpAny_bind (m := Builtin.Tuple.tupleExact _) (wpAny_newObj_type (wpAny_bind (wpAny_pure (wpAny_pure ⟨_, rfl, wpAny_pure h⟩))) htake)
  | exact wpAny_bind (wpAny_bind (m := Builtin.Tuple.tupleExact _) (wpAny_newObj_type (wpAny_pure (wpAny_pure ⟨_, rfl, wpAny_pure h⟩)) htake))
  | exact wpAny_bind (wpAny_bind (m := Builtin.Tuple.tupleExact _) (wpAny_newObj_type (wpAny_pure ⟨_, rfl, wpAny_pure h⟩) htake))
end
end HT
namespace L2
open PySem PySem.Spec PyProof.Rows
abbrev TO := St → Hp → (Option Int → Hp → Prop) → Prop
def PO (X : Cx) (e : Option Expr) (t : TO) : Prop :=
 ∀ (pins : List (Addr × Obj)) (s : Shared) (σ : St) (H : Hp) (Q : Option Int → Hp → Prop), Inv X pins σ H s → t σ H Q →
  wpAny (model X.prog X.w) X.A (evalPart e X.env) (fun u s' => ∃ o H', Inv X pins σ H' s' ∧ IsPart u o ∧ Q o H') X.xe s
def zqE : TO := fun _ H Q => Q none H
def zt1 (t : TE) : TO := fun σ H Q => t σ H fun x H1 => ∃ i, x = .int i ∧ Q (some i) H1
theorem zlb {ns : List Int} : ∀ {us : List Value}, zbt (ns.map V.int) us → IntsAre us ns := by
 induction ns with
 | nil => intro us r; rw [List.map_nil] at r; cases r; exact .nil
 | cons n ns ih =>
  intro us r
  rw [List.map_cons] at r
  cases r with
  | cons r1 r2 =>
   obtain ⟨t, e⟩ := r1
   subst e
   exact .cons n t (ih r2)
section
variable {X : Cx} {e : Expr} {te : TE} {lo hi : Option Expr} {tl th : TO} {pos p2 : Pos}
theorem zqF : PO X none zqE := by
 intro pins s σ H Q I h
 rw [evalPart_none]
 exact wpAny_pure ⟨none, H, I, .none, h⟩
theorem zqG (h : PE X e te) : PO X (some e) (zt1 te) := by
 intro pins s σ H Q I hw
 rw [evalPart_some]
 refine thn (h pins s σ H _ I hw) fun u s1 ⟨x, H1, I1, r1, q1⟩ => ?_
 obtain ⟨i, rfl, q⟩ := q1
 obtain ⟨t, rfl⟩ := r1
 exact ⟨some i, H1, I1, .int i t, q⟩
def SlR (X : Cx) (r : V → Option Int → Option Int → Hp → VK → Prop) : Prop :=
 ∀ (pins : List (Addr × Obj)) (s : Shared) (σ : St) (H : Hp) (x : V) (v vl vu : Value) (lo hi : Option Int) (sl : Addr) (Q : VK), Inv X pins σ H s → zbz x v → s.heap.IsSliceOf sl vl vu .none → IsPart vl lo → IsPart vu hi → r x lo hi H Q →
  ∃ T id, typeLookup (.type T) "__getitem__" = pure (some (.builtin id)) ∧ s.TypeIs v T ∧ wpAny (model X.prog X.w) X.A (getItem v (.ref sl)) (EP X pins σ Q) X.xe s
theorem SlR.or {r r' : V → Option Int → Option Int → Hp → VK → Prop} (h : SlR X r) (h' : SlR X r') : SlR X (fun x lo hi H Q => r x lo hi H Q ∨ r' x lo hi H Q) := by
 intro pins s σ H x v vl vu lo hi sl Q I rx hs pl pu q
 rcases q with q | q
 ·exact h pins s σ H x v vl vu lo hi sl Q I rx hs pl pu q
 ·exact h' pins s σ H x v vl vu lo hi sl Q I rx hs pl pu q
def tSl (r : V → Option Int → Option Int → Hp → VK → Prop) (te : TE) (tl th : TO) : TE := fun σ H Q => te σ H fun x H1 => tl σ H1 fun l H2 => th σ H2 fun u H3 => r x l u H3 Q
theorem zoe {r : V → Option Int → Option Int → Hp → VK → Prop} (hr : SlR X r) (he : PE X e te) (hl : PO X lo tl) (hu : PO X hi th) : PE X (.Subscript e (.Slice lo hi none p2) pos) (tSl r te tl th) := by
 intro pins s σ H Q I h
 refine Subscript_ (thn (he pins s σ H _ I h) fun v s1 ⟨x, H1, I1, r1, q1⟩ => ?_)
 refine wpAny_Slice (thn (hl pins s1 σ H1 _ I1 q1) fun vl s2 ⟨l, H2, I2, pl, q2⟩ => thn (hu pins s2 σ H2 _ I2 q2) fun vu s3 ⟨u, H3, I3, pu, q3⟩ => ?_)
 rw [evalPart_none]
 refine wpAny_pure ?_
 have I4 : Inv X pins σ H3 { s3 with heap := s3.heap.push { cls := .type "slice", data := .fields #[vl, vu, .none] } } := I3.kept (t' := s3.toks) fun b ob q => Heap.get?_push_of_some _ q
 obtain ⟨T, id, hT, ht, hg⟩ := hr pins { s3 with heap := s3.heap.push { cls := .type "slice", data := .fields #[vl, vu, .none] } } σ H3 x v vl vu l u s3.heap.objs.size Q I4 r1 (Heap.IsSliceOf.new ..) pl pu q3
 show wpAny (model X.prog X.w) X.A (subscriptTail e (.Slice lo hi none p2) v (.ref s3.heap.objs.size)) (EP X pins σ Q) X.xe { s3 with heap := s3.heap.push { cls := .type "slice", data := .fields #[vl, vu, .none] } }
 exact tail_any (ops := [.ref s3.heap.objs.size, v]) ht hT hg (by with_unfolding_all rfl)
def zn4 (xs : List V) (lo hi : Option Int) : List V := (xs.drop (HT.sIx xs.length 0 lo)).take (HT.sIx xs.length xs.length hi - HT.sIx xs.length 0 lo)
theorem zfF (xs : List V) (lo hi : Option Int) : (zn4 xs lo hi).length ≤ xs.length := by
 unfold zn4
 rw [List.length_take, List.length_drop]
 omega
def rSlT (K : PySem.W.Frag) : V → Option Int → Option Int → Hp → VK → Prop := fun x lo hi H Q => ∃ a xs, x = .ref a ∧ SqT K H a xs ∧
 ¬ (HT.sIx xs.length 0 lo = 0 ∧ HT.sIx xs.length xs.length hi = xs.length) ∧ ∀ p, H p = none → Q (.ref p) (upd H p (.tup (zn4 xs lo hi)))
theorem zsp : SlR X (rSlT X.K) := by
 intro pins s σ H x v vl vu lo hi sl Q I rx hs pl pu h
 obtain ⟨a, xs, rfl, hx, hw, q⟩ := h
 cases rx
 obtain ⟨its, r, ht, hz⟩ := I.tuple hx
 have hlen : its.toArray.size = xs.length := by rw [List.size_toArray]; exact r.length.symm
 refine ⟨"tuple", _, PyProof.Rows.slot_tuple_getitem.lookup, ht.typeIs, ?_⟩
 refine HT.getItem_tuple_cut ht hs pl pu (by rw [hlen]; exact hw) ?_ (by rw [hlen]; exact hz)
 rw [hlen]
 refine ⟨.ref s.heap.objs.size, _, I.laid (t' := s.toks) (o := .tup (zn4 xs lo hi)) (fun b ob q => Heap.get?_push_of_some _ q) (Nat.le_refl _) ?_, rfl, q _ (I.hok.fresh (Nat.le_refl _))⟩
 exact ⟨Nat.le_trans (zfF xs lo hi) hz, _, (r.drop (HT.sIx xs.length 0 lo)).take (HT.sIx xs.length xs.length hi - HT.sIx xs.length 0 lo), IsTup.new _ _⟩
def zsq (K : PySem.W.Frag) : R2 := fun x y H Q => ∃ a b xs ys, x = .ref a ∧ y = .ref b ∧ SqT K H a xs ∧ SqT K H b ys ∧ xs ≠ [] ∧ xs.length + ys.length ≤ sizeLine ∧
 (ys = [] → Q (.ref a) H) ∧ (ys ≠ [] → ∀ p, H p = none → Q (.ref p) (upd H p (.tup (xs ++ ys))))
theorem zbt.nil_iff {xs : List V} {us : List Value} (r : zbt xs us) : us = [] ↔ xs = [] := by
 cases r with
 | nil => simp
 | cons _ _ => simp
theorem zqH : OpR X (binaryOp .Add) (zsq X.K) := by
 intro pins s σ H x y v u Q I rx ry h
 obtain ⟨a, b, xs, ys, rfl, rfl, ha, hb, hx, hz, q1, q2⟩ := h
 cases rx
 cases ry
 obtain ⟨its, r1, p1, _⟩ := I.tuple ha
 obtain ⟨its2, r2, p2, _⟩ := I.tuple hb
 refine HT.cat_tup p1 p2 (fun z => hx (r1.nil_iff.mp z)) (fun z => ⟨.ref a, H, I, rfl, q1 (r2.nil_iff.mp z)⟩) (fun z => ?_) (by rw [← r1.length, ← r2.length]; exact hz)
 refine ⟨.ref s.heap.objs.size, _, I.laid (t' := s.toks) (o := .tup (xs ++ ys)) (fun b ob q => Heap.get?_push_of_some _ q) (Nat.le_refl _) ?_, rfl, q2 (fun w => z (r2.nil_iff.mpr w)) _ (I.hok.fresh (Nat.le_refl _))⟩
 exact ⟨by rw [List.length_append]; exact hz, _, r1.append r2, IsTup.new _ _⟩
end
end L2
namespace L2
open PySem PySem.Spec PyProof.Rows
def ixN (n : Nat) (i : Int) : Option Nat := if 0 ≤ i then (if i < n then some i.toNat else none) else if -(n : Int) ≤ i then some (i + n).toNat else none
def atI {α : Type} (xs : List α) (i : Int) : Option α := (ixN xs.length i).bind fun j => xs[j]?
theorem zlX {n : Nat} {i : Int} {j : Nat} (h : ixN n i = some j) : seqIndex? i n = some j ∧ j < n ∧ -(n : Int) ≤ i ∧ i < n := by
 unfold ixN at h
 by_cases h0 : 0 ≤ i
 ·rw [if_pos h0] at h
  by_cases h1 : i < n
  ·rw [if_pos h1] at h
   have e : i.toNat = j := Option.some.inj h
   exact ⟨by rw [seqIndex_of h0 h1, e], by omega, by omega, h1⟩
  ·rw [if_neg h1] at h; cases h
 ·rw [if_neg h0] at h
  by_cases h1 : -(n : Int) ≤ i
  ·rw [if_pos h1] at h
   have e : (i + n).toNat = j := Option.some.inj h
   exact ⟨by rw [seqIndex_neg (by omega) h1, e], by omega, h1, by omega⟩
  ·rw [if_neg h1] at h; cases h
theorem zlY {α : Type} {xs : List α} {i : Int} {v : α} (h : atI xs i = some v) : ∃ j, seqIndex? i xs.length = some j ∧ xs[j]? = some v ∧ j < xs.length ∧ -(xs.length : Int) ≤ i ∧ i < xs.length := by
 unfold atI at h
 cases e : ixN xs.length i with
 | none => rw [e] at h; cases h
 | some j =>
  rw [e] at h
  obtain ⟨h1, h2, h3, h4⟩ := zlX e
  exact ⟨j, h1, h, h2, h3, h4⟩
theorem zqI {α : Type} {xs : List α} {j : Nat} {v : α} (h : xs[j]? = some v) : atI xs (j : Int) = some v := by
 have hj : j < xs.length := (List.getElem?_eq_some_iff.mp h).1
 have e : ixN xs.length (j : Int) = some j := by
  unfold ixN
  rw [if_pos (by omega), if_pos (by omega)]; simp
 unfold atI; rw [e]; exact h
theorem zof {α : Type} (xs : List α) (v : α) : atI (xs ++ [v]) (-1) = some v := by
 have hl : (xs ++ [v]).length = xs.length + 1 := by simp
 have e : ixN (xs ++ [v]).length (-1) = some xs.length := by
  unfold ixN
  rw [hl, if_neg (by decide), if_pos (by omega)]
  congr 1
  omega
 unfold atI
 rw [e]
 show (xs ++ [v])[xs.length]? = some v
 simp
def zlZ (b : Expr) : Prop := ∀ o i, subscripted b false o i = operate [o, i] (getItem o i)
def IxR (X : Cx) (r : R2) : Prop :=
 ∀ (value slice : Expr) (pins : List (Addr × Obj)) (s : Shared) (σ : St) (H : Hp) (x y : V) (v u : Value) (Q : VK), Inv X pins σ H s → zbz x v → zbz y u → r x y H Q →
  subscripted slice false v u = operate [v, u] (getItem v u) → wpAny (model X.prog X.w) X.A (subscriptTail value slice v u) (EP X pins σ Q) X.xe s
def MtR (X : Cx) (id : String) (r : V → List V → Hp → VK → Prop) : Prop :=
 ∀ (pins : List (Addr × Obj)) (s : Shared) (σ : St) (H : Hp) (x : V) (xs : List V) (v : Value) (us : List Value) (Q : VK), Inv X pins σ H s → zbz x v → zbt xs us → r x xs H Q →
  wpAny (model X.prog X.w) X.A (call (.builtin id) (v :: us)) (EP X pins σ Q) X.xe s
section
variable {X : Cx} {a b : Expr} {ta tb : TE} {pos : Pos}
theorem IxR.or {r r' : R2} (h : IxR X r) (h' : IxR X r') : IxR X (fun x y H Q => r x y H Q ∨ r' x y H Q) := by
 intro value slice pins s σ H x y v u Q I rx ry q hs
 rcases q with q | q
 ·exact h value slice pins s σ H x y v u Q I rx ry q hs
 ·exact h' value slice pins s σ H x y v u Q I rx ry q hs
theorem zt2 {r : R2} (hr : IxR X r) (ha : PE X a ta) (hb : PE X b tb) (hs : zlZ b) : PE X (.Subscript a b pos) (tOp r ta tb) := by
 intro pins s σ H Q I h
 exact Subscript_ (ztS ha hb I h fun v u s2 x y H2 I2 rx ry q => hr a b pins s2 σ H2 x y v u Q I2 rx ry q (hs _ _))
def rIxL (K : PySem.W.Frag) : R2 := fun x y H Q => ∃ p xs i v, x = .ref p ∧ y = .int i ∧ SqL K H p xs ∧ atI xs i = some v ∧ Q v H
def rIxT (K : PySem.W.Frag) : R2 := fun x y H Q => ∃ p xs i v, x = .ref p ∧ y = .int i ∧ SqT K H p xs ∧ atI xs i = some v ∧ Q v H
theorem zqJ : IxR X (rIxL X.K) := by
 intro value slice pins s σ H x y v u Q I rx ry h hs
 obtain ⟨p, xs, i, z, rfl, rfl, hq, he, q⟩ := h
 cases rx
 obtain ⟨t, rfl⟩ := ry
 obtain ⟨its, r, pl, hz⟩ := I.list hq
 obtain ⟨j, h1, h2, h3, h4, h5⟩ := zlY he
 obtain ⟨w, ew, rw'⟩ := r.get h2
 have hl := r.length
 have hn := zh7
 have fin : EP X pins σ Q w s := ⟨z, H, I, rw', q⟩
 by_cases h0 : 0 ≤ i
 ·have hj : i.toNat = j := by
   rw [seqIndex_of h0 h5] at h1
   exact Option.some.inj h1
  exact item_listR pl.isList h0 (by omega) (by rw [hj]; simpa using ew) fin hs
 ·have hj : (i + (its.toArray.size : Int)).toNat = j := by
   rw [seqIndex_neg (by omega) h4] at h1
   rw [List.size_toArray, ← hl]
   exact Option.some.inj h1
  exact subscriptTail_builtinR (x := w) pl.isList.typeIs slot_list_getitem.lookup
   (wpAny_getItem_list_neg (Q := fun r s' => r = w ∧ EP X pins σ Q r s') pl.isList (by omega) (by rw [List.size_toArray] <;> omega) (by omega) (by rw [hj]; simpa using ew) ⟨rfl, fin⟩) hs
theorem zsr : IxR X (rIxT X.K) := by
 intro value slice pins s σ H x y v u Q I rx ry h hs
 obtain ⟨p, xs, i, z, rfl, rfl, hq, he, q⟩ := h
 cases rx
 obtain ⟨t, rfl⟩ := ry
 obtain ⟨its, r, pl, hz⟩ := I.tuple hq
 obtain ⟨j, h1, h2, h3, h4, h5⟩ := zlY he
 obtain ⟨w, ew, rw'⟩ := r.get h2
 have hl := r.length
 have hn := zh7
 have fin : EP X pins σ Q w s := ⟨z, H, I, rw', q⟩
 exact subscriptTail_builtinR (x := w) pl.typeIs slot_tuple_getitem.lookup
  (getItem_tuple (j := j) (Q := fun r s' => r = w ∧ EP X pins σ Q r s') pl (by omega) (by omega) (by rw [List.size_toArray, ← hl]; exact h1) (by simpa using ew) ⟨rfl, fin⟩) hs
theorem zlc (its : List Value) (n j : Nat) (u : Value) : Obj.mapSeq (·.setIfInBounds j u) { cls := .type "list", data := .seq its.toArray n } = { cls := .type "list", data := .seq (its.set j u).toArray n } := by
 simp [Obj.mapSeq]
theorem Inv.lst {pins : List (Addr × Obj)} {σ : St} {H : Hp} {s : Shared} {p : Addr} {xs : List V} (I : Inv X pins σ H s) (h : H p = some (.lst xs)) :
  ∃ (its : List Value) (n : Nat), zbt xs its ∧ s.heap.get? p = some { cls := .type "list", data := .seq its.toArray n } ∧ xs.length ≤ sizeLine := by
 obtain ⟨z, its, n, r, e⟩ := I.hok p _ h
 exact ⟨its, n, r, e, z⟩
theorem Inv.lstUpd {pins : List (Addr × Obj)} {σ : St} {H : Hp} {s : Shared} {p : Addr} {xs ys : List V} {its its' : List Value} {n n' : Nat} {f : Obj → Obj} (I : Inv X pins σ H s) (h : H p = some (.lst xs))
  (ho : s.heap.get? p = some { cls := .type "list", data := .seq its.toArray n }) (hf : f { cls := .type "list", data := .seq its.toArray n } = { cls := .type "list", data := .seq its'.toArray n' }) (r : zbt ys its') (hz : ys.length ≤ sizeLine) (t : Nat) :
  Inv X pins σ (upd H p (.lst ys)) { s with heap := s.heap.update p f, toks := t } := by
 have e : (s.heap.update p f).get? p = some { cls := .type "list", data := .seq its'.toArray n' } := by
  rw [Heap.get?_update_self f ho (by rw [hf] <;> rfl), hf]
 refine I.write (x := p) (e := p) (by rw [h]; trivial) (.inl rfl) (fun b u hb q => (Heap.get?_update_other _ _ (Ne.symm hb)).trans q) ⟨_, e⟩ ?_
 exact ⟨hz, its', n', r, e⟩
def zt3 : V → V → V → Hp → (Hp → Prop) → Prop := fun o i v H Q => ∃ p xs k j, o = .ref p ∧ i = .int k ∧ H p = some (.lst xs) ∧ ixN xs.length k = some j ∧ Q (upd H p (.lst (xs.set j v)))
theorem zog : PSet X zt3 := by
 intro pins s σ H o i v ov iv u Q I ro ri rv h
 obtain ⟨p, xs, k, j, rfl, rfl, hp, hj, q⟩ := h
 cases ro
 obtain ⟨t, rfl⟩ := ri
 obtain ⟨its, n, r, ho, hz⟩ := I.lst hp
 obtain ⟨h1, h2, h3, h4⟩ := zlX hj
 have hl := r.length
 have hn := zh7
 have I' : Inv X pins σ (upd H p (.lst (xs.set j v))) { s with heap := s.heap.update p (Obj.mapSeq (·.setIfInBounds j u)) } :=
  I.lstUpd hp ho (zlc its n j u) (r.set rv j) (by rw [List.length_set]; exact hz) s.toks
 by_cases h0 : 0 ≤ k
 ·have hk : k.toNat = j := by
   rw [seqIndex_of h0 h4] at h1
   exact Option.some.inj h1
  exact PySem.W.ki_setAt ho h0 (by omega) (by rw [List.size_toArray, ← hl]; exact h4) (by rw [hk]; exact ⟨_, I', q⟩)
 ·have hk : (k + (its.toArray.size : Int)).toNat = j := by
   rw [seqIndex_neg (by omega) h3] at h1
   rw [List.size_toArray, ← hl]
   exact Option.some.inj h1
  exact PySem.W.ki_setBack ho (by omega) (by rw [List.size_toArray, ← hl]; exact h3) (by omega) (by rw [hk]; exact ⟨_, I', q⟩)
theorem zid (lo hi : Option Int) (n : Nat) : (sliceBounds lo hi none n).1 = ((HT.sIx n 0 lo : Nat) : Int) ∧ (sliceBounds lo hi none n).2.1 = ((HT.sIx n n hi : Nat) : Int) ∧ (sliceBounds lo hi none n).2.2 = 1 := by
 refine ⟨?_, ?_, rfl⟩
 ·cases lo with
  | none => simp [sliceBounds, HT.sIx]
  | some i =>
   simp only [sliceBounds, HT.sIx, Option.getD_none, show (1 : Int) > 0 by decide, if_true]
   by_cases h : i < 0
   ·simp only [h, if_true] <;> omega
   ·simp only [h, if_false] <;> omega
 ·cases hi with
  | none => simp [sliceBounds, HT.sIx]
  | some i =>
   simp only [sliceBounds, HT.sIx, Option.getD_none, show (1 : Int) > 0 by decide, if_true]
   by_cases h : i < 0
   ·simp only [h, if_true] <;> omega
   ·simp only [h, if_false] <;> omega
theorem zhq (its : List Value) (lo hi : Option Int) : slicePick its.toArray lo hi none = ((its.drop (HT.sIx its.length 0 lo)).take (HT.sIx its.length its.length hi - HT.sIx its.length 0 lo)).toArray := by
 obtain ⟨h1, h2, h3⟩ := zid lo hi its.toArray.size
 unfold slicePick
 rw [h1, h2, h3]
 simp only [sliceRange_one, pick_run, List.size_toArray] <;> rfl
def rSlL (K : PySem.W.Frag) : V → Option Int → Option Int → Hp → VK → Prop := fun x lo hi H Q => ∃ a xs, x = .ref a ∧ SqL K H a xs ∧ ∀ p, H p = none → Q (.ref p) (upd H p (.lst (zn4 xs lo hi)))
theorem zqK : SlR X (rSlL X.K) := by
 intro pins s σ H x v vl vu lo hi sl Q I rx hs pl pu h
 obtain ⟨a, xs, rfl, hx, q⟩ := h
 cases rx
 obtain ⟨its, r, ht, hz⟩ := I.list hx
 have hlen := r.length
 refine ⟨"list", _, slot_list_getitem.lookup, ht.isList.typeIs, ?_⟩
 refine wpAny_getItem_list_slice ht.isList hs pl pu .none (by simp) ?_ (by rw [List.size_toArray] <;> omega)
 rw [zhq, ← hlen]
 refine ⟨.ref s.heap.objs.size, _, I.laid (t' := s.toks) (o := .lst (zn4 xs lo hi)) (fun b ob q => Heap.get?_push_of_some _ q) (Nat.le_refl _) ?_, rfl, q _ (I.hok.fresh (Nat.le_refl _))⟩
 exact ⟨Nat.le_trans (zfF xs lo hi) hz, _, 0, (r.drop (HT.sIx xs.length 0 lo)).take (HT.sIx xs.length xs.length hi - HT.sIx xs.length 0 lo), Heap.get?_push_size _ rfl⟩
def zji : V → Bool
 | .non => true
 | .bl _ => true
 | .int _ => true
 | .str _ => true
 | _ => false
def eqV : V → V → Bool
 | .non, .non => true
 | .bl a, .bl b => a == b
 | .bl a, .int b => (if a then 1 else 0) == b
 | .int a, .bl b => a == (if b then 1 else 0)
 | .int a, .int b => a == b
 | .str a, .str b => a == b
 | _, _ => false
theorem zss {A : Around} {s : Shared} {y x : V} {u v : Value} (ry : zbz y u) (rx : zbz x v) (fy : zji y = true) (fx : zji x = true) : SeqAt.EqAt A s u v (eqV y x) := by
 cases y with
 | non =>
  cases ry
  cases x with
  | non => cases rx; exact SeqAt.EqAt.same _
  | bl b => cases rx; exact SeqAt.EqAt.none_bool b
  | int b => obtain ⟨t, rfl⟩ := rx; exact SeqAt.EqAt.none_int b t
  | str b => obtain ⟨t, rfl⟩ := rx; exact SeqAt.EqAt.none_str b t
  | _ => exact absurd (show false = true from fx) Bool.false_ne_true
 | bl a =>
  cases ry
  cases x with
  | non => cases rx; exact SeqAt.EqAt.bool_none a
  | bl b => cases rx; exact SeqAt.EqAt.bool_bool a b
  | int b => obtain ⟨t, rfl⟩ := rx; exact SeqAt.EqAt.bool_int a b t
  | str b => obtain ⟨t, rfl⟩ := rx; exact SeqAt.EqAt.bool_str a b t
  | _ => exact absurd (show false = true from fx) Bool.false_ne_true
 | int a =>
  obtain ⟨t', rfl⟩ := ry
  cases x with
  | non => cases rx; exact SeqAt.EqAt.int_none a t'
  | bl b => cases rx; exact SeqAt.EqAt.int_bool a t' b
  | int b => obtain ⟨t, rfl⟩ := rx; exact SeqAt.EqAt.int_int a t' b t
  | str b => obtain ⟨t, rfl⟩ := rx; exact SeqAt.EqAt.int_str a t' b t
  | _ => exact absurd (show false = true from fx) Bool.false_ne_true
 | str a =>
  obtain ⟨t', rfl⟩ := ry
  cases x with
  | non => cases rx; exact SeqAt.EqAt.str_none a t'
  | bl b => cases rx; exact SeqAt.EqAt.str_bool a t' b
  | int b => obtain ⟨t, rfl⟩ := rx; exact SeqAt.EqAt.str_int a t' b t
  | str b => obtain ⟨t, rfl⟩ := rx; exact SeqAt.EqAt.str_str a t' b t
  | _ => exact absurd (show false = true from fx) Bool.false_ne_true
 | _ => exact absurd (show false = true from fy) Bool.false_ne_true
theorem zie : OpR X (compareOp .NotIn) (fun x y H Q => ∃ i j, x = .str i ∧ y = .str j ∧ Q (.bl (!(!(Builtin.Str.occurrences j i 0 j.length 1).isEmpty))) H) := by
 intro pins s σ H x y v u Q I rx ry h
 obtain ⟨i, j, rfl, rfl, q⟩ := h
 obtain ⟨t, rfl⟩ := rx
 obtain ⟨t', rfl⟩ := ry
 exact notIn_str ⟨.bl _, H, I, rfl, q⟩
theorem zif : zcP X (.builtin "len") (fun xs H Q => ∃ p ys, xs = [.ref p] ∧ (SqL X.K H p ys ∨ SqT X.K H p ys) ∧ Q (.int ys.length) H) := by
 intro pins s σ H xs us Q I r h
 obtain ⟨p, ys, rfl, hq, q⟩ := h
 obtain ⟨u, rfl, rx⟩ := zgE r
 cases rx
 have hn := zh7
 rcases hq with hq | hq
 ·obtain ⟨its, r', pl, hz⟩ := I.list hq
  have hlen := r'.length
  exact Calls.call_len_list pl.isList (by simp only [List.size_toArray] <;> omega) ⟨.int ys.length, H, I.tok _, ⟨s.toks + 1, by rw [List.size_toArray, hlen]⟩, q⟩
 ·obtain ⟨its, r', pl, hz⟩ := I.tuple hq
  have hlen := r'.length
  exact len_tuple pl (by simp only [List.size_toArray] <;> omega) ⟨.int ys.length, H, I.tok _, ⟨s.toks + 1, by rw [List.size_toArray, hlen]⟩, q⟩
theorem zig : zcP X (.builtin "len") (fun xs H Q => ∃ z, xs = [.str z] ∧ z.length ≤ sizeLine ∧ Q (.int z.length) H) := by
 intro pins s σ H xs us Q I r h
 obtain ⟨z, rfl, hz, q⟩ := h
 obtain ⟨u, rfl, t, rfl⟩ := zgE r
 have hn := zh7
 exact len_str (by omega) ⟨.int z.length, H, I.tok _, ⟨_, rfl⟩, q⟩
theorem zcP.or {f : Value} {r r' : List V → Hp → VK → Prop} (h : zcP X f r) (h' : zcP X f r') : zcP X f (fun xs H Q => r xs H Q ∨ r' xs H Q) := by
 intro pins s σ H xs us Q I rs q
 rcases q with q | q
 ·exact h pins s σ H xs us Q I rs q
 ·exact h' pins s σ H xs us Q I rs q
theorem zih : zcP X (.type "list") (fun xs H Q => ∃ p ys, xs = [.ref p] ∧ (SqL X.K H p ys ∨ SqT X.K H p ys) ∧ ∀ l, H l = none → Q (.ref l) (upd H l (.lst ys))) := by
 intro pins s σ H xs us Q I r h
 obtain ⟨p, ys, rfl, hq, q⟩ := h
 obtain ⟨u, rfl, rx⟩ := zgE r
 cases rx
 have fin : ∀ (its : List Value), zbt ys its → ys.length ≤ sizeLine → ∀ (h' : Heap) (c' : Nat), (∀ b o', s.heap.get? b = some o' → h'.get? b = some o') →
   h'.get? s.heap.objs.size = some { cls := .type "list", dict := none, data := .seq its.toArray c', slots := #[] } → EP X pins σ Q (.ref s.heap.objs.size) { s with heap := h' } := fun its r' hz h' c' kp e =>
  ⟨.ref s.heap.objs.size, _, I.laid (t' := s.toks) kp (Nat.le_refl _) (show zc6 X.prog X.w _ h' _ (.lst ys) from ⟨hz, its, c', r', e⟩), rfl, q _ (I.hok.fresh (Nat.le_refl _))⟩
 rcases hq with hq | hq
 ·obtain ⟨its, r', pl, hz⟩ := I.list hq
  have hlen := r'.length
  obtain ⟨o, ho, hc, n, hd⟩ := pl.isList
  exact call_list_seq p (.inl rfl) ho hc hd (fun h' c' kp e => fin its r' hz h' c' kp e) (by simp only [List.size_toArray] <;> omega)
 ·obtain ⟨its, r', pl, hz⟩ := I.tuple hq
  have hlen := r'.length
  obtain ⟨o, ho, hc, n, hd⟩ := pl
  exact call_list_seq p (.inr rfl) ho hc hd (fun h' c' kp e => fin its r' hz h' c' kp e) (by simp only [List.size_toArray] <;> omega)
theorem zhr : zcP X (.type "tuple") (fun xs H Q => ∃ p ys, xs = [.ref p] ∧ ((SqL X.K H p ys ∧ ∀ l, H l = none → Q (.ref l) (upd H l (.tup ys))) ∨ (SqT X.K H p ys ∧ Q (.ref p) H))) := by
 intro pins s σ H xs us Q I r h
 obtain ⟨p, ys, rfl, h⟩ := h
 obtain ⟨u, rfl, rx⟩ := zgE r
 cases rx
 rcases h with ⟨hq, q⟩ | ⟨hq, q⟩
 ·obtain ⟨its, r', pl, hz⟩ := I.list hq
  have hlen := r'.length
  refine call_tuple_list pl.isList (fun h' kp => ?_) (by simp only [List.size_toArray] <;> omega)
  have I1 : Inv X pins σ H { s with heap := h' } := I.kept (t' := s.toks) kp
  have I2 : Inv X pins σ (upd H h'.objs.size (.tup ys)) { s with heap := h'.push { cls := .type "tuple", data := .seq its.toArray } } :=
   I1.laid (t' := s.toks) (fun b o e => Heap.get?_push_of_some _ e) (Nat.le_refl _) (show zc6 X.prog X.w _ _ _ (.tup ys) from ⟨hz, its, r', IsTup.new _ _⟩)
  exact ⟨.ref h'.objs.size, _, I2, rfl, q _ (I1.hok.fresh (Nat.le_refl _))⟩
 ·obtain ⟨its, r', pl, hz⟩ := I.tuple hq
  exact call_tuple_same pl ⟨.ref p, H, I, rfl, q⟩
def tyV (K : PySem.W.Frag) (T : String) (x : V) (H : Hp) : Prop := match x with
 | .str _ => T = "str"
 | .int _ => T = "int"
 | .ref p => (T = "list" ∧ ∃ xs, SqL K H p xs) ∨ (T = "tuple" ∧ ∃ o, K.lookup p = some o ∧ o.cls = .type "tuple" ∧ o.dict = none) ∨
   (T = "dict" ∧ ((∃ kvs, H p = some (.dK kvs)) ∨ ∃ kvs, H p = some (.dT kvs))) ∨ (T = "set" ∧ ∃ S n, H p = some (.set S n))
 | _ => False
theorem zst {pins : List (Addr × Obj)} {σ : St} {H : Hp} {s : Shared} {T : String} {x : V} {v : Value} (I : Inv X pins σ H s) (r : zbz x v) (ty : tyV X.K T x H) :
  s.TypeIs v T ∧ ∀ a, v = .ref a → ∃ ob, s.heap.get? a = some ob ∧ ob.dict = none := by
 cases x with
 | str z =>
  obtain ⟨t, rfl⟩ := r
  cases (show T = "str" from ty)
  exact ⟨typeIs_str s z t, fun _ e => nomatch e⟩
 | int i =>
  obtain ⟨t, rfl⟩ := r
  cases (show T = "int" from ty)
  exact ⟨typeIs_int s i t, fun _ e => nomatch e⟩
 | ref p =>
  cases r
  rcases ty with ⟨rfl, xs, hq⟩ | ⟨rfl, o, hk, hc, hd⟩ | ⟨rfl, hk⟩ | ⟨rfl, S, n, hk⟩
  ·obtain ⟨its, _, pl, _⟩ := I.list hq
   refine ⟨pl.isList.typeIs, fun a e => ?_⟩
   cases e
   obtain ⟨o, n, e, c, hd, _⟩ := pl
   exact ⟨o, e, hd⟩
  ·refine ⟨⟨o, I.kIn p o hk, hc⟩, fun a e => ?_⟩
   cases e
   exact ⟨o, I.kIn _ o hk, hd⟩
  ·have z : ∃ o, s.heap.get? p = some o ∧ o.ExactDict := by
    rcases hk with ⟨kvs, hk⟩ | ⟨kvs, hk⟩
    ·obtain ⟨_, _, _, _, o, _, _, e, ex, _⟩ := I.hok p _ hk
     exact ⟨o, e, ex⟩
    ·obtain ⟨_, _, _, _, o, _, _, e, ex, _⟩ := I.hok p _ hk
     exact ⟨o, e, ex⟩
   obtain ⟨o, e, ex⟩ := z
   refine ⟨⟨o, e, ex.1⟩, fun a e2 => ?_⟩
   cases e2
   exact ⟨o, e, ex.2.1⟩
  ·obtain ⟨o, _, _, _, e, ex, _⟩ := I.hok p _ hk
   refine ⟨⟨o, e, ex.1⟩, fun a e2 => ?_⟩
   cases e2
   exact ⟨o, e, ex.2.1⟩
 | _ => exact False.elim ty
def tBM (K : PySem.W.Frag) (T : String) (r : V → List V → Hp → VK → Prop) (to : TE) (t : TA) : TE := fun σ H Q => to σ H fun x H1 => tyV K T x H1 ∧ t σ H1 fun xs H2 => r x xs H2 Q
variable {o e : Expr} {es : List Expr} {to : TE} {t : TA} {name : Str} {apos cpos : Pos} {T id : String} {r : V → List V → Hp → VK → Prop}
theorem zt4 (pa : PlainAttrs T) (slot : Slot T name id) (hty : typeOf (.builtin id) = pure (.type "method_descriptor")) (hm : MtR X id r) (ho : PE X o to) (ha : PA X (e :: es) t)
  (hbase : attributeBase o name X.env (eval o X.env) = eval o X.env := by rfl)
  (hfew : ((backTo cpos (starEach (e :: es) X.env)).all (fun x => !x.1) && (backToKw cpos (keywordEach [] X.env)).all (fun x => x.1.isSome)
   && decide ((e :: es).length + ([] : List Keyword).length + (if ([] : List Keyword).isEmpty then 0 else 1) < 30)) = true := by rfl)
  (hline : (apos.endLine == cpos.line) = true := by rfl) (hs : starEach (e :: es) X.env = (false, eval e X.env) :: starEach es X.env := by rfl) (hplain : (backTo cpos (starEach es X.env)).any (·.1) = false := by rfl) :
  PE X (.Call (.Attribute o name apos) (e :: es) [] cpos) (tBM X.K T r to t) := by
 intro pins s σ H Q I h
 refine wpAny_Call_method_late hbase hfew hline rfl (thn (ho pins s σ H _ I h) fun v s1 ⟨x, H1, I1, r1, ty, q1⟩ => ?_)
 obtain ⟨h1, h2⟩ := zst I1 r1 ty
 refine ⟨T, id, pa, slot, hty, h1, h2, ?_⟩
 have hA := ha cpos pins s1 σ H1 _ I1 q1
 rw [hs] at hA ⊢
 refine Calls.callWith_builtin (by show (false || (backTo cpos (starEach es X.env)).any (·.1)) = false; rw [hplain] <;> rfl) (Calls.evalArgs_plain ?_)
 exact thn hA fun us s2 ⟨vs, H2, I2, r2, q2⟩ => hm pins s2 σ H2 x vs v us Q I2 r1 r2 q2
end
end L2
namespace L2
open PySem PySem.Spec PyProof.Rows
def MtM (X : Cx) (id : String) (r : V → List V → Hp → VK → Prop) : Prop :=
 ∀ (pins : List (Addr × Obj)) (s : Shared) (σ : St) (H : Hp) (x : V) (xs : List V) (v : Value) (us : List Value) (Q : VK), Inv X pins σ H s → zbz x v → zbt xs us → r x xs H Q →
  wpAny (model X.prog X.w) X.A (call (.builtin id) (v :: us)) (EP X pins σ Q) X.xe s
theorem zbt.one : ∀ {x : V} {us : List Value}, zbt [x] us → ∃ u, us = [u] ∧ zbz x u
 | _, _, .cons r .nil => ⟨_, rfl, r⟩
section
variable {X : Cx} {pins : List (Addr × Obj)} {σ : St} {H : Hp} {s : Shared} {l b : Addr} {xs ys zs : List V}
theorem Inv.lset {its its' : List Value} {n : Nat} {f : Array Value → Array Value} {t' : Nat} (I : Inv X pins σ H s) (hH : H l = some (.lst xs))
  (e : s.heap.get? l = some { cls := .type "list", data := .seq its.toArray n }) (hf : f its.toArray = its'.toArray) (hv : zbt ys its') (hz : ys.length ≤ sizeLine) :
  Inv X pins σ (upd H l (.lst ys)) { s with heap := s.heap.update l (Obj.mapSeq f), toks := t' } := by
 have q := PySem.IsL.update e f
 rw [hf] at q
 refine I.write (x := l) (e := l) (by rw [hH]; exact trivial) (.inl rfl) (fun b' u hb hu => (Heap.get?_update_other s.heap (Obj.mapSeq f) (Ne.symm hb)).trans hu) ⟨_, q⟩ ?_
 exact ⟨hz, its', _, hv, q⟩
theorem Inv.lnew {its : List Value} {t' : Nat} (I : Inv X pins σ H s) (hv : zbt ys its) (hz : ys.length ≤ sizeLine) :
  Inv X pins σ (upd H s.heap.objs.size (.lst ys)) { s with heap := s.heap.push { cls := .type "list", data := .seq its.toArray }, toks := t' } :=
 I.laid (fun _ _ q => Heap.get?_push_of_some _ q) (Nat.le_refl _) ⟨hz, its, 0, hv, Heap.get?_push_size _ rfl⟩
theorem Inv.fresh (I : Inv X pins σ H s) : H s.heap.objs.size = none := I.hok.fresh (Nat.le_refl _)
theorem Inv.lstM (I : Inv X pins σ H s) (hH : H l = some (.lst xs)) : xs.length ≤ sizeLine ∧ ∃ (its : List Value) (n : Nat), zbt xs its ∧ xs.length = its.length ∧ s.heap.get? l = some { cls := .type "list", data := .seq its.toArray n } := by
 obtain ⟨z, its, n, r, e⟩ := I.hok l _ hH
 exact ⟨z, its, n, r, r.length, e⟩
end
section
variable {X : Cx}
def zqL : V → List V → Hp → VK → Prop := fun x vs H Q => ∃ l xs y, x = .ref l ∧ vs = [y] ∧ H l = some (.lst xs) ∧ xs.length < sizeLine ∧ Q .non (upd H l (.lst (xs ++ [y])))
theorem zl0 : MtM X "list.append" zqL := by
 intro pins s σ H x vs v us Q I rx rv h
 obtain ⟨l, xs, y, rfl, rfl, hH, hz, q⟩ := h
 cases rx
 obtain ⟨u, rfl, ru⟩ := rv.one
 obtain ⟨z, its, n, r, hl, e⟩ := I.lstM hH
 refine call_meets F.slot_list_append ⟨_, e, rfl⟩ F.entry_list_append (F.args_list_append_2 _ _) (PySem.list_append l its.toArray n u (by rw [List.size_toArray]; omega)) ⟨e, ?_⟩
 refine ⟨.non, _, I.lset (its' := its ++ [u]) hH e (by simp) (r.append (.cons ru .nil)) ?_, rfl, q⟩
 rw [List.length_append, List.length_singleton]
 omega
end
end L2
namespace Att
open PySem PySem.W PySem.Calls PyProof.Rows
theorem zfG {P : Params} {h : Heap} : ∀ (ns : List Int) (vs : List Value), WellAll P h vs (ns.map WData.int) → IntsAre vs ns := by
 intro ns
 induction ns with
 | nil =>
  intro vs w
  rw [List.map_nil] at w
  cases w
  exact .nil
 | cons n ns ih =>
  intro vs w
  rw [List.map_cons] at w
  cases w with
  | cons a b =>
   cases a
   exact .cons _ _ (ih _ b)
theorem zl1 {l : OpenLaw} {n : Nat} (hn : l.most = some n) {P : Params} {h : Heap} {args : List WData} {vals : List Value}
  (hpre : l.row.toRowW.claim.pre args = true) (hwl : WellAll P h vals args) :
  ∃ a vs ns, vals = [Value.ref a] ∧ args = [WData.list (ns.map WData.int)] ∧ h.get? a = some { cls := .type "list", data := .seq vs.toArray } ∧ IntsAre vs ns ∧ ns.length ≤ n := by
 have hsh : WShape.hasAll [] args [.list .int] = true := (pre_splitW hpre).1
 have hc : l.pre.holds [] { args := args } = true := (pre_splitW hpre).2
 obtain ⟨d, r, rfl, h1, h2⟩ := hasAllW_cons hsh
 obtain rfl := hasAllW_nil h2
 obtain ⟨xs, rfl, h3⟩ := hasW_list h1
 obtain ⟨ns, rfl⟩ := items_int h3
 have hlen : ns.length ≤ n := by
  unfold OpenLaw.pre at hc
  have h4 : (WTm.not (.lt (.lit (.int (n : Int))) (.len (.arg 0)))).holds [] { args := [.list (ns.map .int)] } = true := by
   have h4 := (holds_andW hc).1
   rw [hn] at h4
   exact h4
  have h5 := condW_of h4 (w_not (w_lt w_lit (w_len_list (w_arg rfl))))
  rw [List.length_map] at h5
  refine Nat.le_of_not_lt fun q => ?_
  have q' : (n : Int) < ((ns.length : Nat) : Int) := by omega
  first
   | (rw [decide_eq_true q'] at h5; exact absurd h5 (by decide))
   | (simp at h5; omega)
 cases hwl with
 | cons w1 w2 =>
  cases w2
  cases w1 with
  | list ho hall => exact ⟨_, _, ns, rfl, rfl, ho, zfG ns _ hall, hlen⟩
theorem zl2 (l : OpenLaw) (args : List WData) : l.row.toRowW.claim.post args (.bool true) args = true :=
 postW_of (r := l.row.toRowW) (X := (true == true))
  (show WShape.has [] (.bool true) .bool = true by first | rfl | decide | simp [WShape.has, WShape.arms, WShape.armsAll])
  (show (WTm.eq .res (.lit (.bool true))).value [] { args := args, res := some (.bool true), after := args } = some (.bool (true == true)) from w_eq_bool (w_res rfl) w_lit) rfl
theorem attach_call {l : OpenLaw} {n : Nat} {q : Program} {loose : List Str} {XP : (Str → Option Value) → Heap → Prop} {YP : World → Heap → Prop} {d : DefRec}
  (hn : l.most = some n) (hdf : d.params.defaults = [])
  (call : ∀ (w : World) (s₀ s₁ : Shared) (mg mb : Str → Option Value) (fa : Addr) (o : Obj) (pm cd doc : Value) (a : Addr) (vs : List Value) (ns : List Int),
   Ground q loose [] XP w s₀ mg mb s₁.heap → YP w s₁.heap →
   s₁.heap.get? fa = some o → o.data = .func (docDef d.name d.params d.body d.scope pm cd doc) → s₁.heap.CodeRec cd d.name → mg d.name = some (.ref fa) →
   s₁.heap.get? a = some { cls := .type "list", data := .seq vs.toArray } → IntsAre vs ns → ns.length ≤ n → s₁.gens = #[] →
   codeAny (model l.prog w) callerA (.call (.ref fa) ⟨[.ref a], []⟩) (fun r s' => r = .ok (.ret (.bool true)) ∧ OldK s₁.heap s'.heap ∧ s'.os = s₁.os ∧ AllBare s'.gens) s₁) :
  WalkO q loose XP YP l.row.toRowW d [] (fun f vs => PySem.call f vs) := by
 intro w s₀ s₁ mg mb G Y fa o pm cd doc dV kV ho hd hcd hD hmg hg args vals as hpre hlay hrd hwl hlo
 obtain rfl : dV = .none := Dflts.none hD hdf
 obtain rfl : kV = .none := Dflts.noKw hD
 obtain ⟨a, vs, ns, rfl, rfl, hobj, hints, hlen⟩ := zl1 hn hpre hwl
 refine enter_call (codeAny_mono (call w s₀ s₁ mg mb fa o pm cd doc a vs ns G Y ho (fd_plain hd) hcd hmg hobj hints hlen hg) fun r s' hq => ?_)
 obtain ⟨rfl, h2, h3, h4⟩ := hq
 exact ⟨.inl ⟨.bool true, .bool true, [], rfl, fun _ => rfl, .bool true, zl2 l _, fun _ => ⟨List.Pairwise.nil, fun _ hm => (nomatch hm)⟩⟩, h2, h3, h4⟩
end Att
namespace L2
open PySem PySem.Spec PyProof.Rows
theorem zii : ∀ {vs : List Value} {ns : List Int}, IntsAre vs ns → zbt (ns.map V.int) vs
 | _, _, .nil => .nil
 | _, _, .cons n t h => .cons ⟨t, rfl⟩ (zii h)
def zt5 (H : Hp) : Prop := ∀ b, H b = none ∨ ∃ o xs, H b = some (.frz o (.lst xs))
theorem zoh {P : Program} {w : World} {K : PySem.W.Frag} {mg mb : Str → Option Value} {CX : CXT} {k : Nat} {fa a : Addr} {fd : FuncData} {x : Str} {sp : Sp} {s₁ : Shared} {vs : List Value} {ns : List Int}
  (KX : K.In s₁.heap) (hns : s₁.heap.Ns mainGlobals mg) (hb : s₁.heap.Ns builtinsNs mb) (hbb : ∀ x : Str, x ≠ "__name__" → mb x = bootBuiltins x) (hlim : s₁.heap.NoLimit) (hg : s₁.gens = #[])
  (ha : s₁.heap.get? a = some { cls := .type "list", data := .seq vs.toArray }) (hi : IntsAre vs ns) (hl : ns.length ≤ sizeLine) (hr : zfi k callerA)
  (F : ∀ base : Heap, K.In base → base.Ns mainGlobals mg → zgT P w K mg base CX k fa fd [x] sp) (hbind : ∀ (s : Shared) (u : Value), BindsTo s fd ⟨[u], []⟩ [(x, u)])
  (hsp : ∀ H : Hp, zt5 H → SqL K H a (ns.map V.int) → sp [.ref a] H (fun v _ => v = .bl true) fun _ _ _ => False)
  (hCX : ∀ H e s', CX [] H s₁ (fun _ _ _ => False) e s' → False) :
  codeAny (model P w) callerA (.call (.ref fa) ⟨[.ref a], []⟩) (fun r s' => r = .ok (.ret (.bool true)) ∧ OldK s₁.heap s'.heap ∧ s'.os = s₁.os ∧ AllBare s'.gens) s₁ := by
 have rv := zii hi
 have lenV := hi.length
 have core : ∀ H : Hp, zt5 H → SqL K H a (ns.map V.int) → HOk P w H s₁.heap → (∀ b, H b ≠ none → b = a) → (H a ≠ none → K.lookup a = none) →
   codeAny (model P w) callerA (.call (.ref fa) ⟨[.ref a], []⟩) (fun r s' => r = .ok (.ret (.bool true)) ∧ OldK s₁.heap s'.heap ∧ s'.os = s₁.os ∧ AllBare s'.gens) s₁ := by
  intro H hO hS hok hA hK
  have base_of : ∀ {b : Addr} {o : Obj}, s₁.heap.get? b = some o → H b = none → (zn6 s₁.heap H).get? b = some o := fun e n => zn7 e n
  have noA : ∀ {b : Addr} {o : Obj} {es : Array DictEntry} {ep : Nat}, s₁.heap.get? b = some o → o.data = .dict es ep → H b = none := fun {b o es ep} e d => by
   cases q : H b with
   | none => rfl
   | some u =>
    have e' : b = a := hA b (by rw [q]; simp)
    subst e'
    rw [ha] at e; cases e
    have d' : Data.seq vs.toArray _ = Data.dict es ep := d
    cases d'
  have nsK : ∀ {b : Addr} {m : Str → Option Value}, s₁.heap.Ns b m → (zn6 s₁.heap H).Ns b m := fun {b m} ⟨o, es, ep, e, d, r⟩ => ⟨o, es, ep, base_of e (noA e d), d, r⟩
  have hKb : K.In (zn6 s₁.heap H) := fun b o e => base_of (KX b o e) (by
   cases q : H b with
   | none => rfl
   | some u =>
    have e' : b = a := hA b (by rw [q]; simp)
    subst e'
    rw [hK (by rw [q]; simp)] at e; cases e)
  have hM : Mod K mg (zn6 s₁.heap H) := ⟨hKb, nsK hns, ⟨mb, nsK hb, hbb⟩, let ⟨mc, h1, h2⟩ := hlim; ⟨mc, nsK h1, h2⟩⟩
  have e0 : ztA P w K mg (zn6 s₁.heap H) callerA [] s₁ H := ⟨rfl, hM, fun b o e => zqp e, Nat.le_of_eq (zlK _ _), trivial, fun b hb => absurd (show b ∈ ([] : List Addr) from hb) (by simp), hok, .of_eq hg⟩
  refine codeAny_mono ((F _ hKb (nsK hns)).run callerA [] s₁ H ⟨[.ref a], []⟩ [.ref a] [.ref a] _ _ hr e0 (hbind s₁ (.ref a)) (.cons rfl .nil) (hsp H hO hS)) fun r s' h => ?_
  cases r with
  | error e => exact (hCX H e s' h).elim
  | ok fl =>
   cases fl with
   | next => exact False.elim h
   | brk => exact False.elim h
   | cont => exact False.elim h
   | ret u =>
    obtain ⟨v, H', os, bare, un, hok', r', q⟩ := h
    have q' : v = .bl true := q
    subst q'
    obtain rfl : u = Value.bool true := r'
    refine ⟨rfl, OldK.of_keep fun b o e => ?_, os, bare⟩
    cases q : H b with
    | none => exact un.keep b o e q (by intro z; exact absurd (show b ∈ ([] : List Addr) from z) (by simp)) (by simp)
    | some u =>
     rcases hO b with z | ⟨ob, xs, z⟩
     ·rw [q] at z; cases z
     ·have z2 := un.frzs b ob _ z
      obtain ⟨e1, _⟩ := hok b _ z
      obtain ⟨e2, _⟩ := hok' b _ z2
      rw [e] at e1; cases e1
      exact e2
 cases hk : K.lookup a with
 | some o =>
  have e := KX a o hk
  rw [ha] at e
  cases e
  refine core (fun _ => none) (fun _ => .inl rfl) (.inr ⟨_, vs.toArray, _, hk, rfl, rfl, rfl, by rw [List.size_toArray, lenV]; exact hl, by simpa using rv⟩) (fun b u z => by have z' : (none : Option HO) = some u := z; cases z') (fun b z => absurd rfl z) fun z => absurd rfl z
 | none =>
  refine core (fun b => if b = a then some (.frz { cls := .type "list", data := .seq vs.toArray } (.lst (ns.map V.int))) else none) (fun b => ?_) (.inl (.inr ⟨{ cls := .type "list", data := .seq vs.toArray }, if_pos rfl⟩)) (fun b u z => ?_) (fun b z => ?_) fun _ => hk
  ·by_cases hb : b = a
   ·exact .inr ⟨_, _, if_pos hb⟩
   ·exact .inl (if_neg hb)
  ·by_cases hb : b = a
   ·have z' := (if_pos hb).symm.trans z
    cases z'
    subst hb
    exact ⟨ha, by rw [List.length_map]; exact hl, vs, _, rv, ha⟩
   ·have z' := (if_neg hb).symm.trans z
    cases z'
  ·by_cases hb : b = a
   ·exact hb
   ·exact absurd (if_neg hb) z
end L2
namespace L2
open PySem PySem.Spec PyProof.Rows
theorem walk_of {l : PySem.W.OpenLaw} {n k : Nat} {q : Program} {loose : List Str} {XP : (Str → Option Value) → Heap → Prop} {YP : World → Heap → Prop} {d : DefRec} {K : Params → PySem.W.Frag} {CX : World → CXT} {sp : World → Sp} {x : Str}
  (hn : l.most = some n) (hn2 : n ≤ sizeLine) (hdf : d.params.defaults = []) (hr : zfi k callerA)
  (hY : ∀ (w : World) (h : Heap), YP w h → (K w.params).In h)
  (F : ∀ (w : World) (mg : Str → Option Value) (fa : Addr) (h : Heap), (K w.params).In h → h.Ns mainGlobals mg → mg d.name = some (.ref fa) →
   ∃ fd : FuncData, (∀ (s : Shared) (u : Value), BindsTo s fd ⟨[u], []⟩ [(x, u)]) ∧
    ∀ base : Heap, (K w.params).In base → base.Ns mainGlobals mg → zgT l.prog w (K w.params) mg base (CX w) k fa fd [x] (sp w))
  (hsp : ∀ (w : World) (H : Hp) (a : Addr) (ns : List Int), ns.length ≤ n → zt5 H → SqL (K w.params) H a (ns.map V.int) → sp w [.ref a] H (fun v _ => v = .bl true) fun _ _ _ => False)
  (hCX : ∀ (w : World) (H : Hp) (s : Shared) (e : Value) (s' : Shared), CX w [] H s (fun _ _ _ => False) e s' → False) :
  PySem.W.WalkO q loose XP YP l.row.toRowW d [] (fun f vs => PySem.call f vs) := by
 refine Att.attach_call hn hdf fun w s₀ s₁ mg mb fa o pm cd doc a vs ns G Y ho hd hcd hmg hobj hints hlen hg => ?_
 have KX := hY w _ Y
 obtain ⟨fd, hb, hF⟩ := F w mg fa _ KX G.T.g hmg
 exact zoh KX G.T.g G.T.b G.T.builtins G.T.nolimit hg hobj hints (Nat.le_trans hlen hn2) hr hF hb (fun H hO hS => hsp w H a ns hlen hO hS) fun H e s' => hCX w H s₁ e s'
end L2
namespace L2
open PySem PySem.Spec PyProof.Rows
def zaz (s : Stmt) : Arguments := match s with
 | .FunctionDef _ a _ _ _ _ _ _ _ _ => a
 | _ => { posonlyargs := [], args := [], vararg := none, kwonlyargs := [], kw_defaults := [], kwarg := none, defaults := [] }
def zar (s : Stmt) : List Stmt := match s with
 | .FunctionDef _ _ b _ _ _ _ _ _ _ => b
 | _ => []
def zaf (s : Stmt) : Scope := match s with
 | .FunctionDef _ _ _ _ _ _ sc _ _ _ => sc
 | _ => { kind := .function, names := [], isGenerator := false, isCoroutine := false }
abbrev E0 : XK := fun _ _ _ => False
structure Fun (K : PySem.W.Frag) (x qual : Str) (st : Stmt) (f : Addr) (fd : FuncData) : Prop where
 ex : ∃ (oc : Value) (od : Option Addr) (kV doc pm : Value) (an : Option Addr) (cdv ct : Value) (osl : Array (Option Value)),
  fd = PySem.W.fnOf x qual (zaz st) (zar st) (zaf st) .none kV doc pm an cdv ct ∧ K.lookup f = some ⟨oc, od, .func fd, osl⟩ ∧ PySem.W.codeIn K cdv qual = true
 kp : PySem.W.keepIn K (.ref f) = true
section
variable {P : Program} {w : World} {K : PySem.W.Frag} {mg : Str → Option Value} {base : Heap}
theorem Fun.binds {x qual : Str} {st : Stmt} {f : Addr} {fd : FuncData} {ps : List Str} (F : Fun K x qual st f fd)
  (h : ∀ (kV doc pm : Value) (an : Option Addr) (cdv ct : Value) (us : List Value), us.length = ps.length → bindArgs (PySem.W.fnOf x qual (zaz st) (zar st) (zaf st) .none kV doc pm an cdv ct) ⟨us, []⟩ = pure (ps.zip us)) : za8 K fd ps [] := by
 obtain ⟨oc, od, kV, doc, pm, an, cdv, ct, osl, rfl, lk, hcd⟩ := F.ex
 exact .all (h kV doc pm an cdv ct)
theorem zaT {x qual : Str} {st : Stmt} {f : Addr} {oc : Value} {od an : Option Addr} {osl : Array (Option Value)} {kV doc pm cdv ct : Value} (l : K.lookup f = some ⟨oc, od, .func (PySem.W.fnOf x qual (zaz st) (zar st) (zaf st) .none kV doc pm an cdv ct), osl⟩)
  (c : PySem.W.codeIn K cdv qual = true) (k : PySem.W.keepIn K (.ref f) = true) : Fun K x qual st f (PySem.W.fnOf x qual (zaz st) (zar st) (zaf st) .none kV doc pm an cdv ct) := ⟨⟨oc, od, kV, doc, pm, an, cdv, ct, osl, rfl, l, c⟩, k⟩
end
theorem zl3 {n : Nat} (h : n ≤ 1000) : n < sizeLine := Nat.lt_of_le_of_lt h (by decide)
section
variable {X : Cx}
theorem pv (i : Nat) {x : Str} {pos : Pos} (hN : X.N[i]? = some x := by rfl) (hv : Vis X.env.scope x := by first | exact Or.inl rfl | exact Or.inr (Or.inl rfl) | exact Or.inr (Or.inr rfl)) (hd : (x == ("__debug__" : Str)) = false := by decide)
  (hcd : (x == ("__classdict__" : Str)) = false := by decide) : PE X (.Name x pos) (ztI i) := zrU hN hv hd hcd
end
theorem iteF {A B : Prop} (h : B) : if false = true then A else B := by
 rw [if_neg Bool.false_ne_true]
 exact h
theorem iteT {A B : Prop} (h : A) : if true = true then A else B := by
 rw [if_pos rfl]
 exact h
def zaK (H H' : Hp) : Prop := ∀ b o, H b = some o → H' b = some o
theorem zaK.refl (H : Hp) : zaK H H := fun _ _ h => h
theorem zaK.trans {H H1 H2 : Hp} (a : zaK H H1) (b : zaK H1 H2) : zaK H H2 := fun c o h => b c o (a c o h)
theorem zaK.free {H H' : Hp} (e : zaK H H') {l : Addr} (h : H' l = Option.none) : H l = Option.none := by
 cases q : H l with
 | none => rfl
 | some o =>
  rw [e l o q] at h
  cases h
theorem zaK.seq {K : PySem.W.Frag} {H H' : Hp} {a : Addr} {xs : List V} (e : zaK H H') (h : SqL K H a xs) : SqL K H' a xs := by
 rcases h with (h | ⟨o, h⟩) | h
 ·exact .inl (.inl (e _ _ h))
 ·exact .inl (.inr ⟨o, e _ _ h⟩)
 ·exact .inr h
end L2
end
section
set_option Elab.async false
set_option linter.all false
set_option maxRecDepth 100000
namespace L2
open PySem PySem.Spec PyProof.Rows
theorem zgV {α β : Type} (g : β → α → β) : ∀ {l : List α} {f : α → β → Sem (ForInStep β)} (c : β), (∀ x ∈ l, ∀ c, f x c = pure (.yield (g c x))) → forIn l c f = pure (l.foldl g c)
 | [], _, _, _ => rfl
 | x :: l, f, c, h => by
  rw [List.forIn_cons, h x List.mem_cons_self c, pure_bind]
  exact zgV g (g c x) fun y hy => h y (List.mem_cons_of_mem _ hy)
def zbQ (env : Env) (cs : List (Str × Addr)) (x : Str × NameKind) : List (Str × Addr) :=
 if (x.2 == NameKind.free) = true then (x.1, (env.cells.lookup x.1).getD 0) :: cs else cs
def zrJ (env : Env) (names : List (Str × NameKind)) : List (Str × Addr) := names.foldl (zbQ env) []
theorem zl4 {env : Env} {scope : Scope} (h : ∀ x ∈ scope.names, x.2 = .free → ∃ c, env.cells.lookup x.1 = some c) : closureFor scope env = pure (zrJ env scope.names) := by
 simp only [closureFor]
 rw [zgV (zbQ env) [] (fun x hx c => by
  obtain ⟨n, k⟩ := x
  by_cases hk : k = .free
  ·obtain ⟨a, e⟩ := h (n, k) hx hk
   have e' : env.cells.lookup n = some a := e
   subst hk
   simp [zbQ, cellOf, e']
  ·have hb : (k == NameKind.free) = false := by simpa using hk
   simp [zbQ, hb])]
 rfl
theorem zhs {env : Env} : ∀ (l : List (Str × NameKind)) (acc : List (Str × Addr)), (∀ x ∈ l, x.2 = .free → ∃ c, env.cells.lookup x.1 = some c) → (∀ y c, acc.lookup y = some c → env.cells.lookup y = some c) →
  ∀ y c, (l.foldl (zbQ env) acc).lookup y = some c → env.cells.lookup y = some c
 | [], acc, _, ha, y, c, e => ha y c e
 | x :: l, acc, h, ha, y, c, e => by
  refine zhs l (zbQ env acc x) (fun z hz => h z (List.mem_cons_of_mem _ hz)) (fun z d q => ?_) y c e
  unfold zbQ at q
  split at q
  ·rename_i hk
   obtain ⟨a, ea⟩ := h x List.mem_cons_self (by simpa using hk)
   rw [List.lookup_cons] at q
   cases hz : z == x.1 with
   | true =>
    rw [hz] at q
    rw [ea] at q
    have : z = x.1 := by simpa using hz
    rw [this, ea]; simpa using q
   | false => rw [hz] at q; exact ha z d q
  ·exact ha z d q
theorem zfH {env : Env} : ∀ (l : List (Str × NameKind)) (acc : List (Str × Addr)) (y : Str), ((∃ c, acc.lookup y = some c) ∨ (y, NameKind.free) ∈ l) → ∃ c, (l.foldl (zbQ env) acc).lookup y = some c
 | [], acc, y, h => by
  rcases h with h | h
  ·exact h
  ·exact absurd h (by simp)
 | x :: l, acc, y, h => by
  refine zfH l (zbQ env acc x) y ?_
  rcases h with ⟨c, h⟩ | h
  ·left
   unfold zbQ
   split
   ·rw [List.lookup_cons]
    cases hz : y == x.1 with
    | true => exact ⟨_, rfl⟩
    | false => exact ⟨c, h⟩
   ·exact ⟨c, h⟩
  ·rcases List.mem_cons.mp h with e | h
   ·left
    subst e
    unfold zbQ
    rw [if_pos (by rfl), List.lookup_cons]
    simp
   ·exact .inr h
theorem zbo {scope : Scope} {env : Env} : ∀ {names : List (Str × NameKind)} {x : Str} {k : NameKind},
  (names.map fun (n, k) => if (k == NameKind.free && env.scope.kind == .function && env.kindOf n == some .cell) then (n, NameKind.cell) else (n, k)).lookup x = some k →
  names.lookup x = some k ∨ (k = .cell ∧ names.lookup x = some .free)
 | [], _, _, h => by simp at h
 | (n, k') :: r, x, k, h => by
  change List.lookup x ((if (k' == NameKind.free && env.scope.kind == .function && env.kindOf n == some .cell) = true then (n, NameKind.cell) else (n, k')) :: _) = some k at h
  by_cases hc : (k' == NameKind.free && env.scope.kind == .function && env.kindOf n == some .cell) = true
  ·rw [if_pos hc, List.lookup_cons] at h
   rw [List.lookup_cons]
   cases hx : x == n with
   | true =>
    rw [hx] at h
    have hk : k' = .free := by
     simp only [Bool.and_eq_true, beq_iff_eq] at hc
     exact hc.1.1
    subst hk
    have h' : NameKind.cell = k := by simpa using h
    exact .inr ⟨h'.symm, rfl⟩
   | false => rw [hx] at h; exact zbo (scope := scope) h
  ·rw [if_neg hc, List.lookup_cons] at h
   rw [List.lookup_cons]
   cases hx : x == n with
   | true => rw [hx] at h; exact .inl h
   | false => rw [hx] at h; exact zbo (scope := scope) h
def zt6 (k : Nat) (NY N : List Str) (sc : Scope) : Bool :=
 NY.length == k + N.length && ((NY.drop k).zip N).all fun p => (sc.names.lookup p.1).isNone || (p.1 == p.2 && sc.names.lookup p.1 != some .local)
structure LC (X : Cx) (k : Nat) (scope : Scope) (NY : List Str) : Prop where
 cells : ∀ y ∈ scope.names, y.2 ≠ .cell
 kind : scope.kind = .function
 names : ∀ y ∈ scope.names, y.2 = .local → scope.names.lookup y.1 = some .local
 free : ∀ y ∈ scope.names, y.2 = .free → X.env.kindOf y.1 = some .cell ∨ X.env.kindOf y.1 = some .free
 ny : zt6 k NY X.N scope = true
 nd : NY.Nodup
def lcOk (k : Nat) (N : List Str) (sc0 scope : Scope) (NY : List Str) : Bool :=
 (scope.names.all fun y => y.2 != .cell) && (scope.kind == .function) && (scope.names.all fun y => y.2 != .local || scope.names.lookup y.1 == some .local) &&
 (scope.names.all fun y => y.2 != .free || sc0.names.lookup y.1 == some .cell || sc0.names.lookup y.1 == some .free) && zt6 k NY N scope && decide NY.Nodup
theorem LC.of {X : Cx} {k : Nat} {N NY : List Str} {sc0 scope : Scope} (hN : X.N = N) (hs : X.env.scope = sc0) (h : lcOk k N sc0 scope NY = true) : LC X k scope NY := by
 unfold lcOk at h
 simp only [Bool.and_eq_true, List.all_eq_true, Bool.or_eq_true, bne_iff_ne, beq_iff_eq, ne_eq] at h
 obtain ⟨⟨⟨⟨⟨h1, h2⟩, h3⟩, h4⟩, h5⟩, h6⟩ := h
 refine ⟨h1, h2, fun y hy e => ?_, fun y hy e => ?_, by rw [hN]; exact h5, of_decide_eq_true h6⟩
 ·rcases h3 y hy with z | z
  ·exact absurd e z
  ·exact z
 ·show X.env.scope.names.lookup y.1 = _ ∨ X.env.scope.names.lookup y.1 = _
  rw [hs]
  rcases h4 y hy with (z | z) | z
  ·exact absurd e z
  ·exact .inl z
  ·exact .inr z
def zd1 (X : Cx) (scope : Scope) (NY : List Str) (s₀ : Shared) (H₀ : Hp) (C : Addr) (ex : List Addr) : Cx :=
 { X with N := NY, s₀ := s₀, H₀ := H₀, env := compEnvC scope (zrJ X.env scope.names) C X.env, outer := X.stack, ex := ex, fn := fun _ => false, pn := [], xe := fun _ _ => False }
def PTs (X : Cx) (cs : List Expr) (t : TT) : Prop :=
 ∀ (pins : List (Addr × Obj)) (s : Shared) (σ : St) (H : Hp) (Q : Bool → Hp → Prop), Inv X pins σ H s → t σ H Q →
  wpAny (model X.prog X.w) X.A (forIn cs true fun c r => if r = true then do let ok ← isTrue c X.env (eval c X.env); pure (ForInStep.yield ok) else pure (ForInStep.yield r)) (TP X pins σ Q) X.xe s
def zt7 : TT := fun _ H Q => Q true H
theorem zqM {X : Cx} : PTs X [] zt7 := fun _ _ _ H _ I h => wpAny_tests_nil ⟨H, I, h⟩
theorem zqN {X : Cx} {c : Expr} {t : TT} (hc : PT X c t) : PTs X [c] t := fun pins s σ H Q I h => wpAny_tests_one (hc pins s σ H Q I h)
def zqO (σ σ2 : St) : Prop := σ2.length = σ.length ∧ ∀ (j : Nat) (v : V), σ[j]? = some (some v) → σ2[j]? = some (some v)
def tLC (k : Nat) (wi : TI) (g : TG) (tc : TT) (te : TE) : TE := fun σ H Q => wi σ H fun J H1 => ∃ W : Nat → Nat → List V → Hp → Prop, (∃ m, W 0 m [] H1) ∧ ∀ i m ys H, W i m ys H → ys.length < sizeLine ∧
 ((J.stop i H ∧ ∀ D, H D = none → Q (.ref D) (upd H D (.lst ys))) ∨
  (J.go i H ∧ ∃ N : List V → Hp → Prop, (∀ ys' H', N ys' H' → ∃ m', m' < m ∧ W (i + 1) m' ys' H') ∧
    ∀ v H', J.yld i H v H' → g v (List.replicate k none ++ σ) H' fun σ2 H2 => zqO (List.replicate k none ++ σ) σ2 ∧
      tc σ2 H2 fun b H3 => if b = true then te σ2 H3 fun y H4 => N (ys ++ [y]) H4 else N ys H3))
theorem zt8 {α : Type} {t : Sem α} {Q Q' : α → Shared → Prop} {M : Model} {A : Around} {E : Value → Shared → Prop} {s : Shared} (h : wpAny M A t Q (fun _ _ => False) s) (hQ : ∀ a s, Q a s → Q' a s) : wpAny M A t Q' E s :=
 wpAny_mono h hQ fun _ _ z => False.elim z
section
variable {prog : Program} {w : World} {A : Around} {R : Result → Shared → Prop} {s : Shared}
theorem zij {elt tg iter : Expr} {ifs : List Expr} {scope : Scope} {pos : Pos} {it acc : Value} {env : Env} (W : Nat → Shared → Prop)
  (turn : ∀ n s, W n s → ∀ E', wpAny (model prog w) A (pyNext it) (fun r s1 => match r with
   | none => R (.ok .next) s1
   | some v => wpAny (model prog w) A (letOwnedTupleGo tg it v) (fun _ s2 => wpAny (model prog w) A (assign tg env v) (fun _ s3 =>
     wpAny (model prog w) A (forIn ifs true fun c r => if r = true then do let ok ← isTrue c env (eval c env); pure (ForInStep.yield ok) else pure (ForInStep.yield r)) (fun ok s4 =>
      if ok = true then wpAny (model prog w) A (eval elt env) (fun x s5 => wpAny (model prog w) A (call (.builtin "list.append") [acc, x]) (fun _ s6 => ∃ m, m < n ∧ W m s6) E' s5) E' s4
      else ∃ m, m < n ∧ W m s4) E' s3) E' s2) E' s1) E' s)
  (n : Nat) (h : W n s) : codeAny (model prog w) A (.compLoop (.ListComp elt [⟨tg, iter, ifs, 0⟩] scope pos) 0 it acc env) R s := by
 refine codeAny_loop rfl W (fun n s hW => ?_) n h
 show wpAny _ A ((compTurn (.ListComp elt [⟨tg, iter, ifs, 0⟩] scope pos) 0 it acc env).onRaise (fun x => do noteFrame x env; theTreesLotGoes x)) _ _ s
 refine wpAny_noted ?_
 rw [compTurn_list]
 refine wpAny_bind (wpAny_standAt (wpAny_bind (thn (turn n s hW _) fun r s1 h1 => ?_)))
 cases r with
 | none => exact wpAny_pure h1
 | some v =>
  refine wpAny_bind (thn h1 fun _ s2 h2 => wpAny_bind (thn h2 fun _ s3 h3 => wpAny_bind (thn h3 fun ok s4 h4 => ?_)))
  cases ok with
  | false => exact wpAny_pure ⟨rfl, h4⟩
  | true => exact wpAny_bind (wpAny_bind (thn h4 fun x s5 h5 => wpAny_bind (thn h5 fun _ s6 h6 => wpAny_pure (wpAny_pure ⟨rfl, h6⟩))))
end
section
variable {X : Cx} {pins : List (Addr × Obj)} {σ : St} {H2 : Hp} {s2 : Shared} {scope : Scope} {NY : List Str} {k : Nat} {C D : Addr} {fp : List Addr}
theorem zt9 (I2 : Inv X pins σ H2 s2) (lc : LC X k scope NY) (hf : ∀ b ∈ fp, zlF X pins H2 b) (hfl : ∀ b ∈ fp, b < s2.heap.objs.size) (hC : s2.heap.objs.size ≤ C) : (zd1 X scope NY s2 H2 C fp).Ok := by
 have hfree : ∀ x ∈ scope.names, x.2 = .free → ∃ c, X.env.cells.lookup x.1 = some c := fun x hx e => I2.ok.has x.1 (lc.free x hx e)
 have sub : ∀ x c, (zrJ X.env scope.names).lookup x = some c → X.env.cells.lookup x = some c := zhs scope.names [] hfree (fun y c e => by simp at e)
 refine ⟨I2.ok.mod, ?_, I2.ok.glob, I2.ok.blt, hC, fun x y c e1 e2 => I2.ok.inj x y c (sub x c e1) (sub y c e2), fun x hx => ?_, fun x c z => absurd z (by show ¬ (false = true); decide), I2.ok.hd, I2.ok.frames, .inl rfl, fun b hb => ⟨Nat.ne_of_lt (Nat.lt_of_lt_of_le (hfl b hb) hC), fun x c e => (hf b hb).2.2.2.2.1 x c (sub x c e)⟩,
  I2.bs, Nat.le_trans I2.ok.bsz I2.sz, fun b o e hb => ?_, fun b hb z => ?_, I2.stack, I2.stkFree⟩
 ·show (relabel scope X.env).kind = .function
  exact lc.kind
 ·have hx : (relabel scope X.env).names.lookup x = some .cell ∨ (relabel scope X.env).names.lookup x = some .free := hx
  have key : scope.names.lookup x = some .free := by
   rcases hx with hx | hx
   ·rcases zbo (scope := scope) hx with z | ⟨_, z⟩
    ·exact absurd rfl (lc.cells _ (PySem.mem_of_lookup z))
    ·exact z
   ·rcases zbo (scope := scope) hx with z | ⟨_, z⟩
    ·exact z
    ·exact z
  exact zfH scope.names [] x (.inr (PySem.mem_of_lookup key))
 ·have q : b ∈ X.ex ∨ X.s₀.heap.objs.size ≤ b := (hf b hb).2.2.2.1
  rcases q with q | q
  ·exact I2.ok.noex b o e q
  ·exact absurd (Nat.lt_of_lt_of_le (Heap.lt_size e) (Nat.le_trans I2.ok.bsz q)) (Nat.lt_irrefl _)
 ·rcases List.mem_cons.mp (I2.stkSub b z) with e | e
  ·exact (hf b hb).2.1 e
  ·exact (hf b hb).2.2.1 e
theorem zoi {h1 : Heap} {tk : Nat} {m : Str → Option Value} {oD : Obj} (I2 : Inv X pins σ H2 s2) (lc : LC X k scope NY) (hf : ∀ b ∈ fp, zlF X pins H2 b) (hfl : ∀ b ∈ fp, b < s2.heap.objs.size) (hC : s2.heap.objs.size ≤ C) (hD : s2.heap.objs.size ≤ D) (hDC : D ≠ C)
  (old : ∀ b o, s2.heap.get? b = some o → h1.get? b = some o) (hn : h1.Ns C m) (ho : h1.get? D = some oD) (hoD : ∀ v, oD.data ≠ .cell v) :
  Inv (zd1 X scope NY s2 H2 C fp) [(D, oD)] (List.replicate k none ++ σ) H2 { s2 with heap := h1, toks := tk } := by
 have hfree : ∀ x ∈ scope.names, x.2 = .free → ∃ c, X.env.cells.lookup x.1 = some c := fun x hx e => I2.ok.has x.1 (lc.free x hx e)
 have sub : ∀ x c, (zrJ X.env scope.names).lookup x = some c → X.env.cells.lookup x = some c := zhs scope.names [] hfree (fun y c e => by simp at e)
 have hny := lc.ny
 unfold zt6 at hny
 simp only [Bool.and_eq_true, beq_iff_eq, List.all_eq_true, Bool.or_eq_true, bne_iff_ne, ne_eq] at hny
 obtain ⟨hlen, hz⟩ := hny
 refine ⟨zt9 I2 lc hf hfl hC, rfl, I2.bare, Un.kept old, ⟨m, hn, fun i x v e1 e2 e3 => ?_⟩, fun x c e => ?_, I2.hok.fresh hC, fun x c e => I2.freeC x c (sub x c e), fun p hp => ?_, I2.hok.kept old, ?_⟩
 ·have e1 : NY[i]? = some x := e1
  have hik : k ≤ i := by
   refine Nat.le_of_not_lt fun z => ?_
   rw [List.getElem?_append_left (by simpa using z), List.getElem?_replicate, if_pos z] at e2
   cases e2
  rw [List.getElem?_append_right (by simpa using hik), List.length_replicate] at e2
  have hi2 : i - k < X.N.length := by
   rw [← I2.len]; exact (List.getElem?_eq_some_iff.mp e2).1
  obtain ⟨y, ey⟩ : ∃ y, X.N[i - k]? = some y := ⟨_, List.getElem?_eq_getElem hi2⟩
  have em : (x, y) ∈ (NY.drop k).zip X.N := by
   refine List.mem_of_getElem? (i := i - k) ?_
   rw [List.getElem?_zip_eq_some]
   refine ⟨?_, ey⟩
   rw [List.getElem?_drop, show k + (i - k) = i by omega]; exact e1
  have e3 : Vis (relabel scope X.env) x := e3
  have kf : scope.names.lookup x = some .free := by
   have kk : ∃ q, scope.names.lookup x = some q := by
    rcases e3 with z | z | z <;> rcases zbo (scope := scope) z with z | ⟨_, z⟩ <;> exact ⟨_, z⟩
   have zz := hz (x, y) em
   have nl : scope.names.lookup x ≠ some .local := by
    rcases zz with zz | zz
    ·obtain ⟨q, hq⟩ := kk
     have zz : (scope.names.lookup x).isNone = true := zz
     rw [hq] at zz; cases zz
    ·exact zz.2
   rcases e3 with z | z | z <;> rcases zbo (scope := scope) z with z | ⟨_, z⟩
   ·exact absurd z nl
   ·exact z
   ·exact absurd rfl (lc.cells _ (PySem.mem_of_lookup z))
   ·exact z
   ·exact z
   ·exact z
  have exy : x = y := by
   rcases hz (x, y) em with zz | zz
   ·have zz : (scope.names.lookup x).isNone = true := zz
    rw [kf] at zz; cases zz
   ·exact zz.1
  subst exy
  obtain ⟨mX, hnX, hlX⟩ := I2.loc
  have hk := lc.free (x, .free) (PySem.mem_of_lookup kf) rfl
  have hk : X.env.kindOf x = some .cell ∨ X.env.kindOf x = some .free := hk
  obtain ⟨u, ru, lu⟩ := hlX (i - k) x v ey e2 (.inr hk)
  refine ⟨u, ru, ?_⟩
  rcases lu with ⟨z, _⟩ | ⟨_, c, hc, hcell⟩
  ·rcases hk with q | q <;> rw [q] at z <;> cases z
  ·obtain ⟨c', hc'⟩ := zfH (env := X.env) scope.names [] x (.inr (PySem.mem_of_lookup kf))
   have : c' = c := by
    have q := sub x c' hc'
    rw [hc] at q; exact (Option.some.inj q).symm
   subst this
   refine .inr ⟨?_, c', hc', hcell.keeps old⟩
   show (relabel scope X.env).names.lookup x = some .cell ∨ (relabel scope X.env).names.lookup x = some .free
   rcases e3 with z | z
   ·rcases zbo (scope := scope) z with z | ⟨z, _⟩
    ·rw [kf] at z; cases z
    ·cases z
   ·exact z
 ·obtain ⟨v, z⟩ := I2.cell x c (sub x c e)
  exact ⟨v, z.keeps old⟩
 ·have e : p = (D, oD) := by simpa [zd1] using hp
  subst e
  refine ⟨ho, I2.hok.fresh hD, hDC, fun z => ?_, hoD⟩
  have z : D ∈ frs X.stack := z
  rcases List.mem_cons.mp (I2.stkSub D z) with q | q
  ·exact absurd (Nat.lt_of_lt_of_le I2.lt hD) (by rw [q]; exact Nat.lt_irrefl _)
  ·exact I2.nofs hD q
 ·show (List.replicate k none ++ σ).length = NY.length
  rw [hlen, List.length_append, List.length_replicate, I2.len]
theorem zsu {H4 : Hp} {s4 : Shared} {σ' : St} {ys : List V} {us : List Value} (I2 : Inv X pins σ H2 s2) (hf : ∀ b ∈ fp, zlF X pins H2 b) (hC : s2.heap.objs.size ≤ C) (hD : s2.heap.objs.size ≤ D)
  (I4 : Inv (zd1 X scope NY s2 H2 C fp) [(D, LCg.lst us)] σ' H4 s4) (rv : zbt ys us) (hz : ys.length ≤ sizeLine) : Inv X pins σ (upd H4 D (.lst ys)) s4 := by
 obtain ⟨pD, nD, neD, nfD, dD⟩ := I4.pin (D, LCg.lst us) (by simp)
 have u0 : Un (frs X.stack) fp H2 H4 s2.heap s4.heap := I4.base
 have neb : ∀ b o, s2.heap.get? b = some o → b ≠ D := fun b o e => Nat.ne_of_lt (Nat.lt_of_lt_of_le (Heap.lt_size e) hD)
 have hok : HOk X.prog X.w (upd H4 D (.lst ys)) s4.heap := fun b u e => by
  by_cases hb : b = D
  ·subst hb
   rw [zau] at e; cases e
   exact ⟨hz, us, us.length, rv, pD⟩
  ·rw [zax hb] at e
   exact (I4.hok b u e).stay (fun _ _ _ q => q) (fun c q => by rw [zax (zan q nD)]; exact q) fun c xs q => by rw [zax (zan q nD)]; exact q
 refine I2.call' (ch := fp) I4.os ⟨u0.keep, u0.slot, fun b o e n hx => ?_, u0.there, fun b xs q => ?_, fun b o u q => ?_, fun b ps q => ?_⟩ hok I4.bare fun b hb => ⟨(hf b hb).2.2.2.1, (hf b hb).2.1, (hf b hb).2.2.2.2.1, (hf b hb).2.2.2.2.2⟩
 ·rw [zax (neb b o e)]; exact u0.free b o e n hx
 ·have z := u0.tups b xs q
  rw [zax (zan z nD)]; exact z
 ·have z := u0.frzs b o u q
  rw [zax (zan z nD)]; exact z
 ·obtain ⟨more, z⟩ := u0.tbls b ps q
  exact ⟨more, by rw [zax (zan z nD)]; exact z⟩
end
theorem zpi {X : Cx} {tg elt iter : Expr} {ifs : List Expr} {scope : Scope} {pos : Pos} {NY : List Str} {k : Nat} {g : TG} {tc : TT} {te : TE} (hc : X.calm = true) (lc : LC X k scope NY)
  (hb : ∀ (s₀ : Shared) (H₀ : Hp) (C : Addr) (ex : List Addr), NY.Nodup → PG (zd1 X scope NY s₀ H₀ C ex) tg g ∧ PTs (zd1 X scope NY s₀ H₀ C ex) ifs tc ∧ PE (zd1 X scope NY s₀ H₀ C ex) elt te)
  {pins : List (Addr × Obj)} {σ : St} {H2 : Hp} {s2 : Shared} {it : Addr} {fp : List Addr} {tn : Nat → Heap → Prop} {J : It} {RR : Value → Addr → Result → Shared → Prop} {E : Value → Shared → Prop} {Fin : List V → Hp → Prop}
  (I2 : Inv X pins σ H2 s2) (T : zrI X.prog X.w X.K tg J fp it tn) (st2 : tn 0 s2.heap) (f2 : ∀ b ∈ fp, zlF X pins H2 b) {W : Nat → Nat → List V → Hp → Prop} {m0 : Nat} (w0 : W 0 m0 [] H2)
  (turn : ∀ i m ys H, W i m ys H → ys.length < sizeLine ∧ ((J.stop i H ∧ Fin ys H) ∨ (J.go i H ∧ ∃ N : List V → Hp → Prop, (∀ ys' H', N ys' H' → ∃ m', m' < m ∧ W (i + 1) m' ys' H') ∧
   ∀ v H', J.yld i H v H' → g v (List.replicate k none ++ σ) H' fun σ2 H2 => zqO (List.replicate k none ++ σ) σ2 ∧ tc σ2 H2 fun b H3 => if b = true then te σ2 H3 fun y H4 => N (ys ++ [y]) H4 else N ys H3)))
  (fin : ∀ (C D : Addr) (H4 : Hp) (s4 : Shared) (ys : List V) (m : Str → Option Value), s2.heap.objs.size ≤ C → H4 D = none → H4 C = none → D ≠ C → s4.heap.Ns C m → Inv X pins σ (upd H4 D (.lst ys)) s4 → Fin ys H4 → RR (.ref D) C (.ok .next) s4) :
  wpAny (model X.prog X.w) X.A (newList []) (fun acc s3 => wpAny (model X.prog X.w) X.A (newFunctionEnv scope X.env.globals (zrJ X.env scope.names) [] X.env.qual none .none (some X.env)) (fun cenv s4 =>
   codeAny (model X.prog X.w) X.A (.compStart (.ListComp elt [⟨tg, iter, ifs, 0⟩] scope pos) 0 (.ref it) acc { cenv with scope := relabel scope X.env }) (RR acc cenv.locals) s4) E s3) E s2 := by
 refine wpAny_newObj_type (wpAny_newFunctionEnv lc.cells (by intro y hy; simp at hy) (fun h1 hns1 hsb1 => ?_) lc.kind)
 dsimp only at hns1 hsb1 ⊢
 generalize hG : s2.heap.push { cls := .type "list", dict := none, data := .seq ([] : List Value).toArray } = G at hns1 hsb1 ⊢
 have hC : G.objs.size = s2.heap.objs.size + 1 := by rw [← hG, Heap.size_push]
 have hCle : s2.heap.objs.size ≤ G.objs.size := by omega
 have hDC : s2.heap.objs.size ≠ G.objs.size := by omega
 have hfl : ∀ b ∈ fp, b < s2.heap.objs.size := fun b hb => by obtain ⟨o, e, _⟩ := T.obj 0 _ st2 b hb; exact Heap.lt_size e
 have old : ∀ b o, s2.heap.get? b = some o → h1.get? b = some o := fun b o e => by
  have lt := Heap.lt_size e
  refine hsb1.extBut b o (Nat.ne_of_lt (Nat.lt_of_lt_of_le lt hCle)) (Heap.get?_push_of_some _ ?_)
  rw [← hG]; exact Heap.get?_push_of_some _ e
 have hacc : h1.get? s2.heap.objs.size = some (LCg.lst []) := by
  refine hsb1.extBut _ _ hDC (Heap.get?_push_of_some _ ?_)
  rw [← hG]; exact Heap.get?_push_size _ rfl
 have dl : ∀ (us : List Value) v, (LCg.lst us).data ≠ .cell v := fun us v z => by
  have z' : Data.seq us.toArray us.length = Data.cell v := z
  cases z'
 have I3 := zoi (h1 := h1) (tk := s2.toks + ([] : List (Str × Value)).length) I2 lc f2 hfl hCle (Nat.le_refl _) hDC old hns1 hacc (dl [])
 have fpY : ∀ {us : List Value} {H' : Hp}, (∀ b ∈ fp, H' b = none) → ∀ b ∈ fp, zlF (zd1 X scope NY s2 H2 G.objs.size fp) [(s2.heap.objs.size, LCg.lst us)] H' b := fun {us H'} hn b hb => by
  have lt := hfl b hb
  have okY := I3.ok
  refine ⟨hn b hb, (okY.exf b hb).1, okY.exfs b hb, .inl hb, (okY.exf b hb).2, fun p hp => ?_⟩
  have e : p = (s2.heap.objs.size, LCg.lst us) := by simpa [zd1] using hp
  subst e
  exact Nat.ne_of_gt lt
 obtain ⟨hg, ht, he⟩ := hb s2 H2 G.objs.size fp lc.nd
 have loop : ∀ s3 : Shared, s3 = { s2 with heap := h1, toks := s2.toks + ([] : List (Str × Value)).length } →
   codeAny (model X.prog X.w) X.A (.compLoop (.ListComp elt [⟨tg, iter, ifs, 0⟩] scope pos) 0 (.ref it) (.ref s2.heap.objs.size) (compEnvC scope (zrJ X.env scope.names) G.objs.size X.env)) (RR (.ref s2.heap.objs.size) G.objs.size) s3 := by
  rintro s3 rfl
  refine zij (fun n s' => ∃ i H' ys us, Inv (zd1 X scope NY s2 H2 G.objs.size fp) [(s2.heap.objs.size, LCg.lst us)] (List.replicate k none ++ σ) H' s' ∧ zbt ys us ∧ tn i s'.heap ∧ (∀ b ∈ fp, H' b = none) ∧ W i n ys H') ?_ m0
   ⟨0, H2, [], [], I3, .nil, T.keep _ _ _ st2 fun b _ o e => old b o e, fun b hb => (f2 b hb).1, w0⟩
  rintro n s3 ⟨i, H3, ys, us, I3, rv, st3, fr3, w3⟩ E'
  obtain ⟨hsz, hturn⟩ := turn i n ys H3 w3
  rcases hturn with ⟨stop, qn⟩ | ⟨go, N, hN, step⟩
  ·refine thn (T.done (zd1 X scope NY s2 H2 G.objs.size fp) rfl rfl rfl hc i _ s3 _ H3 E' I3 (fpY fr3) st3 stop) fun r s4 ⟨hr, I4⟩ => ?_
   subst hr
   obtain ⟨m4, hn4, _⟩ := I4.loc
   exact fin _ _ H3 s4 ys m4 hCle (I4.pin (s2.heap.objs.size, LCg.lst us) (by simp)).2.1 I4.free hDC hn4 (zsu I2 f2 hCle (Nat.le_refl _) I4 rv (Nat.le_of_lt hsz)) qn
  ·refine thn (T.item (zd1 X scope NY s2 H2 G.objs.size fp) rfl rfl rfl hc i _ s3 _ H3 E' I3 (fpY fr3) st3 go) fun r s4 ⟨u, hr, h4⟩ => ?_
   subst hr
   refine thn h4 fun _ s5 ⟨x, H5, I5, r5, y5, st5, fr5⟩ => ?_
   have I5' := I5.pinned (fpY fr5) (T.obj _ _ st5)
   refine zt8 (hg _ s5 _ H5 x u _ I5' r5 (step x H5 y5)) fun _ s6 ⟨σ6, H6, I6, sub6, q6⟩ => ?_
   have keep : ∀ {σ7 : St} {H7 : Hp} {s7 : Shared}, Inv (zd1 X scope NY s2 H2 G.objs.size fp) ([(s2.heap.objs.size, LCg.lst us)] ++ zh5 fp s5.heap) σ7 H7 s7 → tn (i + 1) s7.heap ∧ (∀ b ∈ fp, H7 b = none) := fun {σ7 H7 s7} I7 => by
    refine ⟨T.keep _ _ _ st5 fun b hb o e => (I7.pin (b, o) (List.mem_append_right _ (List.mem_append_right _ (zdS hb e)))).1, fun b hb => ?_⟩
    obtain ⟨o, e, d⟩ := T.obj _ _ st5 b hb
    exact (I7.pin (b, o) (List.mem_append_right _ (List.mem_append_right _ (zdS hb e)))).2.1
   refine zt8 (ht _ s6 σ6 H6 _ I6 q6) fun ok s7 ⟨H7, I7, q7⟩ => ?_
   cases ok with
   | false =>
    rw [if_neg Bool.false_ne_true] at q7 ⊢
    obtain ⟨m', hm, w7⟩ := hN _ _ q7
    obtain ⟨k1, k2⟩ := keep I7
    exact ⟨m', hm, i + 1, H7, ys, us, (I7.weak (by rw [I7.len, I5.len]) sub6.2).unpinned, rv, k1, k2, w7⟩
   | true =>
    rw [if_pos rfl] at q7 ⊢
    refine zt8 (he _ s7 σ6 H7 _ I7 q7) fun y s8 ⟨v, H8, I8, r8, q8⟩ => ?_
    obtain ⟨m', hm, w8⟩ := hN _ _ q8
    obtain ⟨k1, k2⟩ := keep I8
    obtain ⟨pD, nD, neD, nfD, dD⟩ := I8.pin (s2.heap.objs.size, LCg.lst us) (by simp)
    have hul : us.toArray.size ≤ sizeLine := by rw [List.size_toArray, ← rv.length]; exact Nat.le_of_lt hsz
    refine append_at pD (fun h9 sb9 hD9 => ?_) hul
    have I8' : Inv (zd1 X scope NY s2 H2 G.objs.size fp) [] (List.replicate k none ++ σ) H8 s8 := (I8.weak (by rw [I8.len, I5.len]) sub6.2).pins_of fun p hp => absurd hp (by simp)
    have hDfp : s2.heap.objs.size ∉ fp := fun z => Nat.lt_irrefl _ (hfl _ z)
    have I9 : Inv (zd1 X scope NY s2 H2 G.objs.size fp) [] (List.replicate k none ++ σ) H8 { s8 with heap := h9 } :=
     I8'.turned (t' := s8.toks) (it := s2.heap.objs.size) (fun b o hb e => (sb9.2 b hb).trans e) nD neD (.inr (Nat.le_refl _)) (fun x c e z => by
      obtain ⟨v', o', e1, e2⟩ := I8.cell x c e
      rw [z, pD] at e1
      have e1' : LCg.lst us = o' := Option.some.inj e1
      rw [← e1'] at e2
      exact dl us v' e2) (fun p hp => absurd hp (by simp [zd1]))
    refine ⟨m', hm, i + 1, H8, ys ++ [v], us ++ [y], I9.pins_of fun p hp => ?_, rv.append (.cons r8 .nil), T.keep _ _ _ k1 fun b hb o e => (sb9.2 b fun z => hDfp (z ▸ hb)).trans e, k2, w8⟩
    have e : p = (s2.heap.objs.size, LCg.lst (us ++ [y])) := by simpa using hp
    subst e
    exact ⟨hD9.trans (congrArg some (LCg.lst_snoc us y)), nD, neD, nfD, dl _⟩
 exact codeAny_compStart_list (loop _ rfl) (T.self _ 0 _ _ _ (T.keep _ _ _ st2 fun b _ o e => old b o e) (loop _ rfl))
section
variable {X : Cx} {tg elt iter : Expr} {ifs : List Expr} {scope : Scope} {pos : Pos} {NY : List Str} {k : Nat} {wi : TI} {g : TG} {tc : TT} {te : TE}
theorem zua (hc : X.calm = true) (lc : LC X k scope NY) (hi : PI X tg iter wi)
  (hb : ∀ (s₀ : Shared) (H₀ : Hp) (C : Addr) (ex : List Addr), NY.Nodup → PG (zd1 X scope NY s₀ H₀ C ex) tg g ∧ PTs (zd1 X scope NY s₀ H₀ C ex) ifs tc ∧ PE (zd1 X scope NY s₀ H₀ C ex) elt te)
  (hs : ∀ x, foldedSetIterable iter X.env x = pure x := by intro _; rfl) : PE X (.ListComp elt [⟨tg, iter, ifs, 0⟩] scope pos) (tLC k wi g tc te) := by
 intro pins s σ H Q I h
 rw [eval_ListComp]
 refine wpAny_comprehension_free (use := none) rfl hs (zl4 fun x hx e => I.ok.has x.1 (lc.free x hx e)) lc.kind lc.names (thn (hi pins s σ H _ I h) fun v s1 h1 => thn h1 fun itv s2 h2 => ?_)
 obtain ⟨it, fp, tn, J, H2, e, I2, T, st2, f2, W, ⟨m0, w0⟩, turn⟩ := h2
 subst e
 refine zpi (RR := fun acc C => compPost (model X.prog X.w) X.A X.xe none (EP X pins σ Q) acc C) hc lc hb I2 T st2 f2 w0 turn fun C D H4 s4 ys m hC nD nC hDC hn I4 q => ?_
 refine ⟨m, hn, fun h' sb => ?_⟩
 have hCn : upd H4 D (.lst ys) C = none := by rw [zax (Ne.symm hDC)]; exact nC
 obtain ⟨f0, f1, f2', f3, f4, f5⟩ := I2.fpOk (H' := upd H4 D (.lst ys)) hC hCn
 exact ⟨.ref D, _, I4.turned (t' := s4.toks) (fun b o hb e => (sb.2 b hb).trans e) f0 f1 f3 f4 f5, rfl, q D nD⟩
theorem zub {i : Nat} {y : Str} {py spos : Pos} (hc : X.calm = true) (hN : X.N.Nodup) (hi' : X.N[i]? = some y) (hy : X.env.kindOf y = some .local) (lc : LC X k scope NY) (hi : PI X tg iter wi)
  (hb : ∀ (s₀ : Shared) (H₀ : Hp) (C : Addr) (ex : List Addr), NY.Nodup → PG (zd1 X scope NY s₀ H₀ C ex) tg g ∧ PTs (zd1 X scope NY s₀ H₀ C ex) ifs tc ∧ PE (zd1 X scope NY s₀ H₀ C ex) elt te)
  (hsw : swapsWith (.ListComp elt [⟨tg, iter, ifs, 0⟩] scope pos) (some (.Name y py)) spos.line X.env = pure true := by rfl)
  (hs : ∀ x, foldedSetIterable iter X.env x = pure x := by intro _; rfl) : PS X (.Assign [.Name y py] (.ListComp elt [⟨tg, iter, ifs, 0⟩] scope pos) spos) (zrH (tLC k wi g tc te) (zjg i)) := by
 intro pins s σ H D0 I h
 rw [exec_Assign_Name_used _ _ _ _ hsw]
 refine wpAny_bind (wpAny_standAt (wpAny_bind ?_))
 show wpAny _ X.A (do let _ ← comprehension (.ListComp elt [⟨tg, iter, ifs, 0⟩] scope pos) scope X.env _ (newList []) false (eval iter X.env) (some (assign (.Name y py) X.env))) _ _ s
 refine wpAny_bind (thn (wpAny_comprehension_free (use := some (assign (.Name y py) X.env)) (Q := fun _ s' => SP X pins D0 .next s') rfl hs (zl4 fun x hx e => I.ok.has x.1 (lc.free x hx e)) lc.kind lc.names
  (thn (hi pins s σ H _ I h) fun v s1 h1 => thn h1 fun itv s2 h2 => ?_)) fun _ s' q => wpAny_pure (wpAny_pure q))
 obtain ⟨it, fp, tn, J, H2, e, I2, T, st2, f2, W, ⟨m0, w0⟩, turn⟩ := h2
 subst e
 refine zpi (RR := fun acc C => compPost (model X.prog X.w) X.A X.xe (some (assign (.Name y py) X.env)) (fun _ s' => SP X pins D0 .next s') acc C) hc lc hb I2 T st2 f2 w0 turn fun C D H4 s4 ys m hC nD nC hDC hn I4 q => ?_
 have hCn : upd H4 D (.lst ys) C = none := by rw [zax (Ne.symm hDC)]; exact nC
 obtain ⟨f0, f1, f2', f3, f4, f5⟩ := I2.fpOk (H' := upd H4 D (.lst ys)) hC hCn
 obtain ⟨oC, es, ep, eC, dC, rC⟩ := id hn
 have I5 : Inv X (pins ++ [(C, oC)]) σ (upd H4 D (.lst ys)) s4 := I4.pins_of fun p hp => by
  rcases List.mem_append.mp hp with z | z
  ·exact I4.pin p (List.mem_append_right _ z)
  ·have e : p = (C, oC) := by simpa using z
   subst e
   exact ⟨eC, hCn, f1, f2', fun v z => by rw [show (C, oC).2.data = oC.data from rfl, dC] at z; cases z⟩
 show wpAny _ X.A (assign (.Name y py) X.env (.ref D)) _ _ _
 refine wpAny_assign_Name (zfv (v := .ref D) I5 hN hi' (.inl hy) rfl (fun s5 I6 => ?_) (.inr hy))
 refine ⟨m, ⟨oC, es, ep, (I6.pin (C, oC) (by simp)).1, dC, rC⟩, fun h' sb => ?_⟩
 exact ⟨_, _, I6.unpinned.turned (t' := s5.toks) (fun b o hb e => (sb.2 b hb).trans e) f0 f1 f3 f4 f5, q D nD⟩
end
end L2
end
section
set_option Elab.async false
set_option linter.all false
set_option maxRecDepth 100000
namespace L2
open PySem PySem.Spec PyProof.Rows
theorem zld {n k : Nat} (hk : 0 < k) (h : n < 2 ^ k) : n.log2 < k := by
 rcases Nat.eq_zero_or_pos n with h0 | hp
 ·rw [h0]; simpa using hk
 ·exact (Nat.log2_lt (Nat.ne_of_gt hp)).mpr h
section
variable {X : Cx}
theorem zoj : OpR X (compareOp .Is) (fun x y H Q => ∃ a b, x = .bl a ∧ y = .bl b ∧ Q (.bl (a == b)) H) := by
 intro pins s σ H x y v u Q I rx ry h
 obtain ⟨a, b, rfl, rfl, q⟩ := h
 cases rx
 cases ry
 exact is_bool (zh6 I q rfl)
theorem zjj : OpR X (compareOp .IsNot) (fun x y H Q => ∃ a b, x = .bl a ∧ y = .bl b ∧ Q (.bl (a != b)) H) := by
 intro pins s σ H x y v u Q I rx ry h
 obtain ⟨a, b, rfl, rfl, q⟩ := h
 cases rx
 cases ry
 exact isnot_bool (zh6 I q rfl)
def gLst (K : PySem.W.Frag) (n : Nat) (t : TGs) : TG := fun v σ H Q => ∃ a xs, v = .ref a ∧ SqL K H a xs ∧ xs.length = n ∧ t xs σ H Q
theorem zsv {es : List Expr} {k : Nat} {t : TGs} {n : Nat} {pos : Pos} (hc : X.calm = true) (h : PGs X es t)
  (hn : (assignEach es X.env).length = n := by rfl) (hst : (assignEach es X.env).findIdx? (·.1) = none := by rfl) : PG X (.Tuple es k pos) (gLst X.K n t) := by
 intro pins s σ H v u Q I r hw
 obtain ⟨a, xs, e1, hq, hl, hw⟩ := hw
 subst e1
 cases r
 obtain ⟨its, rv, pl, hz⟩ := I.list hq
 have hsz : (assignEach es X.env).length = its.toArray.size := by simp [hn, ← hl, rv.length]
 rw [assign_Tuple]
 refine wpAny_bind (wpAny_standAt ?_)
 unfold unpack
 rw [hsz, hst]
 refine wpAny_bind (wpAny_holding (PySem.W.kun_itemsOf (I.ok.hd hc) pl.isList fun h' hx => ?_))
 have I1 : Inv X pins σ H { s with heap := h' } := I.kept (t' := s.toks) fun b o e => hx b o (Nat.ne_of_lt (Heap.lt_size e)) e
 exact h pins _ σ H xs _ Q I1 (by simpa using rv) hw
end
end L2
end
section
set_option linter.all false
namespace Mth
theorem gcd_step (m n : Nat) : Nat.gcd n (m % n) = Nat.gcd m n := by
 rw [Nat.gcd_comm n (m % n), ← Nat.gcd_rec n m, Nat.gcd_comm]
structure zht (s x y z x' y' z' : Int) : Prop where
 ne : s ≠ 0
 x : x = s * x'
 y : y = s * y'
 z : z = s * z'
theorem zjk {s x x' : Int} (h : s ≠ 0) (e : x = s * x') : x.fdiv s = x' := by
 rw [e]; exact Int.mul_fdiv_cancel_left x' h
theorem zfI {s x x' : Int} (h : s ≠ 0) (e : x = s * x') : x'.natAbs ≤ x.natAbs := by
 rw [e, Int.natAbs_mul]
 exact Nat.le_mul_of_pos_left _ (by omega)
theorem zle (x y z : Int) (h : ¬ (x = 0 ∧ y = 0 ∧ z = 0)) : ∃ x' y' z', zht ((Nat.gcd (Nat.gcd x.natAbs y.natAbs) z.natAbs : Nat) : Int) x y z x' y' z' := by
 have d1 : (Nat.gcd (Nat.gcd x.natAbs y.natAbs) z.natAbs) ∣ x.natAbs := Nat.dvd_trans (Nat.gcd_dvd_left _ _) (Nat.gcd_dvd_left _ _)
 have d2 : (Nat.gcd (Nat.gcd x.natAbs y.natAbs) z.natAbs) ∣ y.natAbs := Nat.dvd_trans (Nat.gcd_dvd_left _ _) (Nat.gcd_dvd_right _ _)
 have d3 : (Nat.gcd (Nat.gcd x.natAbs y.natAbs) z.natAbs) ∣ z.natAbs := Nat.gcd_dvd_right _ _
 have n0 : Nat.gcd (Nat.gcd x.natAbs y.natAbs) z.natAbs ≠ 0 := by
  intro e
  rw [e] at d1 d2 d3
  exact h ⟨by have := Nat.eq_zero_of_zero_dvd d1; omega, by have := Nat.eq_zero_of_zero_dvd d2; omega, by have := Nat.eq_zero_of_zero_dvd d3; omega⟩
 have c1 : ((Nat.gcd (Nat.gcd x.natAbs y.natAbs) z.natAbs : Nat) : Int) ∣ x := Int.natAbs_dvd_natAbs.mp (by rw [Int.natAbs_natCast]; exact d1)
 have c2 : ((Nat.gcd (Nat.gcd x.natAbs y.natAbs) z.natAbs : Nat) : Int) ∣ y := Int.natAbs_dvd_natAbs.mp (by rw [Int.natAbs_natCast]; exact d2)
 have c3 : ((Nat.gcd (Nat.gcd x.natAbs y.natAbs) z.natAbs : Nat) : Int) ∣ z := Int.natAbs_dvd_natAbs.mp (by rw [Int.natAbs_natCast]; exact d3)
 obtain ⟨x', e1⟩ := c1
 obtain ⟨y', e2⟩ := c2
 obtain ⟨z', e3⟩ := c3
 exact ⟨x', y', z', by omega, e1, e2, e3⟩
theorem zht.neg {s x y z x' y' z' : Int} (p : zht s x y z x' y' z') : zht (0 - s) x y z (-x') (-y') (-z') := by
 refine ⟨by have := p.ne; omega, ?_, ?_, ?_⟩
 ·rw [p.x, Int.zero_sub, Int.neg_mul_neg]
 ·rw [p.y, Int.zero_sub, Int.neg_mul_neg]
 ·rw [p.z, Int.zero_sub, Int.neg_mul_neg]
theorem zik {a b B : Nat} (ha : a ≤ B) (hb : b ≤ B) : Nat.gcd a b ≤ B := by
 rcases Nat.eq_zero_or_pos a with h | h
 ·rw [h, Nat.gcd_zero_left]; exact hb
 ·exact Nat.le_trans (Nat.gcd_le_left b h) ha
end Mth
end
section
set_option Elab.async false
set_option linter.all false
set_option maxRecDepth 100000
namespace L2
open PySem PySem.Spec PyProof.Rows
theorem zok {H : Hp} {p : Addr} (h : H p = none) (o : HO) : zaK H (upd H p o) := fun b u q => by rw [zax (zan q h)]; exact q
theorem zaK.tup {K : PySem.W.Frag} {H H' : Hp} {a : Addr} {xs : List V} (e : zaK H H') (h : SqT K H a xs) : SqT K H' a xs := by
 rcases h with (h | ⟨o, h⟩) | h
 ·exact .inl (.inl (e _ _ h))
 ·exact .inl (.inr ⟨o, e _ _ h⟩)
 ·exact .inr h
theorem zuc {n : Nat} (h : n ≤ 1000) : n ≤ sizeLine := Nat.le_of_lt (zl3 h)
section
variable {K : PySem.W.Frag} {a : Addr} {xs : List V} {H : Hp}
theorem lgo (h : SqL K H a xs) : (Itl K a).stop xs.length H ∧ ∀ i, i < xs.length → (Itl K a).go i H ∧ ∀ v H', (Itl K a).yld i H v H' → H' = H ∧ xs[i]? = some v :=
 ⟨⟨xs, h, Nat.le_refl _⟩, fun i hi => ⟨⟨xs, xs[i], h, by simp [hi]⟩, fun v H' y => ⟨y.1, y.2 xs h⟩⟩⟩
theorem tgo (h : SqT K H a xs) : (Itt K a).stop xs.length H ∧ ∀ i, i < xs.length → (Itt K a).go i H ∧ ∀ v H', (Itt K a).yld i H v H' → H' = H ∧ xs[i]? = some v :=
 ⟨⟨xs, h, Nat.le_refl _⟩, fun i hi => ⟨⟨xs, xs[i], h, by simp [hi]⟩, fun v H' y => ⟨y.1, y.2 xs h⟩⟩⟩
end
end L2
end
section
set_option Elab.async false
set_option linter.all false
set_option maxRecDepth 100000
namespace L2
open PySem PySem.Spec PyProof.Rows
structure Fly (B : Heap) (l : List Env) (x : Addr) (cls : Value) (dct : Option Addr) (fl : Value) (h : Heap) : Prop where
 stays : B.StaysIn h
 new : B.get? x = none
 frames : h.FunFrames B l
 obj : ∃ ox vs T oT ts, h.get? x = some ox ∧ ox.cls = cls ∧ ox.dict = dct ∧ ox.data = .fields vs ∧ vs[1]? = some (.ref T) ∧ B.get? T = none ∧ T ≠ x ∧ h.get? T = some oT ∧ oT.data = .fields ts ∧ ts[3]? = some fl
theorem zl5 (o : Obj) (f : Array Value → Array Value) : (o.mapFields f).dict = o.dict := by
 obtain ⟨c, d, dt, sl⟩ := o; cases dt <;> rfl
section
variable {M : Model} {A : Around} {E : Value → Shared → Prop} {s : Shared} {B : Heap} {env : Env} {outer : List Env} {L x : Addr} {Q : Unit → Shared → Prop}
theorem zcs {h : Heap} {y : Addr} {oy : Obj} {ws : Array Value} (ey : h.get? y = some oy) (dy : oy.data = .fields ws) {b : Addr} {o : Obj} (eb : h.get? b = some o) (nf : ∀ us, o.data ≠ .fields us) : b ≠ y := fun z => by
 rw [z, ey] at eb
 have z' : oy = o := Option.some.inj eb
 rw [← z'] at nf
 exact nf ws dy
theorem zil {ox : Obj} {vs : Array Value} {head : Value} {hadNext : Bool} (hfr : A.frames = some (env :: outer)) (hl : s.heap.FunFrames B (env :: outer)) (hf : env.frame = some L)
  (ex : s.heap.get? x = some ox) (hB : B.StaysIn s.heap) (nx : B.get? x = none) (dx : ox.data = .fields vs) (sz : 1 < vs.size)
  (k : ∀ h', Fly B (env :: outer) x ox.cls ox.dict (rawInt L) h' → s.heap.UpToSlots h' → Q () { s with heap := h' }) :
  wpAny M A (do let a ← frameOf env; let pl ← entryPlaceOf L hadNext; let b ← EntryCells.newEntry head a .none (rawInt L) .none pl; setField (.ref x) 1 b) Q E s := by
 have nfr : x ∉ (env :: outer).filterMap (·.frame) := fun hm => by
  obtain ⟨_, o, ho, nf⟩ := hl.mem hm
  exact zcs ex dx ho nf rfl
 refine wpAny_bind (wpAny_frameOf_fun hfr hl hf fun g1 so => wpAny_bind (wpAny_entryPlaceOf fun pl hpl => ?_))
 unfold EntryCells.newEntry newFields
 refine wpAny_bind (wpAny_newObj_type ?_ (hpl.sizeOk5 _ _ _ _ _))
 have ex1 : g1.get? x = some ox := (so.2.1 x nfr).trans ex
 have B1 : B.StaysIn g1 := fun b o eb => (so.2.1 b fun hm => by rw [(hl.mem hm).1] at eb; cases eb).trans (hB b o eb)
 generalize eo : ({ cls := .type "traceback", dict := none, data := .fields ([head, .ref L, .none, rawInt L, .none] ++ (if pl.isEmpty then List.replicate 6 Value.none else pl)).toArray } : Obj) = ob
 have ex2 := Heap.get?_push_of_some (h := g1) ob ex1
 refine wpAny_setField ex2 dx sz (k _ ?_ ?_)
 ·have Tx : g1.objs.size ≠ x := Nat.ne_of_gt (Heap.lt_size ex1)
  have d3 := Obj.data_mapFields dx (·.setIfInBounds 1 (Value.ref g1.objs.size))
  have e3 := Heap.get?_update_self (Obj.mapFields (·.setIfInBounds 1 (Value.ref g1.objs.size))) ex2 (Obj.isFreed_of_fields d3)
  have freeOb : ob.isFreed = false := by rw [← eo]; rfl
  have T3 := (Heap.get?_update_other (g1.push ob) (Obj.mapFields (·.setIfInBounds 1 (Value.ref g1.objs.size))) (Ne.symm Tx)).trans (Heap.get?_push_size g1 freeOb)
  refine ⟨fun b o eb => ?_, nx, hl.of_keeps fun b o eb nf => ?_, _, _, g1.objs.size, ob, _, e3, Obj.cls_mapFields _ _, zl5 _ _, d3, by simp [sz], B1.fresh, Tx, T3, by rw [← eo], ?_⟩
  ·rw [Heap.get?_update_other _ _ (fun z => by rw [← z, nx] at eb; cases eb)]
   exact Heap.get?_push_of_some _ (B1 b o eb)
  ·obtain ⟨sl, q⟩ := so.2.2 b o eb
   refine ⟨{ o with slots := sl }, ?_, rfl⟩
   rw [Heap.get?_update_other _ _ (Ne.symm (zcs ex dx eb nf))]
   exact Heap.get?_push_of_some _ q
  ·rcases hpl with rfl | ⟨_, _, _, _, _, _, _, rfl⟩ <;> simp
 ·intro b o eb nf
  obtain ⟨sl, q⟩ := so.2.2 b o eb
  refine ⟨sl, ?_⟩
  rw [Heap.get?_update_other _ _ (Ne.symm (zcs ex dx eb nf))]
  exact Heap.get?_push_of_some _ q
theorem zl6 {ox : Obj} {vs : Array Value} (hfr : A.frames = some (env :: outer)) (hl : s.heap.FunFrames B (env :: outer)) (hf : env.frame = some L)
  (ex : s.heap.get? x = some ox) (hB : B.StaysIn s.heap) (nx : B.get? x = none) (dx : ox.data = .fields vs) (v1 : vs[1]? = some .none)
  (k : ∀ h', Fly B (env :: outer) x ox.cls ox.dict (rawInt L) h' → s.heap.UpToSlots h' → Q () { s with heap := h' }) : wpAny M A (noteFrame (.ref x) env) Q E s := by
 unfold noteFrame
 simp only [hf]
 refine wpAny_bind (wpAny_field ex dx v1 ?_)
 rw [if_neg (show ¬ ((Value.none != Value.none) = true) by decide)]
 exact zil hfr hl hf ex hB nx dx (Array.getElem?_eq_some_iff.mp v1).1 k
theorem zjM {cls : Value} {dct : Option Addr} (hfr : A.frames = some (env :: outer)) (hf : env.frame = some L) (F : Fly B (env :: outer) x cls dct .none s.heap)
  (k : ∀ h', Fly B (env :: outer) x cls dct (rawInt L) h' → s.heap.UpToSlots h' → Q () { s with heap := h' }) : wpAny M A (noteFrame (.ref x) env) Q E s := by
 obtain ⟨ox, vs, T, oT, ts, ex, hc, hd, dx, v1, nT, Tx, eT, dT, t3⟩ := F.obj
 subst hc hd
 unfold noteFrame
 simp only [hf]
 refine wpAny_bind (wpAny_field ex dx v1 ?_)
 rw [if_pos (show (Value.ref T != Value.none) = true by simp)]
 refine wpAny_bind (wpAny_field eT dT t3 ?_)
 rw [if_neg (show ¬ ((Value.none == rawInt L) = true) by simp [rawInt])]
 refine wpAny_bind (wpAny_setField eT dT (Array.getElem?_eq_some_iff.mp t3).1 ?_)
 have oth : ∀ b, b ≠ T → (s.heap.update T (Obj.mapFields (·.setIfInBounds 3 Value.none))).get? b = s.heap.get? b := fun b hb => Heap.get?_update_other _ _ (Ne.symm hb)
 have up : s.heap.UpToSlots (s.heap.update T (Obj.mapFields (·.setIfInBounds 3 Value.none))) := fun b o eb nf => ⟨o.slots, (oth b (zcs eT dT eb nf)).trans eb⟩
 refine zil hfr (F.frames.of_keeps fun b o eb nf => ⟨o, (oth b (zcs eT dT eb nf)).trans eb, rfl⟩) hf ((oth x (Ne.symm Tx)).trans ex) (fun b o eb => (oth b fun z => by rw [z, nT] at eb; cases eb).trans (F.stays b o eb)) F.new dx
  (Array.getElem?_eq_some_iff.mp v1).1 fun h' f u => k h' f (up.trans u)
theorem zfw {l : List Env} {cls fl : Value} {dct : Option Addr} (F : Fly B l x cls dct fl s.heap)
  (k : ∀ h', Fly B l x cls dct .none h' → s.heap.UpToSlots h' → Q () { s with heap := h' }) : wpAny M A (setFlight (.ref x) none) Q E s := by
 obtain ⟨ox, vs, T, oT, ts, ex, hc, hd, dx, v1, nT, Tx, eT, dT, t3⟩ := F.obj
 have sz : 3 < ts.size := (Array.getElem?_eq_some_iff.mp t3).1
 unfold setFlight
 refine wpAny_bind (wpAny_field ex dx v1 ?_)
 rw [if_pos (show (Value.ref T != Value.none) = true by simp)]
 have oth : ∀ b, b ≠ T → (s.heap.update T (Obj.mapFields (·.setIfInBounds 3 ((none : Option Addr).elim Value.none fun f => rawInt f)))).get? b = s.heap.get? b := fun b hb => Heap.get?_update_other _ _ (Ne.symm hb)
 refine wpAny_setField eT dT sz (k _ ⟨fun b o eb => (oth b fun z => by rw [z, nT] at eb; cases eb).trans (F.stays b o eb), F.new, F.frames.of_keeps fun b o eb nf => ⟨o, (oth b (zcs eT dT eb nf)).trans eb, rfl⟩,
  ox, vs, T, _, _, (oth x (Ne.symm Tx)).trans ex, hc, hd, dx, v1, nT, Tx, Heap.get?_update_self _ eT (Obj.isFreed_of_fields (Obj.data_mapFields dT _)), Obj.data_mapFields dT _, by simp [sz]⟩
  fun b o eb nf => ⟨o.slots, (oth b (zcs eT dT eb nf)).trans eb⟩)
theorem Fly.out {cls : Value} {dct : Option Addr} {fl : Value} {h : Heap} (F : Fly B (env :: outer) x cls dct fl h) : Fly B outer x cls dct fl h := ⟨F.stays, F.new, F.frames.2.2, F.obj⟩
end
end L2
end
section
set_option Elab.async false
set_option linter.all false
set_option maxRecDepth 100000
namespace L2
open PySem PySem.Spec PyProof.Rows
theorem zc6.there {P : Program} {w : World} {H : Hp} {h : Heap} {a : Addr} {o : HO} (x : zc6 P w H h a o) : ∃ ob, h.get? a = some ob := by
 cases o with
 | lst xs => obtain ⟨_, _, _, _, e⟩ := x; exact ⟨_, e⟩
 | tup xs => obtain ⟨_, _, _, ob, e, _⟩ := x; exact ⟨ob, e⟩
 | dK kvs => obtain ⟨_, _, _, _, o, _, _, e, _⟩ := x; exact ⟨o, e⟩
 | dT kvs => obtain ⟨_, _, _, _, o, _, _, e, _⟩ := x; exact ⟨o, e⟩
 | set S n => obtain ⟨o, _, _, _, e, _⟩ := x; exact ⟨o, e⟩
 | ins C dx fs => obtain ⟨_, _, _, e, _⟩ := x; exact ⟨_, e⟩
 | own y => exact x
 | xd fs => obtain ⟨_, ⟨o, _, _, e, _⟩, _⟩ := x; exact ⟨o, e⟩
 | rng lo hi => obtain ⟨_, _, _, e⟩ := x; exact ⟨_, e⟩
 | frz ob u => obtain ⟨e, _⟩ := x; exact ⟨_, e⟩
 | tbl ps => exact ⟨_, (show h.get? a = some _ from x)⟩
 | met f y => exact ⟨_, (show h.get? a = some _ from x)⟩
 | ext φ => exact x.2.1
structure InB (B : Heap) (fs : List Addr) (h0 : Heap) (H' : Hp) (h' : Heap) : Prop where
 old : ∀ b o, h0.get? b = some o → b ∉ fs → ∀ o', h'.get? b = some o' → B.get? b = some o'
 trk : ∀ b u, H' b = some u → ∀ o', h'.get? b = some o' → B.get? b = some o'
def CXe (P : Program) (w : World) : CXT := fun outer H s E e s' => ∃ (x C : Addr) (dct : Option Addr) (H' : Hp) (B : Heap), e = .ref x ∧ s'.os = s.os ∧ AllBare s'.gens ∧ Un (frs outer) [] H H' s.heap s'.heap ∧ HOk P w H' s'.heap ∧
 Fly B outer x (.ref C) dct .none s'.heap ∧ InB B (frs outer) s.heap H' s'.heap ∧ H' x = none ∧ E (.ref C) dct H'
section
variable {X : Cx} {pins : List (Addr × Obj)} {σ : St} {H H' : Hp} {s s' : Shared} {x C : Addr} {B : Heap} {E : XK} {dct : Option Addr} {M : Model} {EE : Value → Shared → Prop}
theorem zjN {env : Env} {outer : List Env} {L : Addr} (hf : env.frame = some L) : frs (env :: outer) = L :: frs outer := by
 unfold frs; rw [List.filterMap_cons, hf]
theorem zlf {h' : Heap} {args : List Value} {tk : Nat} (I : Inv X pins σ H s) (hst : X.stack = X.env :: X.outer) (hf : X.env.frame = some X.env.locals) (hex : X.ex = []) (m : Heap.MadeExcOf s.heap h' x (.ref C) args) (hE : E (.ref C) none H) :
  wpAny M X.A (leaving X.env (.ref x)) (fun _ s2 => CXe X.prog X.w X.outer X.H₀ X.s₀ E (.ref x) s2) EE { s with heap := h', toks := tk } := by
 have stk := I.stack
 have hfr : X.A.frames = some (X.env :: X.outer) := by rw [← hst]; exact I.ok.frames
 rw [hst] at stk
 have fc : frs (X.env :: X.outer) = X.env.locals :: X.fs := zjN hf
 have hin : ∀ env ∈ (X.env :: X.outer), ∀ b, env.frame = some b → b ∈ frs (X.env :: X.outer) := fun env he b hb => List.mem_filterMap.mpr ⟨env, he, hb⟩
 generalize eB : PySem.W.hideAll s.heap (frs (X.env :: X.outer)) = B
 have inB : ∀ b o, s.heap.get? b = some o → b ∉ frs (X.env :: X.outer) → B.get? b = some o := fun b o e n => by rw [← eB]; exact PySem.W.hideAll_get _ e n
 have ofB : ∀ b o, B.get? b = some o → s.heap.get? b = some o := fun b o e => by rw [← eB] at e; exact PySem.W.of_hideAll _ e
 have fl0 : s.heap.FunFrames B (X.env :: X.outer) := by rw [← eB]; exact PySem.W.funFrames_hide stk hin
 have nx : B.get? x = none := by
  cases q : B.get? x with
  | none => rfl
  | some o => have := ofB x o q; rw [m.new] at this; cases this
 obtain ⟨t, et, _, _⟩ := m.there
 have tfree : ∀ b u, H b = some u → b ∉ frs (X.env :: X.outer) := fun b u e hb => by
  have := I.stkFree b (by rw [hst]; exact hb)
  rw [e] at this; cases this
 have hHx : H x = none := by
  cases q : H x with
  | none => rfl
  | some u =>
   obtain ⟨ob, e⟩ := (I.hok x u q).there
   rw [m.new] at e; cases e
 unfold leaving
 refine wpAny_bind (zl6 (s := { s with heap := h', toks := tk }) hfr (fl0.of_keeps fun b o e _ => ⟨o, m.keeps b o e, rfl⟩) hf et (fun b o e => m.keeps b o (ofB b o e)) nx rfl rfl fun h1 F1 u1 => zfw F1 fun h2 F2 u2 => ?_)
 have up : s.heap.UpToSlots h2 := (Heap.UpToSlots.of_keeps m.keeps).trans (u1.trans u2)
 have keep2 : ∀ b o, s.heap.get? b = some o → b ∉ frs (X.env :: X.outer) → h2.get? b = some o := fun b o e n => F2.stays b o (inB b o e n)
 have below : ∀ b o, X.s₀.heap.get? b = some o → b ∉ X.fs → b ∉ frs (X.env :: X.outer) := fun b o e nb hb => by
  rw [fc] at hb
  rcases List.mem_cons.mp hb with z | z
  ·exact absurd (Nat.lt_of_lt_of_le (Heap.lt_size e) I.ok.above) (by rw [z]; exact Nat.lt_irrefl _)
  ·exact nb z
 have noex : ∀ b, b ∉ X.ex := fun b z => by rw [hex] at z; cases z
 have slot2 : ∀ b o, s.heap.get? b = some o → b ∈ X.fs → ∃ sl, h2.get? b = some { o with slots := sl } := fun b o e hb => by
  obtain ⟨_, o1, e1, nf⟩ := stk.mem (b := b) (by show b ∈ frs (X.env :: X.outer); rw [fc]; exact List.mem_cons_of_mem _ hb)
  rw [e] at e1; cases e1
  exact up b o e nf
 refine ⟨x, C, none, H, B, rfl, I.os, I.bare, ⟨fun b o e n hb _ => keep2 b o (I.base.keep b o e n hb (noex b)) (below b o e hb), fun b o e n hb _ => ?_, fun b o e n _ => I.base.free b o e n (noex b), fun b o e _ => ?_, I.base.tups, I.base.frzs, I.base.tbls⟩,
  fun b u e => (I.hok b u e).stay (fun c v hc q => keep2 c v q ?_) (fun _ q => q) fun _ _ q => q, F2.out, ⟨fun b o e nb o' e' => ?_, fun b u e o' e' => ?_⟩, hHx, hE⟩
 ·obtain ⟨sl, e1⟩ := I.base.slot b o e n hb (noex b)
  obtain ⟨sl2, e2⟩ := slot2 b _ e1 hb
  exact ⟨sl2, e2⟩
 ·obtain ⟨o1, e1⟩ := I.base.there b o e (noex b)
  by_cases hb : b ∈ X.fs
  ·obtain ⟨sl2, e2⟩ := slot2 b _ e1 hb
   exact ⟨_, e2⟩
  ·exact ⟨o1, keep2 b o1 e1 (below b o e hb)⟩
 ·rcases hc with z | z
  ·rw [z]; exact tfree b u e
  ·exact tfree c _ z
 ·obtain ⟨o1, e1⟩ := I.base.there b o e (noex b)
  have q := inB b o1 e1 (below b o e nb)
  rw [F2.stays b o1 q] at e'
  cases e'; exact q
 ·obtain ⟨o1, e1⟩ := (I.hok b u e).there
  have q := inB b o1 e1 (tfree b u e)
  rw [F2.stays b o1 q] at e'
  cases e'; exact q
theorem zol {e : Value} (I : Inv X pins σ H s) (hst : X.stack = X.env :: X.outer) (hf : X.env.frame = some X.env.locals) (hex : X.ex = []) (h : CXe X.prog X.w X.stack H s E e s') :
  wpAny M X.A (leaving X.env e) (fun _ s2 => CXe X.prog X.w X.outer X.H₀ X.s₀ E e s2) EE s' := by
 obtain ⟨x, C, dct, H', B, rfl, ho, hg, un, hok, F, ib, nx, hE⟩ := h
 have stk := I.stack
 have hfr : X.A.frames = some (X.env :: X.outer) := by rw [← hst]; exact I.ok.frames
 rw [hst] at stk F ib un
 have fc : frs (X.env :: X.outer) = X.env.locals :: X.fs := zjN hf
 unfold leaving
 refine wpAny_bind (zjM hfr hf F fun h1 F1 u1 => zfw F1 fun h2 F2 u2 => ?_)
 have up : s'.heap.UpToSlots h2 := u1.trans u2
 have below : ∀ b o, X.s₀.heap.get? b = some o → b ∉ X.fs → b ∉ frs (X.env :: X.outer) := fun b o e nb hb => by
  rw [fc] at hb
  rcases List.mem_cons.mp hb with z | z
  ·exact absurd (Nat.lt_of_lt_of_le (Heap.lt_size e) I.ok.above) (by rw [z]; exact Nat.lt_irrefl _)
  ·exact nb z
 have inFs : ∀ b, b ∈ X.fs → b ∈ frs (X.env :: X.outer) := fun b hb => by rw [fc]; exact List.mem_cons_of_mem _ hb
 have noex : ∀ b, b ∉ X.ex := fun b z => by rw [hex] at z; cases z
 have no0 : ∀ b : Addr, b ∉ ([] : List Addr) := fun b => by simp
 have slot2 : ∀ b o, s.heap.get? b = some o → H b = none → b ∈ X.fs → ∃ sl, h2.get? b = some { o with slots := sl } := fun b o e n hb => by
  obtain ⟨_, o1, e1, nf⟩ := stk.mem (b := b) (inFs b hb)
  rw [e] at e1; cases e1
  obtain ⟨sl, e2⟩ := un.slot b o e n (inFs b hb) (no0 b)
  obtain ⟨sl2, e3⟩ := up b _ e2 nf
  exact ⟨sl2, e3⟩
 have free1 : ∀ b o, X.s₀.heap.get? b = some o → X.H₀ b = none → H b = none := fun b o e n => I.base.free b o e n (noex b)
 refine ⟨x, C, dct, H', B, rfl, ho.trans I.os, hg, ⟨fun b o e n hb _ => ?_, fun b o e n hb _ => ?_, fun b o e n _ => ?_, fun b o e _ => ?_, fun b xs q => un.tups b xs (I.base.tups b xs q), fun b o u q => un.frzs b o u (I.base.frzs b o u q), fun b ps q => ?_⟩,
  fun b u e => (hok b u e).stay (fun c v hc q => F2.stays c v ?_) (fun _ q => q) fun _ _ q => q, F2.out, ⟨fun b o e nb o' e' => ?_, fun b u e o' e' => ?_⟩, nx, hE⟩
 ·have e1 := I.base.keep b o e n hb (noex b)
  have e2 := un.keep b o e1 (free1 b o e n) (below b o e hb) (no0 b)
  exact F2.stays b o (ib.old b o e1 (below b o e hb) o e2)
 ·obtain ⟨sl, e1⟩ := I.base.slot b o e n hb (noex b)
  obtain ⟨sl2, e2⟩ := slot2 b _ e1 (free1 b o e n) hb
  exact ⟨sl2, e2⟩
 ·obtain ⟨o1, e1⟩ := I.base.there b o e (noex b)
  exact un.free b o1 e1 (free1 b o e n) (no0 b)
 ·obtain ⟨o1, e1⟩ := I.base.there b o e (noex b)
  obtain ⟨o2, e2⟩ := un.there b o1 e1 (no0 b)
  by_cases hb : b ∈ X.fs
  ·have n : H b = none := I.stkFree b (by rw [hst]; exact inFs b hb)
   obtain ⟨sl2, e3⟩ := slot2 b _ e1 n hb
   exact ⟨_, e3⟩
  ·exact ⟨o2, F2.stays b o2 (ib.old b o1 e1 (below b o e hb) o2 e2)⟩
 ·obtain ⟨m1, e1⟩ := I.base.tbls b ps q
  obtain ⟨m2, e2⟩ := un.tbls b _ e1
  exact ⟨m1 ++ m2, by rw [e2, Array.append_assoc]⟩
 ·rcases hc with z | z
  ·subst z; exact ib.trk c u e v q
  ·exact ib.trk c _ z v q
 ·obtain ⟨o1, e1⟩ := I.base.there b o e (noex b)
  obtain ⟨o2, e2⟩ := un.there b o1 e1 (no0 b)
  have q := ib.old b o1 e1 (below b o e nb) o2 e2
  rw [F2.stays b o2 q] at e'
  cases e'; exact q
 ·obtain ⟨o1, e1⟩ := (hok b u e).there
  have q := ib.trk b u e o1 e1
  rw [F2.stays b o1 q] at e'
  cases e'; exact q
def zom (x C : Addr) (dct : Option Addr) : HO := .ext fun h => ∃ o, h.get? x = some o ∧ o.cls = .ref C ∧ o.dict = dct ∧ PySem.W.notCls o = true
theorem zgW {h3 : Heap} {tk : Nat} (I : Inv X pins σ H s) (ho : s'.os = s.os) (hg : AllBare s'.gens) (un : Un (frs X.stack) [] H H' s.heap s'.heap) (hok : HOk X.prog X.w H' s'.heap) (F : Fly B X.stack x (.ref C) dct .none h3)
  (ib : InB B (frs X.stack) s.heap H' s'.heap) (up : s'.heap.UpToSlots h3) (nx : H' x = none) : Inv X pins σ (upd H' x (zom x C dct)) { s' with heap := h3, toks := tk } := by
 have stk := I.stack
 have no0 : ∀ b : Addr, b ∉ ([] : List Addr) := fun b => by simp
 have nex : ∀ b o, s.heap.get? b = some o → b ∉ frs X.stack → b ≠ x := fun b o e nb z => by
  obtain ⟨o2, e2⟩ := un.there b o e (no0 b)
  have q := ib.old b o e nb o2 e2
  rw [z, F.new] at q; cases q
 have nfx : ∀ b, b ∈ frs X.stack → b ≠ x := fun b hb z => by
  obtain ⟨_, o1, e1, nf⟩ := F.frames.mem (b := b) hb
  obtain ⟨ox, vs, T, oT, ts, ex, _, _, dx, _⟩ := F.obj
  rw [z, ex] at e1; cases e1
  exact nf vs dx
 have ne : ∀ b o, s.heap.get? b = some o → b ≠ x := fun b o e => by
  by_cases hb : b ∈ frs X.stack
  ·exact nfx b hb
  ·exact nex b o e hb
 have hok3 : HOk X.prog X.w (upd H' x (zom x C dct)) h3 := fun b u e => by
  by_cases hb : b = x
  ·subst hb
   rw [zau] at e; cases e
   obtain ⟨ox, vs, T, oT, ts, ex, hc, hd, dx, _⟩ := F.obj
   have nc : PySem.W.notCls ox = true := by unfold PySem.W.notCls; rw [dx]
   exact ⟨⟨ox, ex, hc, hd, nc⟩, ⟨ox, ex⟩, fun h1 h2 ⟨o, q, r⟩ k => ⟨o, k o q, r⟩⟩
  ·rw [zax hb] at e
   refine (hok b u e).stay (fun c v hc q => F.stays c v ?_) (fun c q => by rw [zax (zan q nx)]; exact q) fun c xs q => by rw [zax (zan q nx)]; exact q
   rcases hc with z | z
   ·subst z; exact ib.trk c u e v q
   ·exact ib.trk c _ z v q
 have U : Un (frs X.stack) [] H (upd H' x (zom x C dct)) s.heap h3 := by
  refine ⟨fun b o e n hb _ => ?_, fun b o e n hb _ => ?_, fun b o e n _ => ?_, fun b o e _ => ?_, fun b xs q => ?_, fun b o u q => ?_, fun b ps q => ?_⟩
  ·exact F.stays b o (ib.old b o e hb o (un.keep b o e n hb (no0 b)))
  ·obtain ⟨sl, e1⟩ := un.slot b o e n hb (no0 b)
   obtain ⟨_, o1, e2, nf⟩ := stk.mem (b := b) hb
   rw [e] at e2; cases e2
   obtain ⟨sl2, e3⟩ := up b _ e1 nf
   exact ⟨sl2, e3⟩
  ·rw [zax (ne b o e)]; exact un.free b o e n (no0 b)
  ·obtain ⟨o2, e2⟩ := un.there b o e (no0 b)
   by_cases hb : b ∈ frs X.stack
   ·have n : H b = none := I.stkFree b hb
    obtain ⟨sl, e1⟩ := un.slot b o e n hb (no0 b)
    obtain ⟨_, o1, e3, nf⟩ := stk.mem (b := b) hb
    rw [e] at e3; cases e3
    obtain ⟨sl2, e4⟩ := up b _ e1 nf
    exact ⟨_, e4⟩
   ·exact ⟨o2, F.stays b o2 (ib.old b o e hb o2 e2)⟩
  ·have z := un.tups b xs q
   rw [zax (zan z nx)]; exact z
  ·have z := un.frzs b o u q
   rw [zax (zan z nx)]; exact z
  ·obtain ⟨more, z⟩ := un.tbls b ps q
   exact ⟨more, by rw [zax (zan z nx)]; exact z⟩
 have J := I.call (g' := s'.gens) (t' := tk) (d' := s'.drawn) (ch := []) U hok3 hg (fun b z => absurd z (no0 b))
 obtain ⟨hh, g, d, t, os⟩ := s'
 have e : os = s.os := ho
 subst e
 exact J
end
end L2
end
section
set_option Elab.async false
set_option linter.all false
set_option maxRecDepth 100000
namespace L2
open PySem PySem.Spec PyProof.Rows PySem.W
section
variable {prog : Program} {w : World} {A : Around} {E : Value → Shared → Prop} {s : Shared} {K : Frag} {x D : Addr} {ox : Obj} {od : Option Obj} {name : Str} {tk : Tok}
theorem zl7 {M : Model} {nameV : Value} {Q : Unit → Shared → Prop} (X : K.In s.heap) (I : InstAt s.heap x ox D od) (hb : mroIn K D (.type "BaseException") = some true) (hq : Q () s) :
  wpAny M A (checkBuiltinCall "BaseException.__getattribute__" ⟨[.ref x, nameV], []⟩) Q E s := by
 have hk : builtinKind "BaseException.__getattribute__" = some .slot := by decide +kernel
 have hsp : splitId "BaseException.__getattribute__" = some ("BaseException", "__getattribute__") := by decide +kernel
 have ha := F.args_bexc_ga (.ref x) nameV
 obtain ⟨hh, g, d, t, os⟩ := s
 have L0 : Looks M hh (isInstance (.ref x) (.type "BaseException")) true := (I.type (M := M)).andThen (looks_mroIn X hb)
 simp only [checkBuiltinCall, hk, hsp]
 refine wpAny_bind (L0.at ?_)
 repeat (any_goals (first | assumption | wp_step))
theorem zsw {R : Result → Shared → Prop} {g a : Value} (X : K.In s.heap) (I : InstAt s.heap x ox D od) (hb : mroIn K D (.type "BaseException") = some true) (hf : findObj K D od name = some (.bind g a))
  (h : wpAny (model prog w) A.in1 (call g [a, .ref x, .ref D]) (fun v s' => R (.ok (.ret v)) s') (fun e s' => R (.error e) s') s) :
  codeAny (model prog w) A (.call (.builtin "BaseException.__getattribute__") ⟨[.ref x, .str name tk], []⟩) R s := by
 refine codeAny_call_builtin F.attr_ValueError.ga.plain F.entry_bexc_ga (zl7 X I hb ?_)
 obtain ⟨hh, gg, d, t, os⟩ := s
 have L0 := I.type (M := model prog w)
 have L1 := looks_find (M := model prog w) X I hf
 unfold Builtin.«object.__getattribute__»
 refine wpAny_bind (wpAny_of_eq (a := (Value.ref x, [Value.str name tk])) rfl ?_)
 refine wpAny_bind (wpAny_of_eq (a := name) rfl ?_)
 refine wpAny_bind (L0.at (wpAny_bind (L1.at ?_)))
 show wpAny _ _ (do ret (← holding [a] (call g [a, Value.ref x, Value.ref D]))) _ _ _
 exact wpAny_bind (wpAny_holding (wpAny_mono h (fun v s' q => wpAny_pure q) fun e s' q => q))
theorem zim {a g : Value} (hc : (clsIn K D).isSome = true) (ha : findIn K (.ref D) name = some (some a)) (hg : specialIn K a "__get__" = some (some g)) (ht : takesIn K a = some true) : findObj K D od name = some (.bind g a) := by
 obtain ⟨cd, hc⟩ := Option.isSome_iff_exists.mp hc
 unfold findObj
 rw [hc, Option.bind_some, ha, Option.bind_some]
 simp [hg, ht]
structure zrK (K : Frag) (D : Addr) : Prop where
 cls : (clsIn K D).isSome = true
 ga : findIn K (.ref D) "__getattribute__" = some (some (.builtin "BaseException.__getattribute__"))
 gh : findIn K (.ref D) "__getattr__" = some none
 base : mroIn K D (.type "BaseException") = some true
 obj : mroIn K D (.type "object") = some true
 ca : findIn K (.ref D) "__class__" = some (some (.builtin "object.__class__"))
 cg : specialIn K (.builtin "object.__class__") "__get__" = some (some (.builtin "getset_descriptor.__get__"))
 ct : takesIn K (.builtin "object.__class__") = some true
theorem zl8 {Q : Option Value → Shared → Prop} (c : zrK K D) (X : K.In s.heap) (I : InstAt s.heap x ox D od) (h : Q (some (.ref D)) { s with toks := s.toks + 1 }) :
  wpAny (model prog w) A (getAttr? (.ref x) "__class__") Q E s := by
 obtain ⟨hh, gg, d, t, os⟩ := s
 have L0 := I.type (M := model prog w)
 have L1 := looks_findIn (M := model prog w) X c.ga
 have L2 := looks_findIn (M := model prog w) X c.gh
 have hf : findObj K D od "__class__" = some (.bind (.builtin "getset_descriptor.__get__") (.builtin "object.__class__")) := zim c.cls c.ca c.cg c.ct
 have hx1 : (onTheHeap (Value.ref D) && Value.builtin "BaseException.__getattribute__" == Value.builtin "object.__getattribute__") = false := by
  rw [show (Value.builtin "BaseException.__getattribute__" == Value.builtin "object.__getattribute__") = false by decide +kernel]; rfl
 unfold getAttr? getAttrBy? getAttrBy
 refine wpAny_bind (wpAny_mkText (wpAny_bind (wpAny_attempt (wpAny_holding (wpAny_bind (L0.at (wpAny_bind (L1.at ?_))))))))
 dsimp only
 rw [hx1, if_neg Bool.false_ne_true]
 unfold getAttrByItsOwn
 refine wpAny_bind ?_
 show wpAny _ _ (typeLookup (.ref D) "__getattr__") _ _ _
 refine L2.at ?_
 refine wpAny_bind (wpAny_attempt (wpAny_holding ?_))
 show wpAny _ _ (boundAndCalled (.builtin "BaseException.__getattribute__") (.ref x) (.str "__class__" t)) _ _ _
 unfold boundAndCalled
 refine wpAny_bind (wpAny_of_eq (F.attr_ValueError.ga.bind (.ref x)) ?_)
 refine wpAny_call (zsw X I c.base hf ?_)
 refine wpAny_call (class_get X I c.obj ?_)
 exact handed_on rfl (wpAny_pure h)
theorem zon (c : zrK K D) : KitX K (.ref x) (.ref D) (fun h => ∃ ox od, InstAt h x ox D od) where
 ty := fun _ _ _ ⟨_, _, I⟩ => I.type
 it := fun _ _ X _ => by
  obtain ⟨cdD, hcD⟩ := Option.isSome_iff_exists.mp c.cls
  unfold clsIn at hcD
  split at hcD
  ·rename_i c' d' cd' sl' ho
   intro A' Q' E' s' k q
   unfold isType loadHead
   exact wpAny_bind (wpAny_loadPart (k _ _ (X _ _ ho)) (wpAny_pure q))
  ·cases hcD
 ne := fun h tp dd its n sl X htp => by
  obtain ⟨cdD, hcD⟩ := Option.isSome_iff_exists.mp c.cls
  refine Bool.eq_false_iff.mpr fun q => ?_
  have e : D = tp := Value.ref.inj (beq_iff_eq.mp q)
  subst e
  unfold clsIn at hcD
  split at hcD
  ·rename_i c' d' cd' sl' ho
   have z := (X _ _ ho).symm.trans htp
   cases z
  ·cases hcD
 ca := fun X ⟨_, _, I⟩ k => zl8 c X I k
end
end L2
end
section
set_option Elab.async false
set_option linter.all false
set_option maxRecDepth 100000
namespace L2
open PySem PySem.Spec PyProof.Rows
section
variable {P : Program} {w : World} {K : PySem.W.Frag} {mg : Str → Option Value} {base : Heap}
theorem Fun.okX {CX : CXT} {x qual : Str} {st : Stmt} {f : Addr} {fd : FuncData} {N ps : List Str} {k : Nat} {sp : Sp} (F : Fun K x qual st f fd) (S : zay N ps (zaf st)) (len : ∀ vs H Q E, sp vs H Q E → vs.length = ps.length)
  (hbody : ∀ (cdv : Value) (A : Around) (outer : List Env) (s : Shared) (H : Hp) (vs : List V) (Q : VK) (E : XK), zfi k (A.deeper (envOfC qual (zaf st) s.heap.objs.size f cdv)) → sp vs H Q E →
   ∃ t, PSs (zh3 CX P w K mg base N qual (zaf st) f cdv A outer s H E) (zar st) t ∧ t { nx := fun _ H' => Q .non H', rt := Q } (start N vs) H) : zgT P w K mg base CX (k + 1) f fd ps sp := by
 obtain ⟨oc, od, kV, doc, pm, an, cdv, ct, osl, rfl, lk, hcd⟩ := F.ex
 exact zt0 lk hcd S len fun A outer s H vs Q E hr hsp => hbody cdv A outer s H vs Q E hr hsp
theorem zsx {N : List Str} {qual : Str} {scope : Scope} {f : Addr} {cdv : Value} {A : Around} {outer : List Env} {s : Shared} {H : Hp} {E : XK} : zh8 (CXe P w) (zh3 (CXe P w) P w K mg base N qual scope f cdv A outer s H E) E :=
 fun pins σ H1 s1 e s' I h => zol (X := zh3 (CXe P w) P w K mg base N qual scope f cdv A outer s H E) I rfl rfl rfl h
theorem zud {X : Cx} : zh8 (CXe P w) X E0 := fun _ _ _ _ _ _ _ h => by
 obtain ⟨_, _, _, _, _, _, _, _, _, _, _, _, _, z⟩ := h
 exact z.elim
end
theorem zqP {K : PySem.W.Frag} {h : Heap} {C : Addr} {bmB : List Value} {newId : String} (X : K.In h) (q : PySem.W.excIn K C bmB newId = true) :
  ∃ bm N nm qn bs hdct sn sub ab col dd k0 k1 k2 k3 k5 mN, h.get? C = some (excClassObj nm qn C N bs bm hdct sn sub ab col dd k0 k1 k2 k3 k5 newId) ∧ h.Ns N mN ∧ mN "__init__" = none ∧ OwnTail h bmB bm := by
 unfold PySem.W.excIn at q
 split at q
 ·rename_i dd cd sl lk
  split at q
  ·rename_i C' bm k0 k1 k2 k3 nn k5 hm hs
   simp only [Bool.and_eq_true, beq_iff_eq, Bool.not_eq_true'] at q
   obtain ⟨⟨⟨⟨⟨rfl, rfl⟩, hdel⟩, ht⟩, hok⟩, hni⟩ := q
   obtain ⟨nm, bs, mro, ns, qn, hd, sn, sub, ab, col, del⟩ := cd
   dsimp only at hm hdel hok hni
   subst hm hdel
   obtain rfl : sl = #[k0, k1, k2, k3, some (.builtin nn), k5] := by
    obtain ⟨l⟩ := sl
    simp only at hs
    rw [hs]
   exact ⟨bm, ns, nm, qn, bs, hd, sn, sub, ab, col, dd, k0, k1, k2, k3, k5, _, X _ _ lk, .of_isNs (PySem.W.isNs_of_in X hok), PySem.W.nsMap_none_of_in X hok hni, PySem.W.tail_of_in X ht⟩
  ·cases q
 ·cases q
def zsy (C : Addr) (ta : TA) (E : XK) : TS := fun _ σ H => ta σ H fun vs H1 => vs.length ≤ sizeLine ∧ E (.ref C) none H1
section
variable {P : Program} {w : World} {K : PySem.W.Frag} {mg : Str → Option Value} {base : Heap} {N : List Str} {qual : Str} {scope : Scope} {f : Addr} {cdv : Value} {A : Around} {outer : List Env} {s0 : Shared} {H0 : Hp} {E : XK}
theorem zoo {x : Str} {C : Addr} {e0 : Expr} {za4 : List Expr} {np cpos pos : Pos} {ta : TA} (q : PySem.W.excIn K C [.type "ValueError", .type "Exception", .type "BaseException", .type "object"] "ValueError.__new__" = true)
  (hg : Gl (zh3 (CXe P w) P w K mg base N qual scope f cdv A outer s0 H0 E) x) (hm : mg x = some (.ref C)) (ha : PA (zh3 (CXe P w) P w K mg base N qual scope f cdv A outer s0 H0 E) (e0 :: za4) ta)
  (hdb : (x == ("__debug__" : Str)) = false := by decide)
  (he : starEach (e0 :: za4) (envOfC qual scope s0.heap.objs.size f cdv) = (false, eval e0 (envOfC qual scope s0.heap.objs.size f cdv)) :: starEach za4 (envOfC qual scope s0.heap.objs.size f cdv) := by rfl)
  (hpl : (backTo cpos (starEach za4 (envOfC qual scope s0.heap.objs.size f cdv))).any (·.1) = false := by rfl) :
  PS (zh3 (CXe P w) P w K mg base N qual scope f cdv A outer s0 H0 E) (.Raise (some (.Call (.Name x np) (e0 :: za4) [] cpos)) none pos) (zsy C ta E) := by
 intro pins s σ H D I h
 obtain ⟨bm, Nn, nm, qn, bs, hdct, sn, sub, ab, col, dd, k0, k1, k2, k3, k5, mN, hC, hN, hni, T⟩ := zqP I.mod.kin q
 refine wpAny_Raise_call_subT (C := C) (nm := nm) (q := qn) (N := Nn) (bs := bs) (bm := bm) (hdct := hdct) (sn := sn) (sub := sub) (ab := ab) (col := col) (dd := dd) (k0 := k0) (k1 := k1) (k2 := k2) (k3 := k3) (k5 := k5)
  PySem.F.excBase_ValueError (mN := mN) (T.hasType PySem.F.excBase_ValueError.hasBase) (I.ok.hd rfl) (by
   show (backTo cpos (starEach (e0 :: za4) (envOfC qual scope s0.heap.objs.size f cdv))).any (·.1) = false
   rw [he]; show (false || (backTo cpos (starEach za4 (envOfC qual scope s0.heap.objs.size f cdv))).any (·.1)) = false; rw [hpl]; rfl) hni (zhp I hg hm ⟨rfl, ?_⟩ hdb)
 have ha' := ha cpos pins s σ H _ I h
 show wpAny _ _ (evalArgs (.ref C) true (backTo cpos (starEach (e0 :: za4) (envOfC qual scope s0.heap.objs.size f cdv))) []) _ _ _
 change wpAny _ _ (spliced (backTo cpos (starEach (e0 :: za4) (envOfC qual scope s0.heap.objs.size f cdv)))) _ _ _ at ha'
 rw [he] at ha' ⊢
 refine Calls.evalArgs_plain (thn ha' fun us s2 ⟨vs, H1, I1, r, hz, hE⟩ => ?_)
 have hl : us.length ≤ sizeLine := by rw [← r.length]; exact hz
 exact ⟨rfl, hl, I1.bk _ _ hC, hN.keeps I1.bk, T.keeps I1.bk, fun h' e m => zlf (tk := s2.toks) I1 rfl rfl rfl m hE⟩
end
end L2
end
section
set_option Elab.async false
set_option linter.all false
set_option maxRecDepth 100000
namespace L2
open PySem PySem.Spec PyProof.Rows
abbrev TEX := St → Hp → VK → XK → Prop
abbrev TSX := zlM → XK → St → Hp → Prop
def XP (X : Cx) (CX : CXT) (pins : List (Addr × Obj)) (σ : St) (E : XK) (e : Value) (s' : Shared) : Prop := ∃ s1 H1, Inv X pins σ H1 s1 ∧ CX X.stack H1 s1 E e s'
def PSX (X : Cx) (CX : CXT) (st : Stmt) (t : TSX) : Prop :=
 ∀ (pins : List (Addr × Obj)) (s : Shared) (σ : St) (H : Hp) (D : zlM) (E : XK), Inv X pins σ H s → t D E σ H → wpAny (model X.prog X.w) X.A (exec st X.env) (SP X pins D) (XP X CX pins σ E) s
def zue (X : Cx) (CX : CXT) (st : List Stmt) (t : TSX) : Prop :=
 ∀ (pins : List (Addr × Obj)) (s : Shared) (σ : St) (H : Hp) (D : zlM) (E : XK), Inv X pins σ H s → t D E σ H → wpAny (model X.prog X.w) X.A (execs st X.env) (SP X pins D) (XP X CX pins σ E) s
section
variable {X : Cx} {CX : CXT} {k : Nat} {f : Addr} {fd : FuncData} {ps : List Str} {sp : Sp} {dvs : List V} {ds : List Value} {x : Str} {p pos : Pos} {e : Expr} {es : List Expr} {t : TA}
def zsz (sp : Sp) (dvs : List V) (t : TA) : TEX := fun σ H Q E => t σ H fun vs H1 => sp (vs ++ dvs) H1 Q E
theorem zop {st : Stmt} {ts : TSX} (h1 : PSX X CX st ts) : zue X CX [st] ts := by
 intro pins s σ H D E I h
 refine wpAny_execs_cons (thn (h1 pins s σ H D E I h) fun fl s1 q => ?_)
 cases fl with
 | next => exact wpAny_execs_nil q
 | ret v => exact q
 | brk => exact q
 | cont => exact q
end
theorem Inv.gone {X : Cx} {pins : List (Addr × Obj)} {σ : St} {H : Hp} {s : Shared} {h' : Heap} {m : Str → Option Value} {n : Str} {v : Option Value} {i : Nat} {tk : Nat} (I : Inv X pins σ H s) (hN : X.N.Nodup) (hi : X.N[i]? = some n)
  (hm : ∀ (j : Nat) (y : Str) (v : V), X.N[j]? = some y → σ[j]? = some (some v) → Vis X.env.scope y → ∃ u, zbz v u ∧ Look X.env s.heap m y u) (hn : h'.Ns X.env.locals (fun y => if y = n then v else m y)) (hs : Heap.SameBut X.env.locals s.heap h') :
  Inv X pins (σ.set i none) H { s with heap := h', toks := tk } := by
 have neL : ∀ b o, X.s₀.heap.get? b = some o → b ≠ X.env.locals := fun b o e => Nat.ne_of_lt (Nat.lt_of_lt_of_le (Heap.lt_size e) I.ok.above)
 have hiσ : i < σ.length := by rw [I.len]; exact (List.getElem?_eq_some_iff.mp hi).1
 refine ⟨I.ok, I.os, I.bare, ⟨fun b o e nn hb hx => (hs.2 b (neL b o e)).trans (I.base.keep b o e nn hb hx), fun b o e nn hb hx => ?_, I.base.free, fun b o e hx => ?_, I.base.tups, I.base.frzs, I.base.tbls⟩, ⟨_, hn, fun j y v' e1 e2 e3 => ?_⟩, fun y c e => ?_, I.free, I.freeC, fun p hp => ?_, fun b ob e => ?_, by simpa using I.len⟩
 ·obtain ⟨sl, e1⟩ := I.base.slot b o e nn hb hx
  exact ⟨sl, (hs.2 b (neL b o e)).trans e1⟩
 ·obtain ⟨o', e1⟩ := I.base.there b o e hx
  exact ⟨o', (hs.2 b (neL b o e)).trans e1⟩
 ·have hj : j ≠ i := fun z => by rw [z, List.getElem?_set_self hiσ] at e2; cases e2
  rw [List.getElem?_set_ne (Ne.symm hj)] at e2
  obtain ⟨u, r, l⟩ := hm j y v' e1 e2 e3
  refine ⟨u, r, ?_⟩
  rcases l with ⟨k, e⟩ | ⟨k, c, e, z⟩
  ·have ny : y ≠ n := fun z => hj (zho hN e1 (z ▸ hi))
   exact .inl ⟨k, by simp [ny, e]⟩
  ·exact .inr ⟨k, c, e, z.sameBut hs (I.cne y c e)⟩
 ·obtain ⟨w', z⟩ := I.cell y c e
  exact ⟨w', z.sameBut hs (I.cne y c e)⟩
 ·obtain ⟨e, nn, ne, nf, d⟩ := I.pin p hp
  exact ⟨(hs.2 p.1 ne).trans e, nn, ne, nf, d⟩
 ·refine (I.hok b ob e).stay (fun c w' hc q => (hs.2 c ?_).trans q) (fun _ q => q) fun _ _ q => q
  rintro rfl
  rcases hc with z | z
  ·rw [← z, I.free] at e; cases e
  ·rw [I.free] at z; cases z
def hdl (X : Cx) (x : Addr) : Cx := { X with A := X.A.mark (some (.ref x)), calm := false, xe := fun _ _ => False }
section
variable {X : Cx} {pins : List (Addr × Obj)} {σ : St} {H : Hp} {s : Shared} {x : Addr}
theorem Inv.hdl (I : Inv X pins σ H s) (x : Addr) : Inv (hdl X x) pins σ H s :=
 ⟨⟨I.ok.mod, I.ok.kind, I.ok.glob, I.ok.blt, I.ok.above, I.ok.inj, I.ok.has, I.ok.cab, fun z => absurd z (by show ¬ (false = true); decide), I.ok.frames, I.ok.stk, I.ok.exf, I.ok.bs, I.ok.bsz, I.ok.noex, I.ok.exfs, I.ok.funs, I.ok.frf⟩, I.os, I.bare, I.base, I.loc, I.cell, I.free, I.freeC, I.pin, I.hok, I.len⟩
theorem Inv.unhdl (I : Inv (L2.hdl X x) pins σ H s) (ok : X.Ok) : Inv X pins σ H s := ⟨ok, I.os, I.bare, I.base, I.loc, I.cell, I.free, I.freeC, I.pin, I.hok, I.len⟩
end
def tTry (K : PySem.W.Frag) (Dc : Addr) (i : Nat) (tb : TSX) (th : TS) : TS := fun D σ H => ∃ E : XK, tb D E σ H ∧ ∀ (C : Addr) (dct : Option Addr) (H' : Hp) (x : Addr), E (.ref C) dct H' → H' x = none →
 PySem.W.exmOne K (.ref C) (.ref Dc) = some true ∧ th { nx := fun σ' H'' => D.nx (σ'.set i none) H'', rt := fun _ _ => False } (σ.set i (some (.ref x))) (upd H' x (zom x C dct))
theorem zsA {X : Cx} {body : List Stmt} {c n : Str} {np hpos pos : Pos} {b0 : Stmt} {suite : List Stmt} {tb : TSX} {th : TS} {i : Nat} {Dc : Addr} (hst : X.stack = X.env :: X.outer) (hf : X.env.frame = some X.env.locals)
  (hN : X.N.Nodup) (hi : X.N[i]? = some n) (hn : X.env.scope.names.lookup n = some .local) (hg : Gl X c) (hm : X.mg c = some (.ref Dc)) (hb : zue X (CXe X.prog X.w) body tb) (hh : ∀ x, PSs (hdl X x) (b0 :: suite) th)
  (hdb : (c == ("__debug__" : Str)) = false := by decide) : PS X (.Try body [.ExceptHandler (some (.Name c np)) (some n) (b0 :: suite) hpos] [] [] pos) (tTry X.K Dc i tb th) := by
 intro pins s σ H D I h
 obtain ⟨Ex, hbody, hhand⟩ := h
 refine wpAny_Try_except (wpAny_mono (hb pins s σ H D Ex I hbody) (fun fl s1 q => ?_) (fun e s1 q => ?_))
 ·cases fl with
  | next => exact wpAny_execs_nil q
  | ret v => exact q
  | brk => exact q
  | cont => exact q
 obtain ⟨s2, H2, I2, x, C, dct, H', B, rfl, ho, hg', un, hok, F, ib, nx, hE⟩ := q
 obtain ⟨hx, hth⟩ := hhand C dct H' x hE nx
 have hfr : X.A.frames = some (X.env :: X.outer) := by rw [← hst]; exact I.ok.frames
 have F' : Fly B (X.env :: X.outer) x (.ref C) dct .none s1.heap := by rw [← hst]; exact F
 refine zjM hfr hf F' fun h1 F1 u1 => zfw F1 fun h2 F2 u2 => ?_
 have I3 := zgW (tk := s1.toks) I2 ho hg' un hok (hst ▸ F2) ib (u1.trans u2) nx
 refine wpAny_handleBy_cons (codeAny_handlers_test ?_) (by intro z; cases z)
 refine zhp (X := hdl X x) (I3.hdl x) hg hm ?_ hdb
 obtain ⟨ox, vs, T, oT, ts, ex, hcl, _⟩ := F2.obj
 have LT : PySem.W.Looks (model X.prog X.w) h2 (typeOf (.ref x)) (.ref C) := hcl ▸ (PySem.W.Looks.ld ex).andThen .now
 refine (PySem.W.exm_one (M := model X.prog X.w) I3.kIn LT hx) _ _ _ _ (fun _ _ e => e) ?_
 refine codeAny_handlers_suite_as ?_
 refine zfw F2 fun h3 F3 u3 => ?_
 have I4 := zgW (tk := s1.toks) I2 ho hg' un hok (hst ▸ F3) ib (u1.trans (u2.trans u3)) nx
 refine zfv (X := hdl X x) (v := .ref x) (I4.hdl x) hN hi (.inl hn) rfl (fun s5 I5 => ?_) (.inr hn)
 refine wpAny_mono (hh x pins s5 _ _ _ I5 hth) (fun fl s6 q6 => ?_) fun _ _ z => False.elim z
 cases fl with
 | ret v => obtain ⟨_, _, _, _, _, z⟩ := q6; exact False.elim z
 | brk => obtain ⟨_, _, _, z⟩ := q6; exact False.elim z
 | cont => obtain ⟨_, _, _, z⟩ := q6; exact False.elim z
 | next =>
  obtain ⟨σ6, H6, I6, q⟩ := q6
  have I7 : Inv X pins σ6 H6 s6 := I6.unhdl I.ok
  obtain ⟨m, hnm, hl⟩ := I7.loc
  have hp : (X.env.scope.kind == .class || (X.env.scope.kind == .module && X.env.locals != X.env.globals)) = false := by rw [I.ok.kind]; rfl
  exact wpAny_nameGoes_keeps hn hnm hp fun h' v hn' hs' => ⟨_, H6, I7.gone hN hi hl hn' hs', q⟩
theorem zl9 {X : Cx} : zcP X (.builtin "isinstance") (fun xs H Q => ∃ (a C : Addr) (c : V) (cv : Value) (b : Bool), xs = [.ref a, c] ∧ H a = some (zom a C none) ∧ ((∃ D, c = .ref D ∧ cv = .ref D) ∨ ∃ T, c = .ty T ∧ cv = .type T) ∧ zrK X.K C ∧ PySem.W.kitOne X.K (.ref C) cv = some b ∧ Q (.bl b) H) := by
 intro pins s σ H xs us Q I r h
 obtain ⟨a, C, c, cv, b, rfl, ha, hc, ec, hk, q⟩ := h
 obtain ⟨u, w', rfl, ru, rw'⟩ := zsk r
 obtain rfl : u = Value.ref a := ru
 have e : w' = cv := by
  rcases hc with ⟨D, rfl, rfl⟩ | ⟨T, rfl, rfl⟩
  ·exact rw'
  ·exact rw'
 subst e
 obtain ⟨⟨o, e1, e2, e3, e4⟩, _, _⟩ := I.hok a _ ha
 have hI : PySem.W.InstAt s.heap a o C none := ⟨e1, e2, e4, by rw [e3]; trivial⟩
 exact PySem.W.kia_one (zon ec) I.kIn ⟨o, none, hI⟩ hk (fun z => nomatch z) fun tk => ⟨.bl b, H, I.tok tk, rfl, q⟩
end L2
end
section
set_option Elab.async false
set_option linter.all false
set_option maxRecDepth 100000
namespace L2
open PySem PySem.Spec PyProof.Rows
section
variable {X : Cx}
theorem zma (bs : List Bool) : (List.range bs.length).all (fun i => bs.getD i false) = bs.all id := by
 rw [Bool.eq_iff_iff]
 simp only [List.all_eq_true, List.mem_range, id]
 constructor
 ·intro h b hb
  obtain ⟨i, hi, rfl⟩ := List.mem_iff_getElem.mp hb
  have q := h i hi
  simpa [List.getD, hi] using q
 ·intro h i hi
  have q := h _ (List.getElem_mem hi)
  simpa [List.getD, hi] using q
theorem zmb (bs : List Bool) : (List.range bs.length).any (fun i => bs.getD i false) = bs.any id := by
 rw [Bool.eq_iff_iff]
 simp only [List.any_eq_true, List.mem_range, id]
 constructor
 ·rintro ⟨i, hi, q⟩
  exact ⟨bs[i], List.getElem_mem hi, by simpa [List.getD, hi] using q⟩
 ·rintro ⟨b, hb, q⟩
  obtain ⟨i, hi, rfl⟩ := List.mem_iff_getElem.mp hb
  exact ⟨i, hi, by simpa [List.getD, hi] using q⟩
theorem zjO {bs : List Bool} {its : List Value} (r : zbt (bs.map V.bl) its) {i : Nat} {v : Value} (h : its.toArray[i]? = some v) : v = .bool (bs.getD i false) := by
 have hl := r.length
 rw [List.length_map] at hl
 have hi : i < bs.length := by
  rw [hl]
  have : its[i]? = some v := by simpa using h
  exact (List.getElem?_eq_some_iff.mp this).1
 obtain ⟨u, hu, ru⟩ := r.get (i := i) (x := .bl bs[i]) (by simp [hi])
 have e : its[i]? = some v := by simpa using h
 rw [hu] at e
 cases e
 rw [show v = .bool bs[i] from ru]
 simp [List.getD, hi]
theorem zoq (hc : X.calm = true) : zcP X (.builtin "all") (fun xs H Q => ∃ (p : Addr) (bs : List Bool), xs = [.ref p] ∧ SqL X.K H p (bs.map V.bl) ∧ Q (.bl (bs.all id)) H) := by
 intro pins s σ H xs us Q I r h
 obtain ⟨p, bs, rfl, hq, q⟩ := h
 obtain ⟨u, rfl, e⟩ := zgE r
 cases e
 obtain ⟨its, rv, pl, hz⟩ := I.list hq
 have hl : its.toArray.size = bs.length := by rw [List.size_toArray, ← rv.length, List.length_map]
 have hlt : p < s.heap.objs.size := by obtain ⟨o, e, _⟩ := pl.isList; exact Heap.lt_size e
 refine call_all_walk (wpAny_pyIter_list pl.isList ⟨_, _, _, _, _, _, fun i => bs.getD i false, rfl, Walks.list (A := X.A.in1) (I.ok.hd hc) s.heap.objs.size p (Nat.ne_of_lt hlt) its.toArray, ⟨⟨_, Heap.get?_push_size _ rfl, rfl, rfl⟩, pl.isList.push _⟩, fun i v s' Q' E' hv hQ => ?_, fun h' tk k => ?_⟩)
 ·rw [zjO rv hv]; exact wpAny_truthy_bool hQ
 ·refine ⟨.bl (bs.all id), H, I.kept fun b o e => k b o (fun z => Nat.ne_of_lt (Heap.lt_size e) (by simpa using z)) (Heap.get?_push_of_some _ e), ?_, q⟩
  rw [hl, zma]; rfl
theorem zor (hc : X.calm = true) : zcP X (.builtin "any") (fun xs H Q => ∃ (p : Addr) (bs : List Bool), xs = [.ref p] ∧ SqL X.K H p (bs.map V.bl) ∧ Q (.bl (bs.any id)) H) := by
 intro pins s σ H xs us Q I r h
 obtain ⟨p, bs, rfl, hq, q⟩ := h
 obtain ⟨u, rfl, e⟩ := zgE r
 cases e
 obtain ⟨its, rv, pl, hz⟩ := I.list hq
 have hl : its.toArray.size = bs.length := by rw [List.size_toArray, ← rv.length, List.length_map]
 have hlt : p < s.heap.objs.size := by obtain ⟨o, e, _⟩ := pl.isList; exact Heap.lt_size e
 refine call_any_walk (wpAny_pyIter_list pl.isList ⟨_, _, _, _, _, _, fun i => bs.getD i false, rfl, Walks.list (A := X.A.in1) (I.ok.hd hc) s.heap.objs.size p (Nat.ne_of_lt hlt) its.toArray, ⟨⟨_, Heap.get?_push_size _ rfl, rfl, rfl⟩, pl.isList.push _⟩, fun i v s' Q' E' hv hQ => ?_, fun h' tk k => ?_⟩)
 ·rw [zjO rv hv]; exact wpAny_truthy_bool hQ
 ·refine ⟨.bl (bs.any id), H, I.kept fun b o e => k b o (fun z => Nat.ne_of_lt (Heap.lt_size e) (by simpa using z)) (Heap.get?_push_of_some _ e), ?_, q⟩
  rw [hl, zmb]; rfl
end
end L2
end
section
set_option linter.all false
namespace Mth
def zaO (x y z : Int) : Int := if z ≠ 0 then z else if y ≠ 0 then y else x
def g3 (x y z : Int) : Nat := Nat.gcd (Nat.gcd x.natAbs y.natAbs) z.natAbs
def zdw (x y z : Int) : Int := if zaO x y z < 0 then 0 - ((g3 x y z : Nat) : Int) else ((g3 x y z : Nat) : Int)
abbrev NZ (x y z : Int) : Prop := ¬ (x = 0 ∧ y = 0 ∧ z = 0)
theorem zct {x y z : Int} (h : NZ x y z) : zht (zdw x y z) x y z (x.fdiv (zdw x y z)) (y.fdiv (zdw x y z)) (z.fdiv (zdw x y z)) := by
 obtain ⟨x', y', z', p⟩ := zle x y z h
 have key : ∃ x' y' z', zht (zdw x y z) x y z x' y' z' := by
  unfold zdw
  by_cases c : zaO x y z < 0
  ·rw [if_pos c]; exact ⟨-x', -y', -z', p.neg⟩
  ·rw [if_neg c]; exact ⟨x', y', z', p⟩
 obtain ⟨x', y', z', p⟩ := key
 rw [zjk p.ne p.x, zjk p.ne p.y, zjk p.ne p.z]
 exact p
theorem zht.nz {s x y z x' y' z' : Int} (p : zht s x y z x' y' z') (h : NZ x y z) : NZ x' y' z' := fun q => h (by rw [p.x, p.y, p.z, q.1, q.2.1, q.2.2]; simp)
theorem zuf {x y z : Int} (h : NZ x y z) : g3 x y z ≠ 0 := by
 unfold g3
 intro e
 have e1 := Nat.eq_zero_of_gcd_eq_zero_left e
 have e2 := Nat.eq_zero_of_gcd_eq_zero_right e
 have e3 := Nat.eq_zero_of_gcd_eq_zero_left e1
 have e4 := Nat.eq_zero_of_gcd_eq_zero_right e1
 exact h ⟨by omega, by omega, by omega⟩
theorem zjP (x y z : Int) : (zdw x y z).natAbs = g3 x y z := by
 unfold zdw
 split <;> omega
theorem zmc (s x y z : Int) : g3 (s * x) (s * y) (s * z) = s.natAbs * g3 x y z := by
 unfold g3
 rw [Int.natAbs_mul, Int.natAbs_mul, Int.natAbs_mul, Nat.gcd_mul_left, Nat.gcd_mul_left]
theorem zlg {s : Int} (hs : s ≠ 0) (x y z : Int) : zaO (s * x) (s * y) (s * z) = s * zaO x y z := by
 unfold zaO
 by_cases hz : z = 0
 ·subst hz
  by_cases hy : y = 0
  ·subst hy; simp
  ·have : s * y ≠ 0 := fun e => by rcases Int.mul_eq_zero.mp e with q | q <;> contradiction
   simp [hy, this]
 ·have : s * z ≠ 0 := fun e => by rcases Int.mul_eq_zero.mp e with q | q <;> contradiction
  simp [hz, this]
theorem zin {x y z : Int} (h : NZ x y z) : zaO x y z ≠ 0 := by
 unfold zaO
 by_cases hz : z = 0
 ·by_cases hy : y = 0
  ·have : x ≠ 0 := fun e => h ⟨e, hy, hz⟩
   simp [hz, hy, this]
  ·simp [hz, hy]
 ·simp [hz]
theorem zos {x y z x' y' z' : Int} (h : NZ x y z) (p : zht (zdw x y z) x y z x' y' z') : zdw x' y' z' = 1 := by
 have hg : g3 x y z = (zdw x y z).natAbs * g3 x' y' z' := by
  have e := zmc (zdw x y z) x' y' z'
  rw [← p.x, ← p.y, ← p.z] at e
  exact e
 rw [zjP] at hg
 have n0 := zuf h
 have g1 : g3 x' y' z' = 1 := by
  have : g3 x y z * 1 = g3 x y z * g3 x' y' z' := by rw [Nat.mul_one]; exact hg
  exact (Nat.eq_of_mul_eq_mul_left (Nat.pos_of_ne_zero n0) this).symm
 have hl : zaO x y z = zdw x y z * zaO x' y' z' := by
  have e := zlg p.ne x' y' z'
  rw [← p.x, ← p.y, ← p.z] at e
  exact e
 have ln := zin (p.nz h)
 have lp : 0 < zaO x' y' z' := by
  by_cases c : zaO x y z < 0
  ·have es : zdw x y z < 0 := by unfold zdw; rw [if_pos c]; omega
   rcases (show 0 < zaO x' y' z' ∨ zaO x' y' z' ≤ 0 by omega) with q | q
   ·exact q
   ·have q' : zaO x' y' z' < 0 := by omega
    have := Int.mul_pos_of_neg_of_neg es q'
    rw [← hl] at this; omega
  ·have es : 0 < zdw x y z := by unfold zdw; rw [if_neg c]; omega
   rcases (show 0 < zaO x' y' z' ∨ zaO x' y' z' ≤ 0 by omega) with q | q
   ·exact q
   ·have q' : zaO x' y' z' < 0 := by omega
    have := Int.mul_neg_of_pos_of_neg es q'
    rw [← hl] at this; omega
 unfold zdw
 rw [if_neg (by omega), g1]; rfl
theorem zdT (x : Int) : x.fdiv 1 = x := by
 rw [Int.fdiv_eq_ediv_of_nonneg _ (by decide)]; exact Int.ediv_one x
theorem zug {x y z : Int} {B : Nat} (hx : x.natAbs ≤ B) (hy : y.natAbs ≤ B) (hz : z.natAbs ≤ B) : g3 x y z ≤ B := zik (zik hx hy) hz
theorem zqQ {x y z : Int} {B : Nat} (hx : x.natAbs ≤ B) (hy : y.natAbs ≤ B) (hz : z.natAbs ≤ B) : (zdw x y z).natAbs ≤ B := by rw [zjP]; exact zug hx hy hz
end Mth
end
section
set_option Elab.async false
set_option linter.all false
namespace Mth
abbrev P3 := Int × Int × Int
def crs (p q : P3) : P3 := (p.2.1 * q.2.2 - p.2.2 * q.2.1, p.2.2 * q.1 - p.1 * q.2.2, p.1 * q.2.1 - p.2.1 * q.1)
abbrev Nz (p : P3) : Prop := NZ p.1 p.2.1 p.2.2
abbrev sOf (p : P3) : Int := zdw p.1 p.2.1 p.2.2
def low (p : P3) : P3 := (p.1.fdiv (sOf p), p.2.1.fdiv (sOf p), p.2.2.fdiv (sOf p))
structure Nrm (p : P3) : Prop where
 nz : Nz p
 one : sOf p = 1
theorem zjQ {p : P3} (h : Nz p) : sOf p ≠ 0 ∧ p.1 = sOf p * (low p).1 ∧ p.2.1 = sOf p * (low p).2.1 ∧ p.2.2 = sOf p * (low p).2.2 :=
 ⟨(zct h).ne, (zct h).x, (zct h).y, (zct h).z⟩
theorem zhu {p : P3} (h : Nz p) : Nrm (low p) := ⟨(zct h).nz h, zos h (zct h)⟩
theorem Nrm.low {p : P3} (h : Nrm p) : Mth.low p = p := by
 unfold Mth.low; rw [h.one, zdT, zdT, zdT]
theorem zqR {p : P3} (h : Nz p) : (low p).1.natAbs ≤ p.1.natAbs ∧ (low p).2.1.natAbs ≤ p.2.1.natAbs ∧ (low p).2.2.natAbs ≤ p.2.2.natAbs := by
 obtain ⟨h0, h1, h2, h3⟩ := zjQ h
 exact ⟨zfI h0 h1, zfI h0 h2, zfI h0 h3⟩
theorem Nrm.last {p : P3} (h : Nrm p) : 0 < zaO p.1 p.2.1 p.2.2 ∧ g3 p.1 p.2.1 p.2.2 = 1 := by
 have h1 := h.one
 have h2 := zin h.nz
 unfold sOf zdw at h1
 split at h1 <;> constructor <;> omega
theorem zlh {p q : P3} (hp : Nz p) (hq : Nz q) (h : crs p q = (0, 0, 0)) :
  zaO q.1 q.2.1 q.2.2 * p.1 = zaO p.1 p.2.1 p.2.2 * q.1 ∧ zaO q.1 q.2.1 q.2.2 * p.2.1 = zaO p.1 p.2.1 p.2.2 * q.2.1 ∧ zaO q.1 q.2.1 q.2.2 * p.2.2 = zaO p.1 p.2.1 p.2.2 * q.2.2 := by
 obtain ⟨a, b, c⟩ := p
 obtain ⟨x, y, z⟩ := q
 simp only [crs, Prod.mk.injEq] at h
 obtain ⟨h1, h2, h3⟩ := h
 simp only [Nz, NZ] at hp hq
 unfold zaO
 simp only
 by_cases hc : c = 0
 ·subst hc
  by_cases hz : z = 0
  ·subst hz
   by_cases hb : b = 0
   ·subst hb
    by_cases hy : y = 0
    ·subst hy; grind
    ·have : a = 0 := by
      have := h3
      simp at this
      exact (Int.mul_eq_zero.mp this).resolve_right hy
     exact absurd ⟨this, rfl, rfl⟩ hp
   ·by_cases hy : y = 0
    ·subst hy
     have : x = 0 := by
      have := h3
      simp at this
      exact (Int.mul_eq_zero.mp this).resolve_left hb
     exact absurd ⟨this, rfl, rfl⟩ hq
    ·simp only [ne_eq, not_true_eq_false, if_false, hb, hy, not_false_eq_true, if_true]
     grind
  ·have hb : b = 0 := by
    have := h1
    simp at this
    exact (Int.mul_eq_zero.mp this).resolve_right hz
   have ha : a = 0 := by
    have := h2
    simp at this
    exact (Int.mul_eq_zero.mp this).resolve_right hz
   exact absurd ⟨ha, hb, rfl⟩ hp
 ·by_cases hz : z = 0
  ·subst hz
   have hy : y = 0 := by
    have := h1
    simp at this
    exact (Int.mul_eq_zero.mp this).resolve_left hc
   have hx : x = 0 := by
    have := h2
    simp at this
    exact (Int.mul_eq_zero.mp this).resolve_left hc
   exact absurd ⟨hx, hy, rfl⟩ hq
  ·simp only [ne_eq, hc, hz, not_false_eq_true, if_true]
   grind
theorem zot {p q : P3} (hp : Nrm p) (hq : Nrm q) (h : p ≠ q) : Nz (crs p q) := by
 intro hz
 apply h
 obtain ⟨e1, e2, e3⟩ := zlh hp.nz hq.nz (Prod.ext hz.1 (Prod.ext hz.2.1 hz.2.2))
 obtain ⟨sp, gp⟩ := hp.last
 obtain ⟨sq, gq⟩ := hq.last
 have g1 := zmc (zaO q.1 q.2.1 q.2.2) p.1 p.2.1 p.2.2
 have g2 := zmc (zaO p.1 p.2.1 p.2.2) q.1 q.2.1 q.2.2
 rw [e1, e2, e3, g2, gp, gq] at g1
 have e : zaO q.1 q.2.1 q.2.2 = zaO p.1 p.2.1 p.2.2 := by omega
 rw [e] at e1 e2 e3
 have ne : zaO p.1 p.2.1 p.2.2 ≠ 0 := by omega
 exact Prod.ext (Int.eq_of_mul_eq_mul_left ne e1) (Prod.ext (Int.eq_of_mul_eq_mul_left ne e2) (Int.eq_of_mul_eq_mul_left ne e3))
end Mth
end
section
set_option Elab.async false
set_option linter.all false
namespace Mth
theorem zjl {a b : Int} (h : a ≠ 0) (e : a * b = 0) : b = 0 := (Int.mul_eq_zero.mp e).resolve_left h
def tms (s : Int) (p : P3) : P3 := (s * p.1, s * p.2.1, s * p.2.2)
theorem zmd {p : P3} (h : Nz p) : p = tms (sOf p) (low p) := by
 obtain ⟨_, h1, h2, h3⟩ := zjQ h
 exact Prod.ext h1 (Prod.ext h2 h3)
theorem zqS (s t : Int) (p q : P3) : crs (tms s p) (tms t q) = tms (s * t) (crs p q) := by
 unfold crs tms; exact Prod.ext (by grind) (Prod.ext (by grind) (by grind))
theorem zjR {s : Int} {p : P3} (hs : s ≠ 0) (h : tms s p = (0, 0, 0)) : p = (0, 0, 0) := by
 unfold tms at h
 simp only [Prod.mk.injEq] at h
 exact Prod.ext (zjl hs h.1) (Prod.ext (zjl hs h.2.1) (zjl hs h.2.2))
theorem zsB {p : P3} (h : Nz p) : p ≠ (0, 0, 0) := fun e => h (by rw [e]; exact ⟨rfl, rfl, rfl⟩)
theorem zuh {p : P3} (h : p ≠ (0, 0, 0)) : Nz p := fun ⟨a, b, c⟩ => h (Prod.ext a (Prod.ext b c))
theorem zme {s : Int} {p : P3} (hs : s ≠ 0) (h : Nz p) : Nz (tms s p) := zuh fun e => zsB h (zjR hs e)
theorem zsC {a b : Int} (ha : a ≠ 0) (hb : b ≠ 0) : a * b ≠ 0 := fun e => by rcases Int.mul_eq_zero.mp e with q | q <;> contradiction
theorem zqT {u v : P3} (hu : Nz u) (hv : Nz v) (h : crs u v = (0, 0, 0)) : low u = low v := by
 refine Classical.byContradiction fun hne => ?_
 have hz := zot (zhu hu) (zhu hv) hne
 have e := h
 rw [zmd hu, zmd hv, zqS] at e
 exact zsB hz (zjR (zsC (zjQ hu).1 (zjQ hv).1) e)
theorem zgX {s : Int} {p : P3} (hs : s ≠ 0) (h : Nz p) : low (tms s p) = low p := zqT (zme hs h) h (by unfold crs tms; exact Prod.ext (by grind) (Prod.ext (by grind) (by grind)))
end Mth
end
section
set_option Elab.async false
set_option linter.all false
namespace SetT
open PySem PySem.SetTable
theorem zjS : ∀ (n : Nat) (l : List Nat), (∀ j, j < n → j ∈ l) → n ≤ l.length
 | 0, _, _ => Nat.zero_le _
 | n + 1, l, h => by
  have hn : n ∈ l := h n (Nat.lt_succ_self _)
  have := zjS n (l.erase n) fun j hj => (List.mem_erase_of_ne (by omega)).mpr (h j (by omega))
  rw [List.length_erase_of_mem hn] at this
  have : 0 < l.length := List.length_pos_of_mem hn
  omega
theorem no_has (j : Nat) : has #[] j = false := rfl
theorem slot_cases {t : SetTable} (hd : t.dummies = #[]) (j : Nat) : t.slot j = .empty ∨ ∃ i, t.slot j = .live i ∧ t.place[i]? = some j := by
 unfold slot
 simp only
 by_cases h : (t.place[below t.place j]? == some j) = true
 ·rw [if_pos h]
  exact .inr ⟨_, rfl, eq_of_beq h⟩
 ·rw [if_neg h, hd, no_has]
  exact .inl rfl
theorem zli {t : SetTable} (hd : t.dummies = #[]) {n : Nat} (hn : t.place.size < n) : ∃ j, j < n ∧ t.slot j = .empty := by
 refine Classical.byContradiction fun h => ?_
 have : n ≤ t.place.toList.length := zjS n _ fun j hj => by
  rcases slot_cases hd j with e | ⟨i, _, hi⟩
  ·exact absurd ⟨j, hj, e⟩ h
  ·rw [← Array.getElem?_toList] at hi
   exact List.mem_of_getElem? hi
 rw [Array.length_toList] at this
 omega
def iter (t : SetTable) : Nat → Probe → Probe
 | 0, p => p
 | k + 1, p => iter t k (t.advance p)
theorem iter_add (t : SetTable) : ∀ (a b : Nat) (p : Probe), iter t (a + b) p = iter t b (iter t a p)
 | 0, b, p => by rw [Nat.zero_add]; rfl
 | a + 1, b, p => by rw [Nat.succ_add]; exact iter_add t a b (t.advance p)
theorem adv_dummy (t : SetTable) (p : Probe) : (t.advance p).dummy = p.dummy := by
 unfold advance; split <;> rfl
def start (mask i perturb : Nat) : Probe := { j := i, more := runEnd mask i - i, i, perturb, dummy := none }
theorem zjT (mask i : Nat) : runEnd mask i - i ≤ 9 := by unfold runEnd; split <;> omega
theorem zmf {t : SetTable} : ∀ (m : Nat) (p : Probe), p.more = m → p.dummy = none → iter t (m + 1) p = start t.mask (leap t.mask p.i p.perturb).1 (leap t.mask p.i p.perturb).2
 | 0, p, hm, hd => by
  show t.advance p = _
  unfold advance start
  rw [if_neg (by omega), hd]
 | m + 1, p, hm, hd => by
  show iter t (m + 1) (t.advance p) = _
  have e : t.advance p = { p with j := p.j + 1, more := p.more - 1 } := by unfold advance; rw [if_pos (by omega)]
  rw [e]
  exact zmf m { p with j := p.j + 1, more := p.more - 1 } (by show p.more - 1 = m; omega) hd
def zbp (mask : Nat) : Nat → Nat × Nat → Nat × Nat
 | 0, s => s
 | n + 1, s => zbp mask n (leap mask s.1 s.2)
theorem zej (mask : Nat) : ∀ (n : Nat) (s : Nat × Nat), zbp mask (n + 1) s = leap mask (zbp mask n s).1 (zbp mask n s).2
 | 0, _ => rfl
 | n + 1, s => zej mask n (leap mask s.1 s.2)
theorem zfJ {t : SetTable} : ∀ (n : Nat) (s : Nat × Nat), ∃ k, k ≤ 10 * n ∧ iter t k (start t.mask s.1 s.2) = start t.mask (zbp t.mask n s).1 (zbp t.mask n s).2
 | 0, s => ⟨0, Nat.le_refl _, rfl⟩
 | n + 1, s => by
  obtain ⟨k, hk, e⟩ := zfJ n (leap t.mask s.1 s.2)
  have hr := zmf (t := t) _ (start t.mask s.1 s.2) rfl rfl
  refine ⟨(runEnd t.mask s.1 - s.1 + 1) + k, ?_, ?_⟩
  ·have := zjT t.mask s.1; omega
  ·rw [iter_add]
   have hr : iter t (runEnd t.mask s.1 - s.1 + 1) (start t.mask s.1 s.2) = start t.mask (leap t.mask s.1 s.2).1 (leap t.mask s.1 s.2).2 := hr
   rw [hr]; exact e
theorem zd2 (mask : Nat) : ∀ (n : Nat) (s : Nat × Nat), (zbp mask n s).2 = s.2 / 32 ^ n
 | 0, s => by simp [zbp]
 | n + 1, s => by
  rw [zej]
  show (zbp mask n s).2 / 32 = _
  rw [zd2 mask n s, Nat.div_div_eq_div_mul, ← Nat.pow_succ]
def zsD (mask : Nat) : Nat → Nat → Nat
 | 0, i => i
 | n + 1, i => zsD mask n ((i * 5 + 1) % (mask + 1))
theorem zfK (mask : Nat) : ∀ (n i : Nat), zbp mask n (i, 0) = (zsD mask n i, 0)
 | 0, i => rfl
 | n + 1, i => by
  show zbp mask n (leap mask i 0) = _
  have : leap mask i 0 = ((i * 5 + 1) % (mask + 1), 0) := by unfold leap; simp
  rw [this, zfK mask n]; rfl
theorem zgY (mask : Nat) : ∀ (a b : Nat) (s : Nat × Nat), zbp mask (a + b) s = zbp mask b (zbp mask a s)
 | 0, b, s => by rw [Nat.zero_add]; rfl
 | a + 1, b, s => by rw [Nat.succ_add]; exact zgY mask a b (leap mask s.1 s.2)
theorem all7 : (List.range 8).all (fun i => (List.range 8).all fun j => (List.range 8).any fun n => zsD 7 n i == j) = true := by decide +kernel
theorem zui : (List.range 32).all (fun i => (List.range 32).all fun j => (List.range 32).any fun n => zsD 31 n i == j) = true := by decide +kernel
theorem zou {mask : Nat} (hm : mask = 7 ∨ mask = 31) {i j : Nat} (hi : i ≤ mask) (hj : j ≤ mask) : ∃ n, n ≤ mask ∧ zsD mask n i = j := by
 rcases hm with rfl | rfl
 ·have h := List.all_eq_true.mp (List.all_eq_true.mp all7 i (List.mem_range.mpr (by omega))) j (List.mem_range.mpr (by omega))
  obtain ⟨n, h1, h2⟩ := List.any_eq_true.mp h
  exact ⟨n, by have := List.mem_range.mp h1; omega, eq_of_beq h2⟩
 ·have h := List.all_eq_true.mp (List.all_eq_true.mp zui i (List.mem_range.mpr (by omega))) j (List.mem_range.mpr (by omega))
  obtain ⟨n, h1, h2⟩ := List.any_eq_true.mp h
  exact ⟨n, by have := List.mem_range.mp h1; omega, eq_of_beq h2⟩
theorem zmg {mask : Nat} (n : Nat) {s : Nat × Nat} (hs : s.1 ≤ mask) : (zbp mask n s).1 ≤ mask := by
 cases n with
 | zero => exact hs
 | succ n =>
  rw [zej]
  show (_ % (mask + 1)) ≤ mask
  have := Nat.mod_lt ((zbp mask n s).1 * 5 + 1 + (zbp mask n s).2 / 32) (show 0 < mask + 1 by omega)
  omega
theorem zgZ {mask : Nat} (hm : mask = 7 ∨ mask = 31) {s : Nat × Nat} (hs : s.1 ≤ mask) (hb : s.2 < 2 ^ 64) {j : Nat} (hj : j ≤ mask) : ∃ n, n ≤ mask + 13 ∧ (zbp mask n s).1 = j := by
 have e : (zbp mask 13 s).2 = 0 := by rw [zd2]; exact Nat.div_eq_of_lt (Nat.lt_of_lt_of_le hb (by decide))
 obtain ⟨n, h1, h2⟩ := zou hm (zmg 13 hs) hj
 refine ⟨13 + n, by omega, ?_⟩
 rw [zgY]
 have : zbp mask 13 s = ((zbp mask 13 s).1, 0) := Prod.ext rfl e
 rw [this, zfK]; exact h2
theorem zmh (h : Int) : bits h < 2 ^ 64 := by
 unfold bits
 have h1 := Int.emod_nonneg h (show (2 ^ 64 : Int) ≠ 0 by decide)
 have h2 := Int.emod_lt_of_pos h (show (0 : Int) < 2 ^ 64 by decide)
 omega
theorem meets_empty {t : SetTable} (hd : t.dummies = #[]) (hm : t.mask = 7 ∨ t.mask = 31) (hs : t.place.size ≤ t.mask) (h : Int) : ∃ k, k < 10 * turns t.mask ∧ t.slot (iter t k (t.probeStart h)).j = .empty := by
 obtain ⟨j, hj, he⟩ := zli hd (n := t.mask + 1) (by omega)
 have hi : bits h % (t.mask + 1) ≤ t.mask := by have := Nat.mod_lt (bits h) (show 0 < t.mask + 1 by omega); omega
 obtain ⟨n, h1, h2⟩ := zgZ hm (s := (bits h % (t.mask + 1), bits h)) hi (zmh h) (show j ≤ t.mask by omega)
 obtain ⟨k, hk, e⟩ := zfJ (t := t) n (bits h % (t.mask + 1), bits h)
 refine ⟨k, by unfold turns; omega, ?_⟩
 have e : iter t k (t.probeStart h) = _ := e
 rw [e]
 show t.slot (zbp t.mask n (bits h % (t.mask + 1), bits h)).1 = .empty
 rw [h2]; exact he
theorem fm_all {α β : Type} (f : α → Option β) : ∀ l : List α, (∀ a ∈ l, (f a).isSome = true) → (l.filterMap f).length = l.length
 | [], _ => rfl
 | a :: l, h => by
  obtain ⟨b, hb⟩ := Option.isSome_iff_exists.mp (h a List.mem_cons_self)
  rw [List.filterMap_cons_some hb, List.length_cons, List.length_cons, fm_all f l fun x hx => h x (List.mem_cons_of_mem _ hx)]
theorem zhv {β : Type} (f : Nat → Option β) : ∀ l : List Nat, (l.filterMap fun j => (f j).map (j, ·)).length = (l.filterMap f).length
 | [] => rfl
 | a :: l => by
  cases h : f a with
  | none => rw [List.filterMap_cons_none (by rw [h]; rfl), List.filterMap_cons_none h, zhv f l]
  | some b => rw [List.filterMap_cons_some (by rw [h]; rfl), List.filterMap_cons_some h, List.length_cons, List.length_cons, zhv f l]
theorem zjU {β : Type} {f g : Nat → Option β} : ∀ l : List Nat, (∀ x ∈ l, g x = f x) → l.filterMap g = l.filterMap f
 | [], _ => rfl
 | a :: l, h => by
  have ih := zjU l fun x hx => h x (List.mem_cons_of_mem _ hx)
  have ha := h a List.mem_cons_self
  cases e : f a with
  | none => rw [List.filterMap_cons_none e, List.filterMap_cons_none (by rw [ha]; exact e), ih]
  | some b => rw [List.filterMap_cons_some e, List.filterMap_cons_some (by rw [ha]; exact e), ih]
theorem zpj {β : Type} {f g : Nat → Option β} {j : Nat} (hj : f j = none) (hg : (g j).isSome = true) (ho : ∀ i, i ≠ j → g i = f i) : ∀ l : List Nat, l.Nodup → j ∈ l → (l.filterMap g).length = (l.filterMap f).length + 1
 | a :: l, hn, hm => by
  rw [List.nodup_cons] at hn
  by_cases e : a = j
  ·subst e
   obtain ⟨b, hb⟩ := Option.isSome_iff_exists.mp hg
   have same : l.filterMap g = l.filterMap f := zjU l fun x hx => ho x fun z => hn.1 (z ▸ hx)
   rw [List.filterMap_cons_some hb, List.filterMap_cons_none hj, List.length_cons, same]
  ·have hm' : j ∈ l := (List.mem_cons.mp hm).elim (fun z => absurd z.symm e) id
   have ih := zpj hj hg ho l hn.2 hm'
   cases h : f a with
   | none => rw [List.filterMap_cons_none h, List.filterMap_cons_none (by rw [ho a e]; exact h), ih]
   | some b => rw [List.filterMap_cons_some h, List.filterMap_cons_some (by rw [ho a e]; exact h), List.length_cons, List.length_cons, ih]
def cnt (n : Nat) (owner : Array (Option Nat)) : Nat := ((List.range n).filterMap fun j => owner.getD j none).length
theorem zov {n : Nat} {owner : Array (Option Nat)} (h : cnt n owner < n) : ∃ j, j < n ∧ owner.getD j none = none := by
 refine Classical.byContradiction fun q => ?_
 have : cnt n owner = (List.range n).length := fm_all _ _ fun j hj => by
  cases e : owner.getD j none with
  | none => exact absurd ⟨j, List.mem_range.mp hj, e⟩ q
  | some b => rfl
 rw [List.length_range] at this
 omega
theorem zhw {owner : Array (Option Nat)} {j : Nat} (h : j < owner.size) (a b : Option Nat) : owner.getD j a = owner.getD j b := by
 rw [Array.getD_eq_getD_getElem?, Array.getD_eq_getD_getElem?, Array.getElem?_eq_getElem h]; rfl
theorem zqU {mask : Nat} {owner : Array (Option Nat)} : ∀ (n fuel i perturb : Nat), (owner.getD (zbp mask n (i, perturb)).1 (some 0)).isNone = true → n < fuel → ∃ j, SetTable.layClean.free mask owner fuel i perturb = some j ∧ (owner.getD j (some 0)).isNone = true := by
 intro n
 induction n with
 | zero =>
  intro fuel i perturb h hf
  obtain ⟨f, rfl⟩ : ∃ f, fuel = f + 1 := ⟨fuel - 1, by omega⟩
  unfold SetTable.layClean.free
  cases hx : (List.range (runEnd mask i + 1 - i)).find? fun k => (owner.getD (i + k) (some 0)).isNone with
  | some k => exact ⟨i + k, rfl, List.find?_some (p := fun k => (owner.getD (i + k) (some 0)).isNone) hx⟩
  | none =>
   have := List.find?_eq_none.mp hx 0 (List.mem_range.mpr (by unfold runEnd; split <;> omega))
   exact absurd h this
 | succ n ih =>
  intro fuel i perturb h hf
  obtain ⟨f, rfl⟩ : ∃ f, fuel = f + 1 := ⟨fuel - 1, by omega⟩
  unfold SetTable.layClean.free
  cases hx : (List.range (runEnd mask i + 1 - i)).find? fun k => (owner.getD (i + k) (some 0)).isNone with
  | some k => exact ⟨i + k, rfl, List.find?_some (p := fun k => (owner.getD (i + k) (some 0)).isNone) hx⟩
  | none => exact ih f _ _ h (by omega)
theorem zmi {mask : Nat} (hm : mask = 7 ∨ mask = 31) : ∀ (hs : List Int) (owner : Array (Option Nat)) (k : Nat), owner.size = mask + 1 → cnt (mask + 1) owner = k → (∀ j v, owner.getD j none = some v → v < k) → k + hs.length ≤ mask + 1 →
  ∃ owner', hs.foldl (fun acc h => do
   let (owner, k) ← acc
   let j ← SetTable.layClean.free mask owner (turns mask) (bits h % (mask + 1)) (bits h)
   pure (owner.setIfInBounds j (some k), k + 1)) (some (owner, k)) = some (owner', k + hs.length) ∧ cnt (mask + 1) owner' = k + hs.length ∧ ∀ j v, owner'.getD j none = some v → v < k + hs.length
 | [], owner, k, _, h2, h3, _ => ⟨owner, rfl, h2, h3⟩
 | h :: hs, owner, k, h1, h2, h3, h4 => by
  rw [List.length_cons] at h4 ⊢
  obtain ⟨j, hj, he⟩ := zov (n := mask + 1) (owner := owner) (by omega)
  have hi : bits h % (mask + 1) ≤ mask := by have := Nat.mod_lt (bits h) (show 0 < mask + 1 by omega); omega
  obtain ⟨n, q1, q2⟩ := zgZ hm (s := (bits h % (mask + 1), bits h)) hi (zmh h) (show j ≤ mask by omega)
  obtain ⟨j', f1, f2⟩ := zqU (mask := mask) (owner := owner) n (turns mask) (bits h % (mask + 1)) (bits h) (by rw [q2, zhw (by omega) (some 0) none, he]; rfl) (by unfold turns; omega)
  have hj' : j' < owner.size := by
   refine Classical.byContradiction fun z => ?_
   rw [Array.getD_eq_getD_getElem?, Array.getElem?_eq_none (by omega)] at f2
   cases f2
  have hn : owner.getD j' none = none := by
   rw [zhw hj' none (some 0)]
   exact Option.isNone_iff_eq_none.mp f2
  have hset : ∀ i, (owner.setIfInBounds j' (some k)).getD i none = if i = j' then some k else owner.getD i none := by
   intro i
   rw [Array.getD_eq_getD_getElem?, Array.getD_eq_getD_getElem?, Array.getElem?_setIfInBounds]
   by_cases e : i = j'
   ·subst e; rw [if_pos rfl, if_pos rfl, if_pos hj']; rfl
   ·rw [if_neg (Ne.symm e), if_neg e]
  obtain ⟨o', g1, g2, g3⟩ := zmi hm hs (owner.setIfInBounds j' (some k)) (k + 1) (by rw [Array.size_setIfInBounds]; exact h1) (by
   unfold cnt
   rw [zpj (f := fun j => owner.getD j none) (j := j') hn (by rw [hset, if_pos rfl]; rfl) (fun i hi => by rw [hset, if_neg hi]) _ List.nodup_range (List.mem_range.mpr (by omega))]
   rw [← h2]; rfl) (by
   intro i v hv
   rw [hset] at hv
   by_cases e : i = j'
   ·rw [if_pos e] at hv; cases hv; omega
   ·rw [if_neg e] at hv; have := h3 i v hv; omega) (by omega)
  refine ⟨o', ?_, by rw [g2]; omega, fun i v hv => by have := g3 i v hv; omega⟩
  rw [List.foldl_cons]
  have e1 : (do
   let (owner, k) ← some (owner, k)
   let j ← SetTable.layClean.free mask owner (turns mask) (bits h % (mask + 1)) (bits h)
   pure (owner.setIfInBounds j (some k), k + 1)) = some (owner.setIfInBounds j' (some k), k + 1) := by
   show (SetTable.layClean.free mask owner (turns mask) (bits h % (mask + 1)) (bits h)).bind _ = _
   rw [f1]; rfl
  rw [e1, g1]
  congr 2
  omega
theorem zmj (t : SetTable) (hashes : Array Int) {n : Nat} (hn : hashes.size = n) (h : n ≤ 32) : ∃ t' order, t.relaid hashes 20 = some (t', order) ∧ t'.mask = 31 ∧ t'.dummies = #[] ∧ t'.place.size = n ∧ order.size = n ∧ ∀ k ∈ order.toList, k < n := by
 have e0 : sizeAbove 20 - 1 = 31 := by decide
 obtain ⟨o, g1, g2, g3⟩ := zmi (mask := 31) (.inr rfl) hashes.toList (Array.replicate 32 none) 0 (by simp) (by decide) (by
  intro j v hv
  rw [Array.getD_eq_getD_getElem?, Array.getElem?_replicate] at hv
  split at hv <;> cases hv) (by rw [Array.length_toList]; omega)
 rw [Nat.zero_add, Array.length_toList, hn] at g2
 have hl : layClean 31 hashes = some o := by
  unfold layClean
  rw [← Array.foldl_toList, g1]; rfl
 unfold relaid
 rw [e0]
 unfold laid
 rw [hl]
 refine ⟨_, _, rfl, rfl, rfl, ?_, ?_, ?_⟩
 ·show (List.toArray _).size = n
  rw [List.size_toArray, List.length_map, zhv, ← g2]; rfl
 ·show (List.toArray _).size = n
  rw [List.size_toArray, List.length_map, zhv, ← g2]; rfl
 ·intro k hk
  rw [List.toList_toArray] at hk
  obtain ⟨⟨j, v⟩, hm, rfl⟩ := List.mem_map.mp hk
  obtain ⟨i, hi, hv⟩ := List.mem_filterMap.mp hm
  cases hx : o.getD i none with
  | none => rw [hx] at hv; cases hv
  | some u =>
   rw [hx] at hv
   have hv : some (i, u) = some (j, v) := hv
   cases hv
   have := g3 _ _ hx
   rw [Nat.zero_add, Array.length_toList, hn] at this
   exact this
end SetT
end
section
set_option Elab.async false
set_option linter.all false
namespace SetT
open PySem PySem.SetTable
theorem zsE {t : SetTable} : ∀ (k : Nat) (p : Probe), k ≤ p.more → (iter t k p).j = p.j + k
 | 0, p, _ => rfl
 | k + 1, p, h => by
  show (iter t k (t.advance p)).j = _
  have e : t.advance p = { p with j := p.j + 1, more := p.more - 1 } := by unfold advance; rw [if_pos (by omega)]
  rw [e, zsE k _ (by show k ≤ p.more - 1; omega)]
  show p.j + 1 + k = _
  omega
theorem zpk (mask i : Nat) (h : i ≤ mask) : i + (runEnd mask i - i) ≤ mask := by unfold runEnd; split <;> omega
theorem zmk {t : SetTable} : ∀ (k : Nat) (p : Probe), p.j + p.more ≤ t.mask → (iter t k p).j ≤ t.mask
 | 0, p, h => by show p.j ≤ _; omega
 | k + 1, p, h => by
  show (iter t k (t.advance p)).j ≤ _
  refine zmk k _ ?_
  unfold advance
  split
  ·show p.j + 1 + (p.more - 1) ≤ _; omega
  ·refine zpk _ _ ?_
   show (_ % (t.mask + 1)) ≤ t.mask
   have := Nat.mod_lt (p.i * 5 + 1 + p.perturb / 32) (show 0 < t.mask + 1 by omega)
   omega
theorem zlj {t : SetTable} {owner : Array (Option Nat)} : ∀ (fuel i perturb j : Nat), SetTable.layClean.free t.mask owner fuel i perturb = some j →
  ∃ m, m < 10 * fuel ∧ (iter t m (start t.mask i perturb)).j = j ∧ (owner.getD j (some 0)).isNone = true ∧ ∀ m', m' < m → (owner.getD (iter t m' (start t.mask i perturb)).j (some 0)).isNone = false := by
 intro fuel
 induction fuel with
 | zero => intro i perturb j h; cases h
 | succ f ih =>
  intro i perturb j h
  unfold SetTable.layClean.free at h
  have hr := zjT t.mask i
  have jk : ∀ k, k ≤ runEnd t.mask i - i → (iter t k (start t.mask i perturb)).j = i + k := fun k hk => zsE k (start t.mask i perturb) hk
  cases hx : (List.range (runEnd t.mask i + 1 - i)).find? fun k => (owner.getD (i + k) (some 0)).isNone with
  | some k =>
   rw [hx] at h
   have h : some (i + k) = some j := h
   cases h
   have hp : (owner.getD (i + k) (some 0)).isNone = true := List.find?_some (p := fun k => (owner.getD (i + k) (some 0)).isNone) hx
   obtain ⟨_, as, bs, e, nb⟩ := List.find?_eq_some_iff_append.mp hx
   have hk : k < runEnd t.mask i + 1 - i := by
    have := List.mem_of_find?_eq_some hx
    exact List.mem_range.mp this
   have re : i ≤ runEnd t.mask i := by unfold runEnd; split <;> omega
   refine ⟨k, by omega, jk k (by omega), hp, fun m' hm => ?_⟩
   rw [jk m' (by omega)]
   have : m' ∈ as := by
    have e2 : (as ++ k :: bs)[m']? = some m' := by rw [← e, List.getElem?_range (by omega)]
    have ek : as.length = k := by
     have e3 : (as ++ k :: bs)[as.length]? = some k := by rw [List.getElem?_append_right (Nat.le_refl _), Nat.sub_self]; rfl
     rw [← e, List.getElem?_range] at e3
     ·exact Option.some.inj e3
     ·have := congrArg List.length e
      rw [List.length_range, List.length_append, List.length_cons] at this
      omega
    rw [List.getElem?_append_left (by omega)] at e2
    exact List.mem_of_getElem? e2
   simpa using nb m' this
  | none =>
   rw [hx] at h
   have h : SetTable.layClean.free t.mask owner f (leap t.mask i perturb).1 (leap t.mask i perturb).2 = some j := h
   obtain ⟨m, m1, m2, m3, m4⟩ := ih _ _ j h
   have rt : iter t (runEnd t.mask i - i + 1) (start t.mask i perturb) = start t.mask (leap t.mask i perturb).1 (leap t.mask i perturb).2 := zmf (t := t) _ (start t.mask i perturb) rfl rfl
   have no := List.find?_eq_none.mp hx
   have re : i ≤ runEnd t.mask i := by unfold runEnd; split <;> omega
   refine ⟨(runEnd t.mask i - i + 1) + m, by omega, by rw [iter_add, rt]; exact m2, m3, fun m' hm => ?_⟩
   by_cases hc : m' ≤ runEnd t.mask i - i
   ·rw [jk m' hc]
    exact Bool.eq_false_iff.mpr (no m' (List.mem_range.mpr (by omega)))
   ·obtain ⟨u, rfl⟩ : ∃ u, m' = (runEnd t.mask i - i + 1) + u := ⟨m' - (runEnd t.mask i - i + 1), by omega⟩
    rw [iter_add, rt]
    exact m4 u (by omega)
def zuj (t : SetTable) (owner : Array (Option Nat)) (hf : Nat → Int) (k : Nat) : Prop :=
 ∀ c, c < k → ∃ j, j ≤ t.mask ∧ owner.getD j none = some c ∧ ∃ m, m < 10 * turns t.mask ∧ (iter t m (t.probeStart (hf c))).j = j ∧ ∀ m', m' < m → (owner.getD (iter t m' (t.probeStart (hf c))).j none).isSome = true
theorem zhx {t : SetTable} (h : Int) (m : Nat) : (iter t m (t.probeStart h)).j ≤ t.mask := by
 refine zmk m _ ?_
 show bits h % (t.mask + 1) + (runEnd t.mask (bits h % (t.mask + 1)) - bits h % (t.mask + 1)) ≤ t.mask
 refine zpk _ _ ?_
 have := Nat.mod_lt (bits h) (show 0 < t.mask + 1 by omega)
 omega
theorem zio {t : SetTable} (hf : Nat → Int) : ∀ (hs : List Int) (owner owner' : Array (Option Nat)) (k k' : Nat), owner.size = t.mask + 1 → (∀ i, i < hs.length → hs[i]? = some (hf (k + i))) → zuj t owner hf k →
  hs.foldl (fun acc h => do
   let (owner, k) ← acc
   let j ← SetTable.layClean.free t.mask owner (turns t.mask) (bits h % (t.mask + 1)) (bits h)
   pure (owner.setIfInBounds j (some k), k + 1)) (some (owner, k)) = some (owner', k') → owner'.size = t.mask + 1 ∧ zuj t owner' hf (k + hs.length)
 | [], owner, owner', k, k', h1, _, h3, e => by
  have e : some (owner, k) = some (owner', k') := e
  cases e
  exact ⟨h1, h3⟩
 | h :: hs, owner, owner', k, k', h1, h2, h3, e => by
  rw [List.foldl_cons] at e
  have hh : hf k = h := by have := h2 0 (by simp); simpa using this.symm
  cases hfr : SetTable.layClean.free t.mask owner (turns t.mask) (bits h % (t.mask + 1)) (bits h) with
  | none =>
   exfalso
   have e1 : (do
    let (owner, k) ← some (owner, k)
    let j ← SetTable.layClean.free t.mask owner (turns t.mask) (bits h % (t.mask + 1)) (bits h)
    pure (owner.setIfInBounds j (some k), k + 1)) = (none : Option (Array (Option Nat) × Nat)) := by
    show (SetTable.layClean.free t.mask owner (turns t.mask) (bits h % (t.mask + 1)) (bits h)).bind _ = _
    rw [hfr]; rfl
   rw [e1] at e
   have nn : ∀ l : List Int, l.foldl (fun acc h => do
    let (owner, k) ← acc
    let j ← SetTable.layClean.free t.mask owner (turns t.mask) (bits h % (t.mask + 1)) (bits h)
    pure (owner.setIfInBounds j (some k), k + 1)) (none : Option (Array (Option Nat) × Nat)) = none := by
    intro l
    induction l with
    | nil => rfl
    | cons a l ih => rw [List.foldl_cons]; exact ih
   rw [nn] at e
   cases e
  | some j' =>
   have e1 : (do
    let (owner, k) ← some (owner, k)
    let j ← SetTable.layClean.free t.mask owner (turns t.mask) (bits h % (t.mask + 1)) (bits h)
    pure (owner.setIfInBounds j (some k), k + 1)) = some (owner.setIfInBounds j' (some k), k + 1) := by
    show (SetTable.layClean.free t.mask owner (turns t.mask) (bits h % (t.mask + 1)) (bits h)).bind _ = _
    rw [hfr]; rfl
   rw [e1] at e
   obtain ⟨m, m1, m2, m3, m4⟩ := zlj (t := t) _ _ _ _ hfr
   have m2 : (iter t m (t.probeStart h)).j = j' := m2
   have m4 : ∀ m', m' < m → (owner.getD (iter t m' (t.probeStart h)).j (some 0)).isNone = false := m4
   have jl : j' ≤ t.mask := by rw [← m2]; exact zhx h m
   have hn : owner.getD j' none = none := by
    rw [zhw (by omega) none (some 0)]
    exact Option.isNone_iff_eq_none.mp m3
   have hset : ∀ i, (owner.setIfInBounds j' (some k)).getD i none = if i = j' then some k else owner.getD i none := by
    intro i
    rw [Array.getD_eq_getD_getElem?, Array.getD_eq_getD_getElem?, Array.getElem?_setIfInBounds]
    by_cases e : i = j'
    ·subst e; rw [if_pos rfl, if_pos rfl, if_pos (by omega)]; rfl
    ·rw [if_neg (Ne.symm e), if_neg e]
   have keep : ∀ i, (owner.getD i none).isSome = true → ((owner.setIfInBounds j' (some k)).getD i none).isSome = true := fun i hi => by
    rw [hset]; split
    ·rfl
    ·exact hi
   have L2 : zuj t (owner.setIfInBounds j' (some k)) hf (k + 1) := by
    intro c hc
    by_cases ec : c = k
    ·subst ec
     refine ⟨j', jl, by rw [hset, if_pos rfl], m, m1, by rw [hh]; exact m2, fun m' hm => ?_⟩
     rw [hh]
     refine keep _ ?_
     have := m4 m' hm
     rw [zhw (by have := zhx (t := t) h m'; omega) none (some 0)]
     cases hx : owner.getD (iter t m' (t.probeStart h)).j (some 0) with
     | none => rw [hx] at this; cases this
     | some _ => rfl
    ·obtain ⟨j, j1, j2, m, n1, n2, n3⟩ := h3 c (by omega)
     refine ⟨j, j1, ?_, m, n1, n2, fun m' hm => keep _ (n3 m' hm)⟩
     rw [hset, if_neg (fun z => by rw [z, hn] at j2; cases j2)]
     exact j2
   have := zio hf hs _ owner' (k + 1) k' (by rw [Array.size_setIfInBounds]; exact h1) (fun i hi => by
    have := h2 (i + 1) (by simp; omega)
    rw [List.getElem?_cons_succ] at this
    rw [this, show k + (i + 1) = k + 1 + i by omega]) L2 e
   rw [List.length_cons, show k + (hs.length + 1) = k + 1 + hs.length by omega]
   exact this
theorem fm_get {α β : Type} (f : α → Option β) : ∀ (l : List α), (∀ a ∈ l, (f a).isSome = true) → ∀ i : Nat, (l.filterMap f)[i]? = (l[i]?).bind f
 | [], _, i => by simp
 | a :: l, h, i => by
  obtain ⟨b, hb⟩ := Option.isSome_iff_exists.mp (h a List.mem_cons_self)
  rw [List.filterMap_cons_some hb]
  cases i with
  | zero => simp [hb]
  | succ i => rw [List.getElem?_cons_succ, List.getElem?_cons_succ]; exact fm_get f l (fun x hx => h x (List.mem_cons_of_mem _ hx)) i
theorem zml {β : Type} (f : Nat → Option β) : ∀ l : List Nat, l.Pairwise (· < ·) → ((l.filterMap fun j => (f j).map (j, ·)).map (·.1)).Pairwise (· < ·)
 | [], _ => List.Pairwise.nil
 | a :: l, h => by
  rw [List.pairwise_cons] at h
  cases e : f a with
  | none => rw [List.filterMap_cons_none (by rw [e]; rfl)]; exact zml f l h.2
  | some b =>
   rw [List.filterMap_cons_some (b := (a, b)) (by rw [e]; rfl), List.map_cons, List.pairwise_cons]
   refine ⟨fun x hx => ?_, zml f l h.2⟩
   obtain ⟨⟨j, v⟩, hm, rfl⟩ := List.mem_map.mp hx
   obtain ⟨i, hi, hv⟩ := List.mem_filterMap.mp hm
   cases hx : f i with
   | none => rw [hx] at hv; cases hv
   | some u =>
    rw [hx] at hv
    have hv : some (i, u) = some (j, v) := hv
    cases hv
    exact h.1 _ hi
theorem zpl {β : Type} {f : Nat → Option β} {l : List Nat} {j : Nat} {b : β} (hj : j ∈ l) (hb : f j = some b) : (j, b) ∈ l.filterMap fun j => (f j).map (j, ·) := List.mem_filterMap.mpr ⟨j, hj, by rw [hb]; rfl⟩
end SetT
end
section
set_option Elab.async false
set_option linter.all false
set_option maxRecDepth 100000
namespace DL
open PySem L2
inductive D where
 | non | bl (b : Bool) | int (i : Int) | str (x : Str) | ty (n : String) | cls (c : Str)
 | tup (xs : List D) | lst (xs : List D) | dct (ks : List Key) (vs : List D) | exc (c : Str) (as : List D)
instance : Inhabited D := ⟨.non⟩
inductive R (α : Type) where
 | ok (a : α) | err (e : D) | bad
def R.bind {α β : Type} : R α → (α → R β) → R β
 | .ok a, k => k a
 | .err e, _ => .err e
 | .bad, _ => .bad
def RW {α : Type} (r : R α) (Q : α → Prop) (E : D → Prop) : Prop := match r with
 | .ok a => Q a
 | .err e => E e
 | .bad => False
theorem RW.mono {α : Type} {r : R α} {Q Q' : α → Prop} {E E' : D → Prop} (h : RW r Q E) (hq : ∀ a, r = .ok a → Q a → Q' a) (he : ∀ e, E e → E' e) : RW r Q' E' := by
 cases r with
 | ok a => exact hq a rfl h
 | err e => exact he e h
 | bad => exact h
theorem RW.of_bind {α β : Type} {r : R α} {k : α → R β} {Q : β → Prop} {E : D → Prop} (h : RW (r.bind k) Q E) : RW r (fun a => RW (k a) Q E) E := by
 cases r with
 | ok a => exact h
 | err e => exact h
 | bad => exact h
def zcG : List Str := ["ChalkError", "NoPlace", "Same", "NoFloor", "Endless", "NoDeed", "NoText", "NoName", "TooMany", "NoChange", "NoFrame", "NoValue", "Unlike", "NoRatio", "NoBow", "NoRow"]
def zer (c d : Str) : Option Bool := bif zcG.contains c && zcG.contains d then some (c == d || d == "ChalkError") else none
structure zlk (K : PySem.W.Frag) (mg : Str → Option Value) (c : Str) (C : Addr) : Prop where
 here : mg c = some (.ref C)
 exc : zrK K C
 isi : ∀ d Dd b, zer c d = some b → mg d = some (.ref Dd) → PySem.W.kitOne K (.ref C) (.ref Dd) = some b
 val : PySem.W.kitOne K (.ref C) (.type "ValueError") = some true
 ctc : ∀ d Dd, zer c d = some true → mg d = some (.ref Dd) → PySem.W.exmOne K (.ref C) (.ref Dd) = some true
def zmm (G : Hp) (dct : Option Addr) (vs : List V) : Prop := (dct = none ∧ vs = []) ∨ ∃ dx v, dct = some dx ∧ vs = [v] ∧ G dx = some (.xd [("at", v)])
mutual
def Rep (K : PySem.W.Frag) (mg : Str → Option Value) (G : Hp) : D → V → Prop
 | .non, v => v = .non
 | .bl b, v => v = .bl b
 | .int i, v => v = .int i
 | .str x, v => v = .str x
 | .ty n, v => v = .ty n
 | .cls c, v => ∃ C, v = .ref C ∧ mg c = some (.ref C)
 | .tup ds, v => ∃ a vs, v = .ref a ∧ SqT K G a vs ∧ Reps K mg G ds vs
 | .lst ds, v => ∃ a vs, v = .ref a ∧ SqL K G a vs ∧ Reps K mg G ds vs
 | .dct ks ds, v => ∃ a vs, v = .ref a ∧ Rd G a (.dK (ks.zip vs)) ∧ ks.length = vs.length ∧ Reps K mg G ds vs
 | .exc c as, v => ∃ x C dct vs, v = .ref x ∧ G x = some (zom x C dct) ∧ zlk K mg c C ∧ zmm G dct vs ∧ Reps K mg G as vs
def Reps (K : PySem.W.Frag) (mg : Str → Option Value) (G : Hp) : List D → List V → Prop
 | [], vs => vs = []
 | d :: ds, vs => ∃ v r, vs = v :: r ∧ Rep K mg G d v ∧ Reps K mg G ds r
end
def ExcR (K : PySem.W.Frag) (mg : Str → Option Value) (G : Hp) (e : D) (C : Addr) (dct : Option Addr) : Prop := ∃ c as vs, e = .exc c as ∧ zlk K mg c C ∧ zmm G dct vs ∧ Reps K mg G as vs
section
variable {K : PySem.W.Frag} {mg : Str → Option Value} {G G' H H' : Hp}
theorem zaK.sqT {a : Addr} {xs : List V} (e : zaK G G') (h : SqT K G a xs) : SqT K G' a xs := e.tup h
theorem zaK.rd {a : Addr} {u : HO} (e : zaK G G') (h : Rd G a u) : Rd G' a u := by
 rcases h with h | ⟨o, h⟩
 ·exact .inl (e _ _ h)
 ·exact .inr ⟨o, e _ _ h⟩
theorem zmm.mono {dct : Option Addr} {vs : List V} (e : zaK G G') (h : zmm G dct vs) : zmm G' dct vs := by
 rcases h with h | ⟨dx, v, h1, h2, h3⟩
 ·exact .inl h
 ·exact .inr ⟨dx, v, h1, h2, e _ _ h3⟩
mutual
theorem Rep.mono (e : zaK G G') : ∀ {d : D} {v : V}, Rep K mg G d v → Rep K mg G' d v
 | .non, _, h => h
 | .bl _, _, h => h
 | .int _, _, h => h
 | .str _, _, h => h
 | .ty _, _, h => h
 | .cls _, _, h => h
 | .tup _, _, ⟨a, vs, h1, h2, h3⟩ => ⟨a, vs, h1, zaK.sqT e h2, Reps.mono e h3⟩
 | .lst _, _, ⟨a, vs, h1, h2, h3⟩ => ⟨a, vs, h1, e.seq h2, Reps.mono e h3⟩
 | .dct _ _, _, ⟨a, vs, h1, h2, h3, h4⟩ => ⟨a, vs, h1, zaK.rd e h2, h3, Reps.mono e h4⟩
 | .exc _ _, _, ⟨x, C, dct, vs, h1, h2, h3, h4, h5⟩ => ⟨x, C, dct, vs, h1, e _ _ h2, h3, h4.mono e, Reps.mono e h5⟩
theorem Reps.mono (e : zaK G G') : ∀ {ds : List D} {vs : List V}, Reps K mg G ds vs → Reps K mg G' ds vs
 | [], _, h => h
 | _ :: _, _, ⟨v, r, h1, h2, h3⟩ => ⟨v, r, h1, Rep.mono e h2, Reps.mono e h3⟩
end
theorem Reps.length : ∀ {ds : List D} {vs : List V}, Reps K mg G ds vs → ds.length = vs.length
 | [], _, h => by cases h; rfl
 | _ :: _, _, ⟨v, r, h1, _, h3⟩ => by cases h1; rw [List.length_cons, List.length_cons, Reps.length h3]
theorem Reps.nil : Reps K mg G [] [] := rfl
theorem Reps.cons {d : D} {v : V} {ds : List D} {vs : List V} (h : Rep K mg G d v) (t : Reps K mg G ds vs) : Reps K mg G (d :: ds) (v :: vs) := ⟨v, vs, rfl, h, t⟩
theorem Reps.append : ∀ {ds es : List D} {vs ws : List V}, Reps K mg G ds vs → Reps K mg G es ws → Reps K mg G (ds ++ es) (vs ++ ws)
 | [], _, _, _, h, t => by cases h; exact t
 | _ :: _, _, _, _, ⟨v, r, h1, h2, h3⟩, t => by cases h1; exact ⟨v, r ++ _, rfl, h2, h3.append t⟩
theorem Reps.get : ∀ {ds : List D} {vs : List V} {i : Nat} {d : D}, Reps K mg G ds vs → ds[i]? = some d → ∃ v, vs[i]? = some v ∧ Rep K mg G d v
 | [], _, _, _, _, e => by simp at e
 | _ :: _, _, 0, _, ⟨v, r, h1, h2, _⟩, e => by simp at e; subst e; subst h1; exact ⟨v, rfl, h2⟩
 | _ :: ds, _, i + 1, d, ⟨v, r, h1, _, h3⟩, e => by
  subst h1
  obtain ⟨w, e1, e2⟩ := Reps.get (i := i) (d := d) h3 (by simpa using e)
  exact ⟨w, by simpa using e1, e2⟩
theorem Reps.set : ∀ {ds : List D} {vs : List V} {d : D} {v : V} (i : Nat), Reps K mg G ds vs → Rep K mg G d v → Reps K mg G (ds.set i d) (vs.set i v)
 | [], _, _, _, _, h, _ => by cases h; exact rfl
 | _ :: _, _, _, _, 0, ⟨_, r, h1, _, h3⟩, h => by subst h1; exact ⟨_, r, rfl, h, h3⟩
 | _ :: _, _, _, _, i + 1, ⟨w, r, h1, h2, h3⟩, h => by subst h1; exact ⟨w, _, rfl, h2, h3.set i h⟩
theorem Reps.drop : ∀ {ds : List D} {vs : List V} (n : Nat), Reps K mg G ds vs → Reps K mg G (ds.drop n) (vs.drop n)
 | _, _, 0, h => h
 | [], _, _ + 1, h => by cases h; exact rfl
 | _ :: _, _, n + 1, ⟨_, _, h1, _, h3⟩ => by subst h1; exact h3.drop n
theorem Reps.take : ∀ {ds : List D} {vs : List V} (n : Nat), Reps K mg G ds vs → Reps K mg G (ds.take n) (vs.take n)
 | _, _, 0, h => by simp only [List.take_zero]; exact rfl
 | [], _, _ + 1, h => by cases h; exact rfl
 | _ :: _, _, n + 1, ⟨v, _, h1, h2, h3⟩ => by subst h1; exact ⟨v, _, rfl, h2, h3.take n⟩
theorem Reps.ints (ns : List Int) : Reps K mg G (ns.map D.int) (ns.map V.int) := by
 induction ns with
 | nil => exact rfl
 | cons n r ih => exact ⟨_, _, rfl, rfl, ih⟩
theorem Reps.of_ints : ∀ {ns : List Int} {vs : List V}, Reps K mg G (ns.map D.int) vs → vs = ns.map V.int
 | [], _, h => h
 | _ :: _, _, ⟨_, _, h1, h2, h3⟩ => by subst h1; cases h2; rw [Reps.of_ints h3]; rfl
theorem Reps.of_bools : ∀ {bs : List Bool} {vs : List V}, Reps K mg G (bs.map D.bl) vs → vs = bs.map V.bl
 | [], _, h => h
 | _ :: _, _, ⟨_, _, h1, h2, h3⟩ => by subst h1; cases h2; rw [Reps.of_bools h3]; rfl
theorem Reps.at {ds : List D} {vs : List V} {i : Int} {d : D} (h : Reps K mg G ds vs) (e : atI ds i = some d) : ∃ v, atI vs i = some v ∧ Rep K mg G d v := by
 unfold atI at e ⊢
 rw [h.length] at e
 cases q : ixN vs.length i with
 | none => rw [q] at e; cases e
 | some j => rw [q] at e; exact h.get e
structure zbA (G H G' H' : Hp) : Prop where
 g : zaK G G'
 h : zaK H H'
 e : zaK G' H'
 c : ∀ a o, H a = some o → G a = none → G' a = none
theorem zbA.refl (e : zaK G H) : zbA G H G H := ⟨zaK.refl _, zaK.refl _, e, fun _ _ _ h => h⟩
theorem zbA.trans {G1 H1 : Hp} (a : zbA G H G1 H1) (b : zbA G1 H1 G' H') : zbA G H G' H' :=
 ⟨a.g.trans b.g, a.h.trans b.h, b.e, fun x o p q => b.c x o (a.h x o p) (a.c x o p q)⟩
theorem zci {p : Addr} {o : HO} (h : H p = none) : zaK H (upd H p o) := zok h o
theorem zbA.pub {p : Addr} {o : HO} (e : zaK G H) (h : H p = none) : zbA G H (upd G p o) (upd H p o) := by
 refine ⟨zci (e.free h), zci h, fun b u q => ?_, fun a u p1 q1 => ?_⟩
 ·by_cases hb : b = p
  ·subst hb; rw [zau] at q ⊢; exact q
  ·rw [zax hb] at q ⊢; exact e b u q
 ·have hb : a ≠ p := zan p1 h
  rw [zax hb]; exact q1
theorem zbA.hid {p : Addr} {o : HO} (e : zaK G H) (h : H p = none) : zbA G H G (upd H p o) :=
 ⟨zaK.refl _, zci h, e.trans (zci h), fun _ _ _ q => q⟩
theorem zbA.heap (e : zaK G H) (h : zaK H H') : zbA G H G H' := ⟨zaK.refl _, h, e.trans h, fun _ _ _ q => q⟩
end
abbrev DSt := List (Option D)
structure Ok0 (K : PySem.W.Frag) (mg : Str → Option Value) (σd : DSt) (σ : St) (G H : Hp) : Prop where
 ext : zaK G H
 len : σd.length = σ.length
 val : ∀ (i : Nat) (d : D), σd[i]? = some (some d) → ∃ v, σ[i]? = some (some v) ∧ Rep K mg G d v
section
variable {K : PySem.W.Frag} {mg : Str → Option Value} {G G' H H' : Hp} {σd : DSt} {σ : St}
theorem Ok0.step (o : Ok0 K mg σd σ G H) (s : zbA G H G' H') : Ok0 K mg σd σ G' H' :=
 ⟨s.e, o.len, fun i d q => let ⟨v, h1, h2⟩ := o.val i d q; ⟨v, h1, h2.mono s.g⟩⟩
theorem Ok0.set {i : Nat} {d : D} {v : V} (o : Ok0 K mg σd σ G H) (h : Rep K mg G d v) : Ok0 K mg (σd.set i (some d)) (σ.set i (some v)) G H := by
 refine ⟨o.ext, by simp [o.len], fun j e q => ?_⟩
 by_cases hj : j = i
 ·subst hj
  have hl : j < σd.length := by have := (List.getElem?_eq_some_iff.mp q).1; simpa using this
  rw [List.getElem?_set_self hl] at q
  cases q
  exact ⟨v, by rw [List.getElem?_set_self (by rw [← o.len]; exact hl)], h⟩
 ·rw [List.getElem?_set_ne (Ne.symm hj)] at q ⊢
  exact o.val j e q
theorem Ok0.cons {x : Option D} {y : Option V} (o : Ok0 K mg σd σ G H) (h : ∀ d, x = some d → ∃ v, y = some v ∧ Rep K mg G d v) : Ok0 K mg (x :: σd) (y :: σ) G H := by
 refine ⟨o.ext, by simp [o.len], fun j e q => ?_⟩
 cases j with
 | zero =>
  have q' : x = some e := by simpa using q
  obtain ⟨v, h1, h2⟩ := h e q'
  exact ⟨v, by simp [h1], h2⟩
 | succ j => exact o.val j e (by simpa using q)
theorem Ok0.nones (o : Ok0 K mg σd σ G H) : ∀ k : Nat, Ok0 K mg (List.replicate k none ++ σd) (List.replicate k none ++ σ) G H
 | 0 => o
 | k + 1 => (Ok0.nones o k).cons (x := none) (y := none) (fun d e => by cases e)
end
section
variable (K : PySem.W.Frag) (mg : Str → Option Value) (E : XK)
def zaq (Q : VK) (G H : Hp) (d : D) : Prop := ∀ v G' H', zbA G H G' H' → Rep K mg G' d v → Q v H'
def zes (Q : Bool → Hp → Prop) (G H : Hp) (b : Bool) : Prop := ∀ G' H', zbA G H G' H' → Q b H'
def zjV (Q : List V → Hp → Prop) (G H : Hp) (ds : List D) : Prop := ∀ vs G' H', zbA G H G' H' → Reps K mg G' ds vs → Q vs H'
def zdz (Q : VK) (G H : Hp) (ds : List D) : Prop := ∀ a vs G' H', zbA G H G' H' → H a = none → H' a = some (.lst vs) → G' a = none → Reps K mg G' ds vs → Q (.ref a) H'
def zaR (G H : Hp) (e : D) : Prop := ∀ G' H' C dct, zbA G H G' H' → ExcR K mg G' e C dct → E (.ref C) dct H'
def tE (f : DSt → R D) : TE := fun σ H Q => ∃ G σd, Ok0 K mg σd σ G H ∧ RW (f σd) (zaq K mg Q G H) (zaR K mg E G H)
def tT (f : DSt → R Bool) : TT := fun σ H Q => ∃ G σd, Ok0 K mg σd σ G H ∧ RW (f σd) (zes Q G H) (zaR K mg E G H)
def tAr (f : DSt → R (List D)) : TA := fun σ H Q => ∃ G σd, Ok0 K mg σd σ G H ∧ RW (f σd) (zjV K mg Q G H) (zaR K mg E G H)
def tFr (f : DSt → R (List D)) : TE := fun σ H Q => ∃ G σd, Ok0 K mg σd σ G H ∧ RW (f σd) (zdz K mg Q G H) (zaR K mg E G H)
end
def DE (X : Cx) (E : XK) (e : Expr) (f : DSt → R D) : Prop := PE X e (tE X.K X.mg E f)
def DT (X : Cx) (E : XK) (e : Expr) (f : DSt → R Bool) : Prop := PT X e (tT X.K X.mg E f)
def DW (X : Cx) (E : XK) (e : Expr) (f : DSt → R Bool) : Prop := PW X e (tT X.K X.mg E f)
def DA (X : Cx) (E : XK) (es : List Expr) (f : DSt → R (List D)) : Prop := PA X es (tAr X.K X.mg E f)
def DF (X : Cx) (E : XK) (e : Expr) (f : DSt → R (List D)) : Prop := PE X e (tFr X.K X.mg E f)
section
variable {X : Cx} {E : XK} {K : PySem.W.Frag} {mg : Str → Option Value} {G G1 H H1 : Hp}
theorem PE.mono' {e : Expr} {t t' : TE} (h : PE X e t) (m : ∀ σ H Q, t' σ H Q → t σ H Q) : PE X e t' := fun pins s σ H Q I q => h pins s σ H Q I (m σ H Q q)
theorem PT.mono' {e : Expr} {t t' : TT} (h : PT X e t) (m : ∀ σ H Q, t' σ H Q → t σ H Q) : PT X e t' := fun pins s σ H Q I q => h pins s σ H Q I (m σ H Q q)
theorem PW.mono' {e : Expr} {t t' : TT} (h : PW X e t) (m : ∀ σ H Q, t' σ H Q → t σ H Q) : PW X e t' := fun wh pins s σ H Q I q => h wh pins s σ H Q I (m σ H Q q)
theorem PA.mono' {es : List Expr} {t t' : TA} (h : PA X es t) (m : ∀ σ H Q, t' σ H Q → t σ H Q) : PA X es t' := fun pos pins s σ H Q I q => h pos pins s σ H Q I (m σ H Q q)
theorem PS.mono' {st : Stmt} {t t' : TS} (h : PS X st t) (m : ∀ D σ H, t' D σ H → t D σ H) : PS X st t' := fun pins s σ H D I q => h pins s σ H D I (m D σ H q)
theorem PSs.mono' {st : List Stmt} {t t' : TS} (h : PSs X st t) (m : ∀ D σ H, t' D σ H → t D σ H) : PSs X st t' := fun pins s σ H D I q => h pins s σ H D I (m D σ H q)
theorem zaq.step {Q : VK} {d : D} (h : zaq K mg Q G H d) (s : zbA G H G1 H1) : zaq K mg Q G1 H1 d := fun v G' H' s' r => h v G' H' (s.trans s') r
theorem zaR.step {e : D} (h : zaR K mg E G H e) (s : zbA G H G1 H1) : zaR K mg E G1 H1 e := fun G' H' C dct s' r => h G' H' C dct (s.trans s') r
theorem zes.step {Q : Bool → Hp → Prop} {b : Bool} (h : zes Q G H b) (s : zbA G H G1 H1) : zes Q G1 H1 b := fun G' H' s' => h G' H' (s.trans s')
theorem zdz.step {Q : VK} {ds : List D} (h : zdz K mg Q G H ds) (s : zbA G H G1 H1) : zdz K mg Q G1 H1 ds := fun a vs G' H' s' n e g r => h a vs G' H' (s.trans s') (s.h.free n) e g r
theorem zaq.now {Q : VK} {d : D} {v : V} (h : zaq K mg Q G H d) (e : zaK G H) (r : Rep K mg G d v) : Q v H := h v G H (.refl e) r
theorem DF.de {e : Expr} {f : DSt → R (List D)} (h : DF X E e f) : DE X E e (fun σ => (f σ).bind fun ds => .ok (.lst ds)) := by
 refine PE.mono' h fun σ H Q ⟨G, σd, ok, q⟩ => ⟨G, σd, ok, q.of_bind.mono (fun ds _ q => ?_) fun _ z => z⟩
 intro a vs G' H' s n e g r
 have q' : zaq X.K X.mg Q G H (.lst ds) := q
 have sg : zaK G' (upd G' a (.lst vs)) := zci g
 refine q' (.ref a) (upd G' a (.lst vs)) H' ⟨s.g.trans sg, s.h, fun b u p => ?_, fun b u p1 p2 => ?_⟩ ⟨a, vs, rfl, SqL.of zau, r.mono sg⟩
 ·by_cases hb : b = a
  ·subst hb; rw [zau] at p; cases p; exact e
  ·rw [zax hb] at p; exact s.e b u p
 ·have hb : b ≠ a := zan p1 n
  rw [zax hb]; exact s.c b u p1 p2
def zah (i : Nat) : DSt → R D := fun σ => match σ[i]? with
 | some (some d) => .ok d
 | _ => .bad
theorem zab (i : Nat) {x : Str} {pos : Pos} (hN : X.N[i]? = some x := by rfl) (hv : Vis X.env.scope x := by first | exact Or.inl rfl | exact Or.inr (Or.inl rfl) | exact Or.inr (Or.inr rfl)) (hd : (x == ("__debug__" : Str)) = false := by decide)
  (hcd : (x == ("__classdict__" : Str)) = false := by decide) : DE X E (.Name x pos) (zah i) := by
 refine PE.mono' (pv i hN hv hd hcd) fun σ H Q ⟨G, σd, ok, q⟩ => ?_
 unfold zah at q
 split at q
 ·rename_i d e
  obtain ⟨v, h1, h2⟩ := ok.val i d e
  exact ⟨v, h1, zaq.now q ok.ext h2⟩
 ·exact q.elim
def eC (d : D) : DSt → R D := fun _ => .ok d
theorem zae {i j pos} : DE X E (.Constant (.int i) j pos) (eC (.int i)) := PE.mono' zrV fun _ _ _ ⟨_, _, ok, q⟩ => zaq.now q ok.ext rfl
theorem zdu {b j pos} : DE X E (.Constant (.bool b) j pos) (eC (.bl b)) := PE.mono' ztJ fun _ _ _ ⟨_, _, ok, q⟩ => zaq.now q ok.ext rfl
theorem zd3 {j pos} : DE X E (.Constant .none j pos) (eC .non) := PE.mono' zrW fun _ _ _ ⟨_, _, ok, q⟩ => zaq.now q ok.ext rfl
theorem zg0 {x j pos} : DE X E (.Constant (.str x) j pos) (eC (.str x)) := PE.mono' zrX fun _ _ _ ⟨_, _, ok, q⟩ => zaq.now q ok.ext rfl
theorem zmn {x : Str} {d : D} {v : V} {u : Value} {pos : Pos} (hm : X.mg x = some u) (r : zbz v u) (rp : ∀ G, Rep X.K X.mg G d v) (hg : Gl X x := by rfl) (hd : (x == ("__debug__" : Str)) = false := by decide) : DE X E (.Name x pos) (eC d) :=
 PE.mono' (zqr hg hm r hd) fun _ _ _ ⟨_, _, ok, q⟩ => zaq.now q ok.ext (rp _)
theorem zcg {x : Str} {C : Addr} {pos : Pos} (hm : X.mg x = some (.ref C)) (hg : Gl X x := by rfl) (hd : (x == ("__debug__" : Str)) = false := by decide) : DE X E (.Name x pos) (eC (.cls x)) :=
 zmn hm (v := .ref C) rfl (fun _ => ⟨C, rfl, hm⟩) hg hd
theorem zgF {x : Str} {n : String} {pos : Pos} (hm : X.mg x = none) (hv : bootBuiltins x = some (.type n) := by rfl) (hg : Gl X x := by rfl) (hn : x ≠ "__name__" := by decide) (hd : (x == ("__debug__" : Str)) = false := by decide) : DE X E (.Name x pos) (eC (.ty n)) :=
 PE.mono' (zqs hg hm hv (v := .ty n) rfl hn hd) fun _ _ _ ⟨_, _, ok, q⟩ => zaq.now q ok.ext rfl
def zuk {α : Type} : DSt → R α := fun _ => .bad
def OpD (K : PySem.W.Frag) (mg : Str → Option Value) (r : R2) (g : D → D → R D) : Prop :=
 ∀ (G H : Hp) (a b : D) (x y : V) (Q : VK), zaK G H → Rep K mg G a x → Rep K mg G b y → RW (g a b) (zaq K mg Q G H) (fun _ => False) → r x y H Q
def eOp (g : D → D → R D) (fa fb : DSt → R D) : DSt → R D := fun σ => (fa σ).bind fun x => (fb σ).bind fun y => g x y
theorem zce {f : DSt → R D} {α : Type} {k : D → R α} {σ : St} {H : Hp} {Q : VK} {P : Hp → Hp → α → Prop} {G : Hp} {σd : DSt}
  (ok : Ok0 K mg σd σ G H) (q : RW ((f σd).bind k) (P G H) (zaR K mg E G H))
  (h : ∀ d v G' H', zbA G H G' H' → Ok0 K mg σd σ G' H' → Rep K mg G' d v → RW (k d) (P G H) (zaR K mg E G' H') → Q v H') : tE K mg E f σ H Q :=
 ⟨G, σd, ok, q.of_bind.mono (fun d _ q v G' H' s r => h d v G' H' s (ok.step s) r (q.mono (fun _ _ z => z) fun e z => z.step s)) fun _ z => z⟩
theorem noX {α : Type} {r : R α} {Q : α → Prop} {E' : D → Prop} (hr : ∀ e, r ≠ .err e) (h : RW r Q E') : RW r Q (fun _ => False) := by
 cases r with
 | ok a => exact h
 | err e => exact absurd rfl (hr e)
 | bad => exact h
def zeV (g : D → D → R D) : Prop := ∀ a b e, g a b ≠ .err e
theorem zjW {r : R2} {g : D → D → R D} (hd : OpD X.K X.mg r g) (hn : zeV g) {fa fb : DSt → R D} {σ : St} {H : Hp} {Q : VK} (h : tE X.K X.mg E (eOp g fa fb) σ H Q) : tOp r (tE X.K X.mg E fa) (tE X.K X.mg E fb) σ H Q := by
 obtain ⟨G, σd, ok, q⟩ := h
 refine zce (P := zaq X.K X.mg Q) ok q fun a x G1 H1 s1 ok1 r1 q1 => ?_
 refine zce (P := fun _ _ => zaq X.K X.mg Q G H) ok1 q1 fun b y G2 H2 s2 ok2 r2 q2 => ?_
 exact hd G2 H2 a b x y Q ok2.ext (r1.mono s2.g) r2 (noX (hn a b) (q2.mono (fun _ _ z => z.step (s1.trans s2)) fun _ z => z))
variable {a b c : Expr} {fa fb fc : DSt → R D} {pos : Pos}
theorem zjm {op : Operator} {r : R2} {g : D → D → R D} (ho : OpR X (binaryOp op) r) (hd : OpD X.K X.mg r g) (hn : zeV g) (ha : DE X E a fa) (hb : DE X E b fb) : DE X E (.BinOp a op b pos) (eOp g fa fb) :=
 PE.mono' (zse ho ha hb) fun _ _ _ h => zjW hd hn h
theorem zsF {op : CmpOp} {r : R2} {g : D → D → R D} (ho : OpR X (compareOp op) r) (hd : OpD X.K X.mg r g) (hn : zeV g) (ha : DE X E a fa) (hb : DE X E b fb) (hm : behindInMarks op b = false := by first | exact zak _ (by decide) (by decide) | rfl) : DE X E (.Compare a [op] [b] pos) (eOp g fa fb) :=
 PE.mono' (zqA ho ha hb hm) fun _ _ _ h => zjW hd hn h
def asB : D → R Bool
 | .bl b => .ok b
 | _ => .bad
def zaB (f : DSt → R D) : DSt → R Bool := fun σ => (f σ).bind asB
theorem zhy {t : TE} {f : DSt → R D} (h : ∀ σ H Q, tE X.K X.mg E f σ H Q → t σ H Q) {σ : St} {H : Hp} {Q : Bool → Hp → Prop} (q : tT X.K X.mg E (zaB f) σ H Q) : zqB t σ H Q := by
 obtain ⟨G, σd, ok, q⟩ := q
 refine h σ H _ ⟨G, σd, ok, q.of_bind.mono (fun d _ q v G' H' s r => ?_) fun _ z => z⟩
 cases d with
 | bl k => cases r; exact ⟨k, rfl, (show zes Q G H k from q) G' H' s⟩
 | _ => exact (show False from q).elim
theorem zsG {op : CmpOp} {r : R2} {g : D → D → R D} (ho : OpR X (compareOp op) r) (hd : OpD X.K X.mg r g) (hn : zeV g) (ha : DE X E a fa) (hb : DE X E b fb) (hm : behindInMarks op b = false := by first | exact zak _ (by decide) (by decide) | rfl) : DT X E (.Compare a [op] [b] pos) (zaB (eOp g fa fb)) :=
 PT.mono' (zqC ho ha hb hm) fun _ _ _ q => zhy (fun _ _ _ h => zjW hd hn h) q
def zg1 (g g' : D → D → R D) (fa fb fc : DSt → R D) : DSt → R D := fun σ => (fa σ).bind fun x => (fb σ).bind fun y => (g x y).bind fun z => (asB z).bind fun k => bif k then (fc σ).bind fun w => g' y w else .ok (.bl false)
theorem zmo {r r' : R2} {g g' : D → D → R D} (hd : OpD X.K X.mg r g) (hn : zeV g) (hd' : OpD X.K X.mg r' g') (hn' : zeV g') {σ : St} {H : Hp} {Q : VK} (h : tE X.K X.mg E (zg1 g g' fa fb fc) σ H Q) :
  zpg r r' (tE X.K X.mg E fa) (tE X.K X.mg E fb) (tE X.K X.mg E fc) σ H Q := by
 obtain ⟨G, σd, ok, q⟩ := h
 refine zce (P := zaq X.K X.mg Q) ok q fun a x G1 H1 s1 ok1 r1 q1 => ?_
 refine zce (P := fun _ _ => zaq X.K X.mg Q G H) ok1 q1 fun b y G2 H2 s2 ok2 r2 q2 => ?_
 refine hd G2 H2 a b x y _ ok2.ext (r1.mono s2.g) r2 ?_
 have s12 := s1.trans s2
 cases ez : g a b with
 | bad => rw [ez] at q2; exact q2.elim
 | err e => exact absurd ez (hn a b e)
 | ok z =>
  rw [ez] at q2
  intro v G3 H3 s3 r3
  cases z with
  | bl k =>
   cases r3
   have ok3 := ok2.step s3
   have s13 := s12.trans s3
   refine ⟨k, rfl, ?_⟩
   cases k with
   | false =>
    rw [if_neg Bool.false_ne_true]
    have q3 : zaq X.K X.mg Q G H (.bl false) := q2
    exact q3 _ G3 H3 s13 rfl
   | true =>
    rw [if_pos rfl]
    have q3 : RW ((fc σd).bind fun w => g' b w) (zaq X.K X.mg Q G H) (zaR X.K X.mg E G2 H2) := q2
    refine zce (k := fun w => g' b w) (P := fun _ _ => zaq X.K X.mg Q G H) ok3 (q3.mono (fun _ _ z => z) fun _ z => z.step s3) fun c w G4 H4 s4 ok4 r4 q4 => ?_
    exact hd' G4 H4 b c y w Q ok4.ext (r2.mono (s3.g.trans s4.g)) r4 (noX (hn' b c) (q4.mono (fun _ _ z => z.step (s13.trans s4)) fun _ z => z))
  | _ => exact (show False from q2).elim
theorem zow {op op' : CmpOp} {r r' : R2} {g g' : D → D → R D} (ho : OpR X (compareOp op) r) (hd : OpD X.K X.mg r g) (hn : zeV g) (ho' : OpR X (compareOp op') r') (hd' : OpD X.K X.mg r' g') (hn' : zeV g') (ha : DE X E a fa) (hb : DE X E b fb) (hc : DE X E c fc)
  (hm : lastMarks [op, op'] [b, c] = false := by with_unfolding_all rfl) : DT X E (.Compare a [op, op'] [b, c] pos) (zaB (zg1 g g' fa fb fc)) :=
 PT.mono' (zob ho ho' ha hb hc hm) fun _ _ _ q => zhy (fun _ _ _ h => zmo hd hn hd' hn' h) q
theorem zbW {e : Expr} {f : DSt → R D} (h : DE X E e f) (he : ∀ whole, isTrue e X.env whole = (do let v ← whole; standAt e.pos; holding [v] (truthy v)) := by intro _; rfl) : DT X E e (zaB f) :=
 PT.mono' (zrY h he) fun σ H Q q => zhy (t := tE X.K X.mg E f) (fun _ _ _ h => h) q
theorem DW.dt {e : Expr} {f : DSt → R Bool} (h : DW X E e f) : DT X E e f := h _
variable {za4 : List Expr} {ga gb : DSt → R Bool}
def ztB (fa fb : DSt → R Bool) : DSt → R Bool := fun σ => (fa σ).bind fun k => bif k then fb σ else .ok false
def eOr (fa fb : DSt → R Bool) : DSt → R Bool := fun σ => (fa σ).bind fun k => bif k then .ok true else fb σ
def zfx (fa : DSt → R Bool) : DSt → R Bool := fun σ => (fa σ).bind fun k => .ok (!k)
theorem zjn {f : DSt → R Bool} {α : Type} {k : Bool → R α} {σ : St} {H : Hp} {Q : Bool → Hp → Prop} {P : α → Prop} {G : Hp} {σd : DSt}
  (ok : Ok0 K mg σd σ G H) (q : RW ((f σd).bind k) P (zaR K mg E G H))
  (h : ∀ b G' H', zbA G H G' H' → Ok0 K mg σd σ G' H' → RW (k b) P (zaR K mg E G' H') → Q b H') : tT K mg E f σ H Q :=
 ⟨G, σd, ok, q.of_bind.mono (fun d _ q G' H' s => h d G' H' s (ok.step s) (q.mono (fun _ _ z => z) fun e z => z.step s)) fun _ z => z⟩
theorem zmp (ha : DT X E a ga) : DW X E (.BoolOp .And [a] pos) ga := zqt ha
theorem zet (ha : DT X E a ga) : DW X E (.BoolOp .Or [a] pos) ga := zrZ ha
theorem zpm (ha : DT X E a ga) (hb : DW X E (.BoolOp .And (b :: za4) pos) gb) : DW X E (.BoolOp .And (a :: b :: za4) pos) (ztB ga gb) := by
 refine PW.mono' (zr0 ha hb) fun σ H Q ⟨G, σd, ok, q⟩ => ?_
 refine zjn ok q fun k G' H' s ok' q' => ?_
 cases k with
 | true => rw [if_pos rfl]; exact ⟨G', σd, ok', q'.mono (fun _ _ z => z.step s) fun _ z => z⟩
 | false => rw [if_neg Bool.false_ne_true]; exact (show zes Q G H false from q') G' H' s
theorem zhz (ha : DT X E a ga) (hb : DW X E (.BoolOp .Or (b :: za4) pos) gb) : DW X E (.BoolOp .Or (a :: b :: za4) pos) (eOr ga gb) := by
 refine PW.mono' (ztK ha hb) fun σ H Q ⟨G, σd, ok, q⟩ => ?_
 refine zjn ok q fun k G' H' s ok' q' => ?_
 cases k with
 | true => rw [if_pos rfl]; exact (show zes Q G H true from q') G' H' s
 | false => rw [if_neg Bool.false_ne_true]; exact ⟨G', σd, ok', q'.mono (fun _ _ z => z.step s) fun _ z => z⟩
theorem zb6 (ha : DT X E a ga) : DT X E (.UnaryOp .Not a pos) (zfx ga) := by
 refine PT.mono' (zr1 ha) fun σ H Q ⟨G, σd, ok, q⟩ => ?_
 exact zjn ok q fun k G' H' s _ q' => (show zes Q G H (!k) from q') G' H' s
def zqV (fa fb : DSt → R D) : DSt → R D := fun σ => (fa σ).bind fun x => (asB x).bind fun k => bif k then fb σ else .ok (.bl false)
def vOr (fa fb : DSt → R D) : DSt → R D := fun σ => (fa σ).bind fun x => (asB x).bind fun k => bif k then .ok (.bl true) else fb σ
def ztC (fa : DSt → R D) : DSt → R D := fun σ => (fa σ).bind fun x => (asB x).bind fun k => .ok (.bl !k)
theorem ziq {op} {f : DSt → R D} (h : DE X E a f) : DE X E (.BoolOp op [a] pos) f := zr2 h
theorem zir (ha : DE X E a fa) (hb : DE X E (.BoolOp .And (b :: za4) pos) fb) : DE X E (.BoolOp .And (a :: b :: za4) pos) (zqV fa fb) := by
 refine PE.mono' (zr3 ha hb) fun σ H Q ⟨G, σd, ok, q⟩ => ?_
 refine zce (P := zaq X.K X.mg Q) ok q fun d v G' H' s ok' r q' => ?_
 cases d with
 | bl k =>
  cases r
  refine ⟨k, rfl, ?_⟩
  cases k with
  | true => rw [if_pos rfl]; exact ⟨G', σd, ok', q'.mono (fun _ _ z => z.step s) fun _ z => z⟩
  | false => rw [if_neg Bool.false_ne_true]; exact (show zaq X.K X.mg Q G H (.bl false) from q') _ G' H' s rfl
 | _ => exact (show False from q').elim
theorem zpn (ha : DE X E a fa) : DE X E (.UnaryOp .Not a pos) (ztC fa) := by
 refine PE.mono' (zr4 ha) fun σ H Q ⟨G, σd, ok, q⟩ => ?_
 refine zce (P := zaq X.K X.mg Q) ok q fun d v G' H' s ok' r q' => ?_
 cases d with
 | bl k => cases r; exact ⟨k, rfl, (show zaq X.K X.mg Q G H (.bl !k) from q') _ G' H' s rfl⟩
 | _ => exact (show False from q').elim
def eIf (c : DSt → R Bool) (fa fb : DSt → R D) : DSt → R D := fun σ => (c σ).bind fun k => bif k then fa σ else fb σ
def UnD (K : PySem.W.Frag) (mg : Str → Option Value) (r : V → Hp → VK → Prop) (g : D → R D) : Prop :=
 ∀ (G H : Hp) (a : D) (x : V) (Q : VK), zaK G H → Rep K mg G a x → RW (g a) (zaq K mg Q G H) (fun _ => False) → r x H Q
def eUn (g : D → R D) (fa : DSt → R D) : DSt → R D := fun σ => (fa σ).bind g
theorem zul {op : UnaryOp} {r : V → Hp → VK → Prop} {g : D → R D} (ho : UnR X (unaryOp op) r) (hd : UnD X.K X.mg r g) (hn : ∀ a e, g a ≠ .err e) (ha : DE X E a fa) : DE X E (.UnaryOp op a pos) (eUn g fa) := by
 refine PE.mono' (ztT ho ha) fun σ H Q ⟨G, σd, ok, q⟩ => ?_
 refine zce (P := zaq X.K X.mg Q) ok q fun d v G' H' s ok' r q' => ?_
 exact hd G' H' d v Q ok'.ext r (noX (hn d) (q'.mono (fun _ _ z => z.step s) fun _ z => z))
def zal : DSt → R (List D) := fun _ => .ok []
def zac (fa : DSt → R D) (fs : DSt → R (List D)) : DSt → R (List D) := fun σ => (fa σ).bind fun x => (fs σ).bind fun xs => .ok (x :: xs)
variable {es : List Expr} {fs : DSt → R (List D)}
theorem zad : DA X E [] zal := PA.mono' zph fun σ H Q ⟨G, σd, ok, q⟩ => (show zjV X.K X.mg Q G H [] from q) [] G H (.refl ok.ext) Reps.nil
theorem zaa (ha : DE X E a fa) (hr : DA X E es fs) (hs : starEach (a :: es) X.env = (false, eval a X.env) :: starEach es X.env := by rfl) : DA X E (a :: es) (zac fa fs) := by
 refine PA.mono' (zlU ha hr hs) fun σ H Q ⟨G, σd, ok, q⟩ => ?_
 refine zce (P := zjV X.K X.mg Q) ok q fun d v G' H' s ok' r q' => ?_
 refine ⟨G', σd, ok', q'.of_bind.mono (fun ds _ z vs G2 H2 s2 r2 => ?_) fun _ z => z⟩
 exact (show zjV X.K X.mg Q G H (d :: ds) from z) _ G2 H2 (s.trans s2) (Reps.cons (r.mono s2.g) r2)
def few (n : Nat) : Bool := decide (n ≤ 1000)
theorem zmq {n : Nat} (h : few n = true) : n ≤ sizeLine := zuc (of_decide_eq_true h)
def zfk (fs : DSt → R (List D)) : DSt → R D := fun σ => (fs σ).bind fun ds => bif few ds.length then .ok (.tup ds) else .bad
theorem zmr {α : Type} {k : List D → R α} {σ : St} {H : Hp} {Q : List V → Hp → Prop} {P : α → Prop} {G : Hp} {σd : DSt}
  (ok : Ok0 K mg σd σ G H) (q : RW ((fs σd).bind k) P (zaR K mg E G H))
  (h : ∀ ds vs G' H', zbA G H G' H' → Ok0 K mg σd σ G' H' → Reps K mg G' ds vs → RW (k ds) P (zaR K mg E G' H') → Q vs H') : tAr K mg E fs σ H Q :=
 ⟨G, σd, ok, q.of_bind.mono (fun ds _ q vs G' H' s r => h ds vs G' H' s (ok.step s) r (q.mono (fun _ _ z => z) fun e z => z.step s)) fun _ z => z⟩
theorem zbR {x1} (h : DA X E es fs) : DE X E (.Tuple es x1 pos) (zfk fs) := by
 refine PE.mono' (zsl h) fun σ H Q ⟨G, σd, ok, q⟩ => ?_
 refine zmr (P := zaq X.K X.mg Q G H) ok q fun ds vs G' H' s ok' r q' => ?_
 cases hf : few ds.length with
 | false => rw [hf] at q'; exact (show False from q').elim
 | true =>
  rw [hf] at q'
  have q2 : zaq X.K X.mg Q G H (.tup ds) := q'
  refine ⟨by rw [← r.length]; exact zmq hf, fun p hp => ?_⟩
  have s2 : zbA G' H' (upd G' p (.tup vs)) (upd H' p (.tup vs)) := .pub ok'.ext hp
  exact q2 _ _ _ (s.trans s2) ⟨p, vs, rfl, SqT.of zau, r.mono s2.g⟩
def zfl (fs : DSt → R (List D)) : DSt → R (List D) := fun σ => (fs σ).bind fun ds => bif few ds.length then .ok ds else .bad
theorem zbq (h : DA X E es fs) : DF X E (.List es pos) (zfl fs) := by
 refine PE.mono' (zsm h) fun σ H Q ⟨G, σd, ok, q⟩ => ?_
 refine zmr (P := zdz X.K X.mg Q G H) ok q fun ds vs G' H' s ok' r q' => ?_
 cases hf : few ds.length with
 | false => rw [hf] at q'; exact (show False from q').elim
 | true =>
  rw [hf] at q'
  have q2 : zdz X.K X.mg Q G H ds := q'
  refine ⟨by rw [← r.length]; exact zmq hf, fun p hp => ?_⟩
  exact q2 p vs G' _ (s.trans (.hid ok'.ext hp)) (s.h.free hp) zau (ok'.ext.free hp) r
def gIx : D → D → R D
 | .tup xs, .int i => match atI xs i with
  | some d => .ok d
  | none => .bad
 | .lst xs, .int i => match atI xs i with
  | some d => .ok d
  | none => .bad
 | _, _ => .bad
theorem zum : zeV gIx := by
 intro a b e h
 cases a <;> cases b <;> simp only [gIx] at h <;> first | exact absurd h (by simp) | (split at h <;> cases h)
theorem zun : OpD K mg (fun x y H Q => rIxL K x y H Q ∨ rIxT K x y H Q) gIx := by
 intro G H a b x y Q e ra rb q
 cases b with
 | int i =>
  cases rb
  cases a with
  | lst xs =>
   obtain ⟨p, vs, rfl, h1, h2⟩ := ra
   cases ed : atI xs i with
   | none => simp only [gIx, ed] at q; exact q.elim
   | some d =>
    simp only [gIx, ed] at q
    obtain ⟨v, h3, h4⟩ := h2.at ed
    exact .inl ⟨p, vs, i, v, rfl, rfl, e.seq h1, h3, zaq.now q e h4⟩
  | tup xs =>
   obtain ⟨p, vs, rfl, h1, h2⟩ := ra
   cases ed : atI xs i with
   | none => simp only [gIx, ed] at q; exact q.elim
   | some d =>
    simp only [gIx, ed] at q
    obtain ⟨v, h3, h4⟩ := h2.at ed
    exact .inr ⟨p, vs, i, v, rfl, rfl, zaK.sqT e h1, h3, zaq.now q e h4⟩
  | _ => exact (show False from q).elim
 | _ => cases a <;> exact (show False from q).elim
theorem zaP (ha : DE X E a fa) (hb : DE X E b fb) (hs : zlZ b := by intro _ _; rfl) : DE X E (.Subscript a b pos) (eOp gIx fa fb) :=
 PE.mono' (zt2 (zqJ.or zsr) ha hb hs) fun _ _ _ h => zjW zun zum h
end
def spD (K : PySem.W.Frag) (mg : Str → Option Value) (m : List D → R D) : Sp := fun vs H Q E => ∃ G ds, zaK G H ∧ Reps K mg G ds vs ∧ RW (m ds) (zaq K mg Q G H) (zaR K mg E G H)
structure zav (P : Program) (w : World) (K : PySem.W.Frag) (mg : Str → Option Value) (base : Heap) (k : Nat) (x : Str) (m : List D → R D) : Prop where
 ex : ∃ (f : Addr) (fd : FuncData) (ps : List Str), zgT P w K mg base (CXe P w) k f fd ps (spD K mg m) ∧ mg x = some (.ref f) ∧ PySem.W.keepIn K (.ref f) = true ∧ za8 K fd ps []
theorem zav.mono {P : Program} {w : World} {K : PySem.W.Frag} {mg : Str → Option Value} {base : Heap} {j k : Nat} {x : Str} {m : List D → R D} (F : zav P w K mg base j x m) (h : j ≤ k) : zav P w K mg base k x m := by
 obtain ⟨f, fd, ps, h1, h2⟩ := F.ex
 exact ⟨f, fd, ps, h1.mono h, h2⟩
structure XC (X : Cx) (E : XK) (k : Nat) : Prop where
 calm : X.calm = true
 room : zfi k X.A
 pass : zh8 (CXe X.prog X.w) X E
def zaE (m : List D → R D) (fs : DSt → R (List D)) : DSt → R D := fun σ => (fs σ).bind m
def zfL (K : PySem.W.Frag) (mg : Str → Option Value) (r : List V → Hp → VK → Prop) (g : List D → R D) : Prop :=
 ∀ (G H : Hp) (ds : List D) (vs : List V) (Q : VK), zaK G H → Reps K mg G ds vs → RW (g ds) (zaq K mg Q G H) (fun _ => False) → r vs H Q
def R.noerr {α : Type} : R α → R α
 | .ok a => .ok a
 | _ => .bad
def zbB (g : List D → R D) (fs : DSt → R (List D)) : DSt → R D := fun σ => (fs σ).bind fun ds => (g ds).noerr
theorem zcH {α : Type} {r : R α} {Q : α → Prop} {E' : D → Prop} (h : RW r.noerr Q E') : ∃ a, r = .ok a ∧ Q a := by
 cases r with
 | ok a => exact ⟨a, rfl, h⟩
 | err e => exact (show False from h).elim
 | bad => exact (show False from h).elim
section
variable {X : Cx} {E : XK} {k : Nat} {x : Str} {m : List D → R D} {p pos : Pos} {e : Expr} {es : List Expr} {fs : DSt → R (List D)}
theorem zaj (C : XC X E k) (F : zav X.prog X.w X.K X.mg X.base k x m) (ha : DA X E (e :: es) fs) (hg : Gl X x := by rfl) (hdb : (x == ("__debug__" : Str)) = false := by decide)
  (he : starEach (e :: es) X.env = (false, eval e X.env) :: starEach es X.env := by rfl) (hpl : (backTo pos (starEach es X.env)).any (·.1) = false := by rfl) : DE X E (.Call (.Name x p) (e :: es) [] pos) (zaE m fs) := by
 obtain ⟨f, fd, ps, h1, h2, h3, h4⟩ := F.ex
 refine PE.mono' (zqD h1 C.room hg h2 h3 h4 .nil C.pass ha hdb he hpl) fun σ H Q ⟨G, σd, ok, q⟩ => ?_
 refine ⟨G, σd, ok, q.of_bind.mono (fun ds hds z vs G' H' s r => ?_) fun _ z => z⟩
 show spD X.K X.mg m (vs ++ []) H' Q E
 rw [List.append_nil]
 exact ⟨G', ds, s.e, r, z.mono (fun _ _ z => z.step s) fun _ z => z.step s⟩
theorem zg2 {id : String} {r : List V → Hp → VK → Prop} {g : List D → R D} (hc : zcP X (.builtin id) r) (hd : zfL X.K X.mg r g) (hm : X.mg x = none) (hv : bootBuiltins x = some (.builtin id)) (ha : DA X E (e :: es) fs) (hg : Gl X x := by rfl) (hn : x ≠ "__name__" := by decide) (hdb : (x == ("__debug__" : Str)) = false := by decide)
  (he : starEach (e :: es) X.env = (false, eval e X.env) :: starEach es X.env := by rfl) (hpl : (backTo pos (starEach es X.env)).any (·.1) = false := by rfl) : DE X E (.Call (.Name x p) (e :: es) [] pos) (zbB g fs) := by
 refine PE.mono' (zjL hc hg hm hv ha hn hdb he hpl) fun σ H Q ⟨G, σd, ok, q⟩ => ?_
 refine ⟨G, σd, ok, q.of_bind.mono (fun ds _ z vs G' H' s r => ?_) fun _ z => z⟩
 obtain ⟨d, e1, z⟩ := zcH z
 exact hd G' H' ds vs Q s.e r (by rw [e1]; exact z.step s)
theorem zsH {T : String} {r : List V → Hp → VK → Prop} {g : List D → R D} (hc : zcP X (.type T) r) (hd : zfL X.K X.mg r g) (hm : X.mg x = none) (ha : DA X E (e :: es) fs) (hv : bootBuiltins x = some (.type T) := by rfl) (hg : Gl X x := by rfl) (hn : x ≠ "__name__" := by decide) (hdb : (x == ("__debug__" : Str)) = false := by decide)
  (he : starEach (e :: es) X.env = (false, eval e X.env) :: starEach es X.env := by rfl) (hpl : (backTo pos (starEach es X.env)).any (·.1) = false := by rfl) : DE X E (.Call (.Name x p) (e :: es) [] pos) (zbB g fs) := by
 refine PE.mono' (zfE hc hg hm hv ha hn hdb he hpl) fun σ H Q ⟨G, σd, ok, q⟩ => ?_
 refine ⟨G, σd, ok, q.of_bind.mono (fun ds _ z vs G' H' s r => ?_) fun _ z => z⟩
 obtain ⟨d, e1, z⟩ := zcH z
 exact hd G' H' ds vs Q s.e r (by rw [e1]; exact z.step s)
end
def setAll {α : Type} : List (Option α) → List Nat → List α → List (Option α)
 | σ, k :: ks, v :: vs => setAll (σ.set k (some v)) ks vs
 | σ, _, _ => σ
theorem zg3 {α : Type} : ∀ (ks : List Nat) (σ : List (Option α)) (vs : List α), (setAll σ ks vs).length = σ.length
 | [], _, _ => by unfold setAll; rfl
 | _ :: _, _, [] => by unfold setAll; rfl
 | _ :: ks, σ, _ :: vs => by unfold setAll; rw [zg3 ks]; simp
theorem zis {α : Type} {j : Nat} : ∀ (ks : List Nat) (σ : List (Option α)) (vs : List α), j ∉ ks → (setAll σ ks vs)[j]? = σ[j]?
 | [], _, _, _ => by unfold setAll; rfl
 | _ :: _, _, [], _ => by unfold setAll; rfl
 | k :: ks, σ, _ :: vs, h => by
  unfold setAll
  rw [zis ks _ vs fun z => h (List.mem_cons_of_mem _ z), List.getElem?_set_ne (fun z => h (by rw [← z]; exact List.mem_cons_self))]
def tG (K : PySem.W.Frag) (mg : Str → Option Value) (ks : List Nat) (gp : D → R (List D)) : TG := fun v σ H Q => ∃ G d, zaK G H ∧ Rep K mg G d v ∧ RW (gp d) (fun us => ∀ ws, Reps K mg G us ws → Q (setAll σ ks ws) H) (fun _ => False)
def DG (X : Cx) (tg : Expr) (ks : List Nat) (gp : D → R (List D)) : Prop := PG X tg (tG X.K X.mg ks gp)
def zaL : D → R (List D) := fun d => .ok [d]
def zdv (n : Nat) : D → R (List D)
 | .tup ds => bif ds.length == n then .ok ds else .bad
 | .lst ds => bif ds.length == n then .ok ds else .bad
 | _ => .bad
section
variable {X : Cx} {pos : Pos}
theorem PG.mono' {tg : Expr} {t t' : TG} (h : PG X tg t) (m : ∀ v σ H Q, t' v σ H Q → t v σ H Q) : PG X tg t' := fun pins s σ H v u Q I r q => h pins s σ H v u Q I r (m v σ H Q q)
theorem PG.or {tg : Expr} {t t' : TG} (h : PG X tg t) (h' : PG X tg t') : PG X tg (fun v σ H Q => t v σ H Q ∨ t' v σ H Q) := fun pins s σ H v u Q I r q => by
 rcases q with q | q
 ·exact h pins s σ H v u Q I r q
 ·exact h' pins s σ H v u Q I r q
theorem zaM (i : Nat) {x : Str} (hN : X.N.Nodup) (hi : X.N[i]? = some x := by rfl) (hx : Loc X.env.scope x := by first | exact Or.inl rfl | exact Or.inr rfl) (hf : X.fn x = true ∨ X.env.scope.names.lookup x = some .local := by first | exact .inl rfl | exact .inr rfl | assumption) : DG X (.Name x pos) [i] zaL :=
 PG.mono' (zdy hN hi hx hf) fun v σ H Q ⟨G, d, e, r, q⟩ => by
  have q' := (show ∀ ws, Reps X.K X.mg G [d] ws → Q (setAll σ [i] ws) H from q) [v] (Reps.cons r Reps.nil)
  exact q'
def zms : List Nat → TGs
 | [] => gNil
 | i :: r => zr7 (zjg i) (zms r)
theorem zfM : ∀ (ks : List Nat) (vs : List V) (σ : St) (H : Hp) (Q : St → Hp → Prop), vs.length = ks.length → Q (setAll σ ks vs) H → zms ks vs σ H Q
 | [], [], _, _, _, _, q => ⟨rfl, q⟩
 | i :: r, v :: vs, σ, H, Q, hl, q => ⟨v, vs, rfl, zfM r vs _ H Q (by simpa using hl) q⟩
theorem zmt {es : List Expr} {k : Nat} (ks : List Nat) (n : Nat) (hc : X.calm = true) (h : PGs X es (zms ks)) (hk : ks.length = n := by rfl)
  (hn : (assignEach es X.env).length = n := by rfl) (hst : (assignEach es X.env).findIdx? (·.1) = none := by rfl) : DG X (.Tuple es k pos) ks (zdv n) := by
 refine PG.mono' (PG.or (zr8 hc h hn hst) (zsv hc h hn hst)) fun v σ H Q ⟨G, d, e, r, q⟩ => ?_
 cases d with
 | tup ds =>
  obtain ⟨a, vs, rfl, h1, h2⟩ := r
  by_cases hd : ds.length = n
  ·have q' : ∀ ws, Reps X.K X.mg G ds ws → Q (setAll σ ks ws) H := by
    simp only [zdv, hd, beq_self_eq_true, cond_true] at q; exact q
   exact .inl ⟨a, vs, rfl, zaK.sqT e h1, by rw [← h2.length]; exact hd, zfM ks vs σ H Q (by rw [← h2.length, hd, hk]) (q' vs h2)⟩
  ·have : (ds.length == n) = false := by simpa using hd
   simp only [zdv, this, cond_false] at q; exact q.elim
 | lst ds =>
  obtain ⟨a, vs, rfl, h1, h2⟩ := r
  by_cases hd : ds.length = n
  ·have q' : ∀ ws, Reps X.K X.mg G ds ws → Q (setAll σ ks ws) H := by
    simp only [zdv, hd, beq_self_eq_true, cond_true] at q; exact q
   exact .inr ⟨a, vs, rfl, e.seq h1, by rw [← h2.length]; exact hd, zfM ks vs σ H Q (by rw [← h2.length, hd, hk]) (q' vs h2)⟩
  ·have : (ds.length == n) = false := by simpa using hd
   simp only [zdv, this, cond_false] at q; exact q.elim
 | _ => exact (show False from q).elim
end
theorem Ok0.setAll {K : PySem.W.Frag} {mg : Str → Option Value} {G H : Hp} : ∀ {ks : List Nat} {us : List D} {ws : List V} {σd : DSt} {σ : St}, Ok0 K mg σd σ G H → Reps K mg G us ws → Ok0 K mg (setAll σd ks us) (setAll σ ks ws) G H
 | [], _, _, _, _, o, _ => by unfold DL.setAll; exact o
 | _ :: _, [], _, _, _, o, h => by cases h; unfold DL.setAll; exact o
 | k :: ks, _ :: _, _, _, _, o, ⟨v, r, h1, h2, h3⟩ => by subst h1; unfold DL.setAll; exact Ok0.setAll (o.set h2) h3
structure zfN (K : PySem.W.Frag) (mg : Str → Option Value) (J : It) (G : Hp) (ds : List D) : Prop where
 stop : ∀ H, zaK G H → J.stop ds.length H
 turn : ∀ (H : Hp) (i : Nat) (d : D), zaK G H → ds[i]? = some d → J.go i H ∧ ∀ x H', J.yld i H x H' → ∀ G1, zaK G G1 → zaK G1 H → ∃ G2, zbA G1 H G2 H' ∧ Rep K mg G2 d x
def tI (K : PySem.W.Frag) (mg : Str → Option Value) (E : XK) (f : DSt → R (List D)) : TI := fun σ H R => ∃ G σd, Ok0 K mg σd σ G H ∧ RW (f σd) (fun ds => ∀ J G' H', zbA G H G' H' → zfN K mg J G' ds → R J H') (zaR K mg E G H)
def DI (X : Cx) (E : XK) (tg iter : Expr) (f : DSt → R (List D)) : Prop := PI X tg iter (tI X.K X.mg E f)
section
variable {X : Cx} {E : XK} {tg : Expr}
theorem PI.mono' {iter : Expr} {t t' : TI} (h : PI X tg iter t) (m : ∀ σ H R, t' σ H R → t σ H R) : PI X tg iter t' := fun pins s σ H R I q => h pins s σ H R I (m σ H R q)
theorem zfN.list {K : PySem.W.Frag} {mg : Str → Option Value} {G : Hp} {a : Addr} {vs : List V} {ds : List D} (h : SqL K G a vs) (r : Reps K mg G ds vs) : zfN K mg (Itl K a) G ds := by
 refine ⟨fun H e => by rw [r.length]; exact (lgo (e.seq h)).1, fun H i d e hd => ?_⟩
 have hi : i < vs.length := by rw [← r.length]; exact (List.getElem?_eq_some_iff.mp hd).1
 obtain ⟨g1, g2⟩ := (lgo (e.seq h)).2 i hi
 refine ⟨g1, fun x H' y G1 e1 e2 => ?_⟩
 obtain ⟨rfl, hx⟩ := g2 x H' y
 obtain ⟨v, h1, h2⟩ := r.get hd
 rw [hx] at h1; cases h1
 exact ⟨G1, .refl e2, h2.mono e1⟩
theorem zfN.tup {K : PySem.W.Frag} {mg : Str → Option Value} {G : Hp} {a : Addr} {vs : List V} {ds : List D} (h : SqT K G a vs) (r : Reps K mg G ds vs) : zfN K mg (Itt K a) G ds := by
 refine ⟨fun H e => by rw [r.length]; exact (tgo (zaK.sqT e h)).1, fun H i d e hd => ?_⟩
 have hi : i < vs.length := by rw [← r.length]; exact (List.getElem?_eq_some_iff.mp hd).1
 obtain ⟨g1, g2⟩ := (tgo (zaK.sqT e h)).2 i hi
 refine ⟨g1, fun x H' y G1 e1 e2 => ?_⟩
 obtain ⟨rfl, hx⟩ := g2 x H' y
 obtain ⟨v, h1, h2⟩ := r.get hd
 rw [hx] at h1; cases h1
 exact ⟨G1, .refl e2, h2.mono e1⟩
def zg4 (lo : Int) (n : Nat) : List D := (List.range n).map fun (i : Nat) => D.int (lo + (i : Int))
theorem zfN.rng {K : PySem.W.Frag} {mg : Str → Option Value} {G : Hp} (lo : Int) (n : Nat) : zfN K mg (Itr lo n) G (zg4 lo n) := by
 have hl : (zg4 lo n).length = n := by simp [zg4]
 refine ⟨fun H e => by rw [hl]; exact Nat.le_refl _, fun H i d e hd => ?_⟩
 have hi : i < n := by have := (List.getElem?_eq_some_iff.mp hd).1; omega
 refine ⟨hi, fun x H' y G1 e1 e2 => ?_⟩
 obtain ⟨rfl, rfl⟩ := y
 have : d = .int (lo + (i : Int)) := by simp [zg4, hi] at hd; exact hd.symm
 subst this
 exact ⟨G1, .refl e2, rfl⟩
def zqW : D → R (List D)
 | .tup ds => .ok ds
 | .lst ds => .ok ds
 | _ => .bad
def zh4 (f : DSt → R D) : DSt → R (List D) := fun σ => (f σ).bind zqW
theorem zcT {l : Expr} {f : DSt → R D} (hl : DE X E l f) : DI X E tg l (zh4 f) := by
 have hL : PI X tg l (zsb X.K (tE X.K X.mg E f)) := zqx hl
 have hT : PI X tg l (iTup X.K (tE X.K X.mg E f)) := zsc hl
 intro pins s σ H R I ⟨G, σd, ok, q⟩
 cases hf : f σd with
 | bad => unfold zh4 at q; rw [hf] at q; exact (show False from q).elim
 | err e =>
  unfold zh4 at q; rw [hf] at q
  refine hL pins s σ H R I ⟨G, σd, ok, ?_⟩
  rw [hf]; exact q
 | ok d =>
  unfold zh4 at q; rw [hf] at q
  cases d with
  | lst ds =>
   have q' : ∀ J G' H', zbA G H G' H' → zfN X.K X.mg J G' ds → R J H' := q
   refine hL pins s σ H R I ⟨G, σd, ok, ?_⟩
   rw [hf]
   rintro v G' H' st ⟨a, vs, rfl, h1, h2⟩
   exact ⟨a, rfl, ⟨vs, st.e.seq h1⟩, q' _ G' H' st (.list h1 h2)⟩
  | tup ds =>
   have q' : ∀ J G' H', zbA G H G' H' → zfN X.K X.mg J G' ds → R J H' := q
   refine hT pins s σ H R I ⟨G, σd, ok, ?_⟩
   rw [hf]
   rintro v G' H' st ⟨a, vs, rfl, h1, h2⟩
   exact ⟨a, rfl, ⟨vs, zaK.sqT st.e h1⟩, q' _ G' H' st (.tup h1 h2)⟩
  | _ => exact (show False from q).elim
def rOk (i : Int) : Bool := Nat.blt i.natAbs 1073741824
theorem zmu {i : Int} (h : rOk i = true) : -(2 ^ 30) ≤ i ∧ i < 2 ^ 30 := by
 unfold rOk at h
 rw [Nat.blt_eq] at h
 omega
def zit : List D → R (List D)
 | [.int j] => bif rOk j then .ok (zg4 0 j.toNat) else .bad
 | _ => .bad
def zqX : List D → R (List D)
 | [.int i, .int j] => bif rOk i && rOk j then .ok (zg4 i (j - i).toNat) else .bad
 | _ => .bad
def zcU (g : List D → R (List D)) (fs : DSt → R (List D)) : DSt → R (List D) := fun σ => (fs σ).bind g
variable {fs : DSt → R (List D)} {a b c : Expr} {p pos : Pos}
theorem zbr (hm : X.mg "range" = none) (ha : DA X E [a] fs) (hg : Gl X "range" := by rfl) (hs : starEach [a] X.env = [(false, eval a X.env)] := by rfl) : DI X E tg (.Call (.Name "range" p) [a] [] pos) (zcU zit fs) := by
 refine PI.mono' (zlQ hg hm ha hs) fun σ H R ⟨G, σd, ok, q⟩ => ?_
 refine ⟨G, σd, ok, q.of_bind.mono (fun ds _ z vs G' H' s r => ?_) fun _ z => z⟩
 match ds, z, r with
 | [.int j], z, r =>
  obtain rfl := Reps.of_ints (ns := [j]) r
  cases hj : rOk j with
  | false => simp only [zit, hj, cond_false] at z; exact z.elim
  | true =>
   simp only [zit, hj, cond_true] at z
   have := zmu hj
   exact ⟨j, rfl, by omega, by omega, z _ G' H' s (.rng 0 _)⟩
theorem zfO (hm : X.mg "range" = none) (ha : DA X E [a, b] fs) (hg : Gl X "range" := by rfl) (hs : starEach [a, b] X.env = [(false, eval a X.env), (false, eval b X.env)] := by rfl) (hs2 : starEach [b] X.env = [(false, eval b X.env)] := by rfl) :
  DI X E tg (.Call (.Name "range" p) [a, b] [] pos) (zcU zqX fs) := by
 refine PI.mono' (zlR hg hm ha hs hs2) fun σ H R ⟨G, σd, ok, q⟩ => ?_
 refine ⟨G, σd, ok, q.of_bind.mono (fun ds _ z vs G' H' s r => ?_) fun _ z => z⟩
 match ds, z, r with
 | [.int i, .int j], z, r =>
  obtain rfl := Reps.of_ints (ns := [i, j]) r
  cases hj : (rOk i && rOk j) with
  | false => simp only [zqX, hj, cond_false] at z; exact z.elim
  | true =>
   simp only [zqX, hj, cond_true] at z
   rw [Bool.and_eq_true] at hj
   have h1 := zmu hj.1
   have h2 := zmu hj.2
   exact ⟨i, j, rfl, ⟨by omega, by omega, by omega, by omega⟩, z _ G' H' s (.rng i _)⟩
end
def lcD (ks : List Nat) (gp : D → R (List D)) (c : DSt → R Bool) (e : DSt → R D) (σ : DSt) : List D → R (List D)
 | [] => .ok []
 | d :: ds => (gp d).bind fun us => (c (setAll σ ks us)).bind fun k => bif k then (e (setAll σ ks us)).bind fun y => (lcD ks gp c e σ ds).bind fun ys => .ok (y :: ys) else lcD ks gp c e σ ds
def most (n : Nat) : Bool := decide (n < sizeLine)
def eLC (k : Nat) (ks : List Nat) (fi : DSt → R (List D)) (gp : D → R (List D)) (c : DSt → R Bool) (e : DSt → R D) : DSt → R (List D) := fun σ => (fi σ).bind fun ds => bif most ds.length then (lcD ks gp c e (List.replicate k none ++ σ) ds).noerr else .bad
def zcQ : DSt → R Bool := fun _ => .ok true
def DTs (X : Cx) (E : XK) (cs : List Expr) (f : DSt → R Bool) : Prop := PTs X cs (tT X.K X.mg E f)
theorem PTs.mono' {X : Cx} {cs : List Expr} {t t' : TT} (h : PTs X cs t) (m : ∀ σ H Q, t' σ H Q → t σ H Q) : PTs X cs t' := fun pins s σ H Q I q => h pins s σ H Q I (m σ H Q q)
theorem zc8 {X : Cx} {E : XK} : DTs X E [] zcQ := PTs.mono' zqM fun σ H Q ⟨G, σd, ok, q⟩ => (show zes Q G H true from q) G H (.refl ok.ext)
theorem zfP {X : Cx} {E : XK} {c : Expr} {f : DSt → R Bool} (h : DT X E c f) : DTs X E [c] f := zqN h
theorem RW.ok_of {α : Type} {r : R α} {a : α} {Q : α → Prop} {E : D → Prop} (e : r = .ok a) (h : Q a) : RW r Q E := by rw [e]; exact h
theorem zhA {α β : Type} {r : R α} {k : α → R β} {b : β} (h : r.bind k = .ok b) : ∃ a, r = .ok a ∧ k a = .ok b := by
 cases r with
 | ok a => exact ⟨a, rfl, h⟩
 | err e => cases h
 | bad => cases h
section
variable {X : Cx} {E : XK} {tg elt iter : Expr} {ifs : List Expr} {scope : Scope} {pos : Pos} {NY : List Str} {k : Nat} {ks : List Nat} {fi : DSt → R (List D)} {gp : D → R (List D)} {fc : DSt → R Bool} {fe : DSt → R D}
theorem ziu {k : Nat} {ks : List Nat} {σ : St} (h : ks.all (fun i => decide (i < k)) = true) (ws : List V) : zqO (List.replicate k none ++ σ) (setAll (List.replicate k none ++ σ) ks ws) := by
 refine ⟨zg3 _ _ _, fun j v e => ?_⟩
 rw [zis _ _ _ fun hj => ?_]
 ·exact e
 ·have hk : j < k := of_decide_eq_true (List.all_eq_true.mp h j hj)
  rw [List.getElem?_append_left (by simpa using hk), List.getElem?_replicate, if_pos hk] at e
  cases e
theorem zpo {te : TE} {tc : TT} (hk : ks.all (fun i => decide (i < k)) = true) {σ : St} {H : Hp} {Q : VK}
  (h : tFr X.K X.mg E (eLC k ks fi gp fc fe) σ H Q) : tLC k (tI X.K X.mg E fi) (tG X.K X.mg ks gp) (tT X.K X.mg E0 fc) (tE X.K X.mg E0 fe) σ H Q := by
 obtain ⟨G, σd, ok, q⟩ := h
 refine ⟨G, σd, ok, q.of_bind.mono (fun ds _ z J G1 H1 s1 it => ?_) fun _ z => z⟩
 cases hm : most ds.length with
 | false => rw [hm] at z; exact (show False from z).elim
 | true =>
  rw [hm] at z
  obtain ⟨tot, ht, z⟩ := zcH (show RW (lcD ks gp fc fe (List.replicate k none ++ σd) ds).noerr _ _ from z)
  have hlt : ds.length < sizeLine := of_decide_eq_true hm
  have ok1 := ok.step s1
  refine ⟨fun i m ys H' => m = ds.length - i ∧ i ≤ ds.length ∧ ∃ G' yd za4, zbA G1 H1 G' H' ∧ Reps X.K X.mg G' yd ys ∧ yd.length ≤ i ∧ lcD ks gp fc fe (List.replicate k none ++ σd) (ds.drop i) = .ok za4 ∧ tot = yd ++ za4,
   ⟨ds.length, by simp, Nat.zero_le _, G1, [], tot, .refl ok1.ext, Reps.nil, Nat.zero_le _, ht, rfl⟩, ?_⟩
  rintro i m ys H' ⟨rfl, hi, G', yd, za4, s, r, hyl, hr, rfl⟩
  refine ⟨by rw [← r.length]; omega, ?_⟩
  by_cases hlt2 : i < ds.length
  ·right
   obtain ⟨d, hd⟩ : ∃ d, ds[i]? = some d := ⟨ds[i], by simp [hlt2]⟩
   obtain ⟨g1, g2⟩ := it.turn H' i d (s.g.trans s.e) hd
   have hdrop : ds.drop i = d :: ds.drop (i + 1) := by
    rw [List.drop_eq_getElem_cons hlt2]
    congr 1
    exact Option.some.inj ((List.getElem?_eq_getElem hlt2).symm.trans hd)
   rw [hdrop] at hr
   refine ⟨g1, fun ys' H'' => ∃ G' yd za4, zbA G1 H1 G' H'' ∧ Reps X.K X.mg G' yd ys' ∧ yd.length ≤ i + 1 ∧ lcD ks gp fc fe (List.replicate k none ++ σd) (ds.drop (i + 1)) = .ok za4 ∧ _ = yd ++ za4, fun ys' H'' h => ⟨ds.length - (i + 1), by omega, rfl, hlt2, h⟩, fun v H'' hy => ?_⟩
   obtain ⟨G2, s2, rv⟩ := g2 v H'' hy G' s.g s.e
   unfold lcD at hr
   obtain ⟨us, e1, hr⟩ := zhA hr
   obtain ⟨kk, e2, hr⟩ := zhA hr
   have s12 := s.trans s2
   have okN : Ok0 X.K X.mg (List.replicate k none ++ σd) (List.replicate k none ++ σ) G2 H'' := (ok1.step s12).nones k
   refine ⟨G2, d, s2.e, rv, RW.ok_of e1 fun ws rws => ⟨ziu hk ws, ?_⟩⟩
   have okS := okN.setAll (ks := ks) rws
   refine ⟨G2, _, okS, RW.ok_of e2 fun G3 H3 s3 => ?_⟩
   cases kk with
   | false =>
    rw [if_neg Bool.false_ne_true]
    exact ⟨G3, yd, za4, s12.trans s3, r.mono (s2.g.trans s3.g), by omega, hr, rfl⟩
   | true =>
    rw [if_pos rfl]
    obtain ⟨y, e3, hr⟩ := zhA (show (fe (setAll (List.replicate k none ++ σd) ks us)).bind _ = _ from hr)
    obtain ⟨ys2, e4, hr⟩ := zhA hr
    cases hr
    refine ⟨G3, _, okS.step s3, RW.ok_of e3 fun w G4 H4 s4 r4 => ?_⟩
    exact ⟨G4, yd ++ [y], ys2, (s12.trans s3).trans s4, (r.mono ((s2.g.trans s3.g).trans s4.g)).append (Reps.cons r4 Reps.nil), by simp; omega, e4, by simp⟩
  ·left
   have hi2 : i = ds.length := by omega
   subst hi2
   refine ⟨it.stop H' (s.g.trans s.e), fun Dd hD => ?_⟩
   rw [List.drop_length] at hr
   have hre : za4 = [] := by unfold lcD at hr; cases hr; rfl
   subst hre
   rw [List.append_nil] at z
   have st := (s1.trans s)
   exact z Dd ys G' _ (st.trans (.hid st.e hD)) (st.h.free hD) zau (st.e.free hD) r
theorem zhB (C : X.calm = true) (lc : LC X k scope NY) (hk : ks.all (fun i => decide (i < k)) = true) (hi : DI X E tg iter fi)
  (hb : ∀ (s₀ : Shared) (H₀ : Hp) (C : Addr) (ex : List Addr), NY.Nodup → DG (zd1 X scope NY s₀ H₀ C ex) tg ks gp ∧ DTs (zd1 X scope NY s₀ H₀ C ex) E0 ifs fc ∧ DE (zd1 X scope NY s₀ H₀ C ex) E0 elt fe)
  (hs : ∀ x, foldedSetIterable iter X.env x = pure x := by intro _; rfl) : DF X E (.ListComp elt [⟨tg, iter, ifs, 0⟩] scope pos) (eLC k ks fi gp fc fe) :=
 PE.mono' (zua (g := tG X.K X.mg ks gp) (tc := tT X.K X.mg E0 fc) (te := tE X.K X.mg E0 fe) C lc hi (fun s0 H0 Ca ex nd => hb s0 H0 Ca ex nd) hs) fun _ _ _ h => zpo (te := tE X.K X.mg E0 fe) (tc := tT X.K X.mg E0 fc) hk h
end
end DL
end
section
set_option Elab.async false
set_option linter.all false
set_option maxRecDepth 100000
namespace DL
open PySem L2
mutual
def imm : D → Bool
 | .lst _ => false
 | .dct _ _ => false
 | .tup ds => imms ds
 | .exc _ as => imms as
 | .non => true
 | .bl _ => true
 | .int _ => true
 | .str _ => true
 | .ty _ => true
 | .cls _ => true
def imms : List D → Bool
 | [] => true
 | d :: ds => imm d && imms ds
end
structure Ok (K : PySem.W.Frag) (mg : Str → Option Value) (H0 : Hp) (own : List Nat) (σd : DSt) (σ : St) (G H : Hp) : Prop where
 ext : zaK G H
 len : σd.length = σ.length
 val : ∀ (i : Nat) (d : D), i ∉ own → σd[i]? = some (some d) → ∃ v, σ[i]? = some (some v) ∧ Rep K mg G d v
 mine : ∀ (i : Nat) (d : D), i ∈ own → σd[i]? = some (some d) → ∃ a ds vs, σ[i]? = some (some (.ref a)) ∧ d = .lst ds ∧ H a = some (.lst vs) ∧ G a = none ∧ H0 a = none ∧ Reps K mg G ds vs
 dj : ∀ (i j : Nat) (a : Addr) (d d' : D), i ∈ own → j ∈ own → σd[i]? = some (some d) → σd[j]? = some (some d') → σ[i]? = some (some (.ref a)) → σ[j]? = some (some (.ref a)) → i = j
def zfm (own : List Nat) : Nat → DSt → DSt
 | _, [] => []
 | i, d :: ds => (bif own.contains i then none else d) :: zfm own (i + 1) ds
def mask (own : List Nat) (σ : DSt) : DSt := zfm own 0 σ
theorem ziv {own : List Nat} : ∀ (σ : DSt) (k i : Nat) (d : D), (zfm own k σ)[i]? = some (some d) → k + i ∉ own ∧ σ[i]? = some (some d)
 | [], _, _, _, h => by unfold zfm at h; simp at h
 | x :: σ, k, 0, d, h => by
  unfold zfm at h
  simp only [List.getElem?_cons_zero, Option.some.injEq] at h
  cases hc : own.contains k with
  | true => rw [hc] at h; cases h
  | false =>
   rw [hc] at h
   have h' : x = some d := h
   subst h'
   exact ⟨by simpa using hc, rfl⟩
 | x :: σ, k, i + 1, d, h => by
  unfold zfm at h
  have := ziv σ (k + 1) i d (by simpa using h)
  rw [show k + (i + 1) = k + 1 + i by omega]
  exact ⟨this.1, by simpa using this.2⟩
theorem ziw {own : List Nat} : ∀ (σ : DSt) (k : Nat), (zfm own k σ).length = σ.length
 | [], _ => rfl
 | _ :: σ, k => by unfold zfm; simp [ziw σ]
def zqY (own : List Nat) (σd : DSt) (σ : St) (b : Addr) : Prop := ∃ i d, i ∈ own ∧ σd[i]? = some (some d) ∧ σ[i]? = some (some (.ref b))
open Classical in
noncomputable def zpp (own : List Nat) (σd : DSt) (σ : St) (G H : Hp) : Hp := fun b => if zqY own σd σ b then H b else G b
section
variable {K : PySem.W.Frag} {mg : Str → Option Value} {G G' G0 H H' H0 : Hp} {own : List Nat} {σd : DSt} {σ : St}
theorem Ok.masked (o : Ok K mg H0 own σd σ G H) : Ok0 K mg (mask own σd) σ G H :=
 ⟨o.ext, by unfold mask; rw [ziw]; exact o.len, fun i d h => by
  have := ziv σd 0 i d h
  rw [Nat.zero_add] at this
  exact o.val i d this.1 this.2⟩
theorem Ok.zero (o : Ok0 K mg σd σ G H) : Ok K mg H0 [] σd σ G H :=
 ⟨o.ext, o.len, fun i d _ h => o.val i d h, fun i d h => absurd h (by simp), fun i j a d d' h => absurd h (by simp)⟩
theorem Ok.step (o : Ok K mg H0 own σd σ G H) (s : zbA G H G' H') : Ok K mg H0 own σd σ G' H' :=
 ⟨s.e, o.len, fun i d hi h => let ⟨v, h1, h2⟩ := o.val i d hi h; ⟨v, h1, h2.mono s.g⟩, fun i d hi h => by
  obtain ⟨a, ds, vs, h1, h2, h3, h4, h5, h6⟩ := o.mine i d hi h
  exact ⟨a, ds, vs, h1, h2, s.h _ _ h3, s.c _ _ h3 h4, h5, h6.mono s.g⟩, o.dj⟩
theorem Ok.notOwn (o : Ok K mg H0 own σd σ G H) {b : Addr} {u : HO} (h : G b = some u) : ¬ zqY own σd σ b := by
 rintro ⟨i, d, h1, h2, h3⟩
 obtain ⟨a, ds, vs, q1, q2, q3, q4, _⟩ := o.mine i d h1 h2
 rw [q1] at h3
 cases h3
 rw [q4] at h; cases h
theorem Ok.ownLst (o : Ok K mg H0 own σd σ G H) {b : Addr} (h : zqY own σd σ b) : (∃ vs, H b = some (.lst vs)) ∧ G b = none ∧ H0 b = none := by
 obtain ⟨i, d, h1, h2, h3⟩ := h
 obtain ⟨a, ds, vs, q1, q2, q3, q4, q5, _⟩ := o.mine i d h1 h2
 rw [q1] at h3
 cases h3
 exact ⟨⟨vs, q3⟩, q4, q5⟩
theorem Ok.pub (o : Ok K mg H0 own σd σ G H) : Ok0 K mg σd σ (zpp own σd σ G H) H ∧ zaK G (zpp own σd σ G H) := by
 have sg : zaK G (zpp own σd σ G H) := fun b u h => by unfold zpp; rw [if_neg (o.notOwn h)]; exact h
 refine ⟨⟨fun b u h => ?_, o.len, fun i d h => ?_⟩, sg⟩
 ·unfold zpp at h
  split at h
  ·exact h
  ·exact o.ext b u h
 ·by_cases hi : i ∈ own
  ·obtain ⟨a, ds, vs, q1, rfl, q3, q4, q5, q6⟩ := o.mine i d hi h
   refine ⟨_, q1, a, vs, rfl, SqL.of ?_, q6.mono sg⟩
   unfold zpp
   rw [if_pos ⟨i, _, hi, h, q1⟩]; exact q3
  ·obtain ⟨v, h1, h2⟩ := o.val i d hi h
   exact ⟨v, h1, h2.mono sg⟩
theorem Ok.pubStep (o : Ok K mg H0 own σd σ G H) (s0 : zbA G0 H0 G H) : zbA G0 H0 (zpp own σd σ G H) H := by
 refine ⟨s0.g.trans o.pub.2, s0.h, o.pub.1.ext, fun b u h1 h2 => ?_⟩
 unfold zpp
 rw [if_neg fun z => by rw [(o.ownLst z).2.2] at h1; cases h1]
 exact s0.c b u h1 h2
theorem Ok.drop (o : Ok K mg H0 own σd σ G H) (s : zaK H H') : Ok K mg H0 own σd σ G H' :=
 o.step (.heap o.ext s)
theorem zb7 {α : Type} {l : List (Option α)} {i : Nat} {x d : α} (h : (l.set i (some x))[i]? = some (some d)) : d = x ∧ i < l.length := by
 have hl : i < l.length := by have := (List.getElem?_eq_some_iff.mp h).1; simpa using this
 rw [List.getElem?_set_self hl] at h
 cases h
 exact ⟨rfl, hl⟩
theorem Ok.set {i : Nat} {d : D} {v : V} (o : Ok K mg H0 own σd σ G H) (hi : i ∉ own) (h : Rep K mg G d v) : Ok K mg H0 own (σd.set i (some d)) (σ.set i (some v)) G H := by
 have ne : ∀ {j : Nat}, j ∈ own → j ≠ i := fun hj z => hi (z ▸ hj)
 refine ⟨o.ext, by simp [o.len], fun j e hj q => ?_, fun j e hj q => ?_, fun j k a d1 d2 h1 h2 h3 h4 h5 h6 => ?_⟩
 ·by_cases hji : j = i
  ·subst hji
   obtain ⟨rfl, hl⟩ := zb7 q
   exact ⟨v, by rw [List.getElem?_set_self (by rw [← o.len]; exact hl)], h⟩
  ·rw [List.getElem?_set_ne (Ne.symm hji)] at q ⊢
   exact o.val j e hj q
 ·rw [List.getElem?_set_ne (Ne.symm (ne hj))] at q ⊢
  exact o.mine j e hj q
 ·rw [List.getElem?_set_ne (Ne.symm (ne h1))] at h3 h5
  rw [List.getElem?_set_ne (Ne.symm (ne h2))] at h4 h6
  exact o.dj j k a d1 d2 h1 h2 h3 h4 h5 h6
theorem Ok.setAll : ∀ {ks : List Nat} {us : List D} {ws : List V} {σd : DSt} {σ : St}, Ok K mg H0 own σd σ G H → (∀ k ∈ ks, k ∉ own) → Reps K mg G us ws → Ok K mg H0 own (DL.setAll σd ks us) (DL.setAll σ ks ws) G H
 | [], _, _, _, _, o, _, _ => by unfold DL.setAll; exact o
 | _ :: _, [], _, _, _, o, _, h => by cases h; unfold DL.setAll; exact o
 | k :: ks, _ :: _, _, _, _, o, hk, ⟨v, r, h1, h2, h3⟩ => by
  subst h1; unfold DL.setAll
  exact Ok.setAll (o.set (hk k List.mem_cons_self) h2) (fun j hj => hk j (List.mem_cons_of_mem _ hj)) h3
theorem Ok.new {i : Nat} {ds : List D} {vs : List V} {a : Addr} {own' : List Nat} (o : Ok K mg H0 own σd σ G H) (s : zbA G H G' H') (n : H a = none) (e : H' a = some (.lst vs)) (g : G' a = none) (n0 : H0 a = none) (r : Reps K mg G' ds vs)
  (hown : ∀ j, j ∈ own' ↔ j = i ∨ j ∈ own) : Ok K mg H0 own' (σd.set i (some (.lst ds))) (σ.set i (some (.ref a))) G' H' := by
 have o' := o.step s
 have away : ∀ {j : Nat} {d : D}, j ∈ own → j ≠ i → σd[j]? = some (some d) → σ[j]? = some (some (.ref a)) → False := fun {j d} hj _ hd hs => by
  obtain ⟨b, _, _, q1, _, q3, _⟩ := o.mine j d hj hd
  rw [q1] at hs; cases hs
  rw [n] at q3; cases q3
 refine ⟨o'.ext, by simp [o.len], fun j d hj q => ?_, fun j d hj q => ?_, fun j k b d1 d2 h1 h2 h3 h4 h5 h6 => ?_⟩
 ·have hji : j ≠ i := fun z => hj ((hown j).mpr (.inl z))
  rw [List.getElem?_set_ne (Ne.symm hji)] at q ⊢
  exact o'.val j d (fun z => hj ((hown j).mpr (.inr z))) q
 ·by_cases hji : j = i
  ·subst hji
   obtain ⟨rfl, hl⟩ := zb7 q
   exact ⟨a, ds, vs, by rw [List.getElem?_set_self (by rw [← o.len]; exact hl)], rfl, e, g, n0, r⟩
  ·rw [List.getElem?_set_ne (Ne.symm hji)] at q ⊢
   exact o'.mine j d (((hown j).mp hj).resolve_left hji) q
 ·by_cases hji : j = i
  ·by_cases hki : k = i
   ·rw [hji, hki]
   ·subst hji
    obtain ⟨rfl, hl⟩ := zb7 h3
    rw [List.getElem?_set_self (by rw [← o.len]; exact hl)] at h5
    cases h5
    rw [List.getElem?_set_ne (Ne.symm hki)] at h4 h6
    exact (away (((hown k).mp h2).resolve_left hki) hki h4 h6).elim
  ·by_cases hki : k = i
   ·subst hki
    obtain ⟨rfl, hl⟩ := zb7 h4
    rw [List.getElem?_set_self (by rw [← o.len]; exact hl)] at h6
    cases h6
    rw [List.getElem?_set_ne (Ne.symm hji)] at h3 h5
    exact (away (((hown j).mp h1).resolve_left hji) hji h3 h5).elim
   ·rw [List.getElem?_set_ne (Ne.symm hji)] at h3 h5
    rw [List.getElem?_set_ne (Ne.symm hki)] at h4 h6
    exact o.dj j k b d1 d2 (((hown j).mp h1).resolve_left hji) (((hown k).mp h2).resolve_left hki) h3 h4 h5 h6
theorem Ok.write {i : Nat} {d : D} {ds : List D} {vs : List V} {a : Addr} (o : Ok K mg H0 own σd σ G H) (hi : i ∈ own) (hd : σd[i]? = some (some d)) (ha : σ[i]? = some (some (.ref a))) (r : Reps K mg G ds vs) :
  Ok K mg H0 own (σd.set i (some (.lst ds))) σ G (upd H a (.lst vs)) := by
 obtain ⟨b, ds0, vs0, q1, q2, q3, q4, q5, q6⟩ := o.mine i d hi hd
 rw [ha] at q1; cases q1
 have hl : i < σd.length := (List.getElem?_eq_some_iff.mp hd).1
 refine ⟨fun b u h => ?_, by simp [o.len], fun j e hj q => ?_, fun j e hj q => ?_, fun j k b d1 d2 h1 h2 h3 h4 h5 h6 => ?_⟩
 ·rw [zax (zan h q4)]; exact o.ext b u h
 ·have hji : j ≠ i := fun z => hj (z ▸ hi)
  rw [List.getElem?_set_ne (Ne.symm hji)] at q
  exact o.val j e hj q
 ·by_cases hji : j = i
  ·subst hji
   obtain ⟨rfl, _⟩ := zb7 q
   exact ⟨a, ds, vs, ha, rfl, zau, q4, q5, r⟩
  ·rw [List.getElem?_set_ne (Ne.symm hji)] at q
   obtain ⟨c, es, ws, p1, p2, p3, p4⟩ := o.mine j e hj q
   have hc : c ≠ a := fun z => by subst z; exact hji (o.dj j i c e d hj hi q hd p1 ha)
   exact ⟨c, es, ws, p1, p2, by rw [zax hc]; exact p3, p4⟩
 ·have back : ∀ {j : Nat} {e : D}, (σd.set i (some (.lst ds)))[j]? = some (some e) → ∃ e', σd[j]? = some (some e') := fun {j e} q => by
   by_cases hji : j = i
   ·exact ⟨d, hji ▸ hd⟩
   ·rw [List.getElem?_set_ne (Ne.symm hji)] at q; exact ⟨e, q⟩
  obtain ⟨e1, h3⟩ := back h3
  obtain ⟨e2, h4⟩ := back h4
  exact o.dj j k b e1 e2 h1 h2 h3 h4 h5 h6
theorem zbA.write {a : Addr} {o u : HO} (s0 : zbA G0 H0 G H) (n : H0 a = none) (g : G a = none) : zbA G0 H0 G (upd H a u) :=
 ⟨s0.g, fun b v h => by rw [zax (zan h n)]; exact s0.h b v h, fun b v h => by rw [zax (zan h g)]; exact s0.e b v h, s0.c⟩
theorem Ok.release {i : Nat} {own' : List Nat} (o : Ok K mg H0 own σd σ G H) (s0 : zbA G0 H0 G H) (hi : i ∈ own) (hown : ∀ j, j ∈ own' ↔ j ≠ i ∧ j ∈ own) : ∃ G', Ok K mg H0 own' σd σ G' H ∧ zbA G0 H0 G' H ∧ zaK G G' := by
 by_cases hb : ∃ d, σd[i]? = some (some d)
 ·obtain ⟨d, hd⟩ := hb
  obtain ⟨a, ds, vs, q1, rfl, q3, q4, q5, q6⟩ := o.mine i d hi hd
  have sg : zaK G (upd G a (.lst vs)) := zci q4
  have eh : zaK (upd G a (.lst vs)) H := fun b u h => by
   by_cases hb : b = a
   ·subst hb; rw [zau] at h; cases h; exact q3
   ·rw [zax hb] at h; exact o.ext b u h
  refine ⟨upd G a (.lst vs), ⟨eh, o.len, fun j e hj q => ?_, fun j e hj q => ?_, fun j k b d1 d2 h1 h2 h3 h4 h5 h6 => ?_⟩, ⟨s0.g.trans sg, s0.h, eh, fun b u h1 h2 => ?_⟩, sg⟩
  ·by_cases hji : j = i
   ·subst hji
    rw [hd] at q; cases q
    exact ⟨_, q1, a, vs, rfl, SqL.of zau, q6.mono sg⟩
   ·obtain ⟨v, h1, h2⟩ := o.val j e (fun z => hj ((hown j).mpr ⟨hji, z⟩)) q
    exact ⟨v, h1, h2.mono sg⟩
  ·obtain ⟨hji, hj'⟩ := (hown j).mp hj
   obtain ⟨c, es, ws, p1, p2, p3, p4, p5, p6⟩ := o.mine j e hj' q
   have hc : c ≠ a := fun z => by subst z; exact hji (o.dj j i c e _ hj' hi q hd p1 q1)
   exact ⟨c, es, ws, p1, p2, p3, by rw [zax hc]; exact p4, p5, p6.mono sg⟩
  ·exact o.dj j k b d1 d2 ((hown j).mp h1).2 ((hown k).mp h2).2 h3 h4 h5 h6
  ·rw [zax (zan h1 q5)]; exact s0.c b u h1 h2
 ·refine ⟨G, ⟨o.ext, o.len, fun j e hj q => ?_, fun j e hj q => o.mine j e ((hown j).mp hj).2 q, fun j k b d1 d2 h1 h2 => o.dj j k b d1 d2 ((hown j).mp h1).2 ((hown k).mp h2).2⟩, s0, zaK.refl _⟩
  have hji : j ≠ i := fun z => hb ⟨e, z ▸ q⟩
  exact o.val j e (fun z => hj ((hown j).mpr ⟨hji, z⟩)) q
end
inductive Out where
 | nx (σ : DSt) | rt (d : D) | bk (σ : DSt) | ct (σ : DSt) | rf (ds : List D)
section
variable (K : PySem.W.Frag) (mg : Str → Option Value) (E : XK)
def zfn (G0 H0 : Hp) (own' ol : List Nat) (Dn : zlM) (G : Hp) : Out → Prop
 | .nx σd' => ∀ σ' G' H', Ok K mg H0 own' σd' σ' G' H' → zbA G0 H0 G' H' → zaK G G' → Dn.nx σ' H'
 | .bk σd' => ∀ σ' G' H', Ok K mg H0 ol σd' σ' G' H' → zbA G0 H0 G' H' → zaK G G' → Dn.bk σ' H'
 | .ct σd' => ∀ σ' G' H', Ok K mg H0 ol σd' σ' G' H' → zbA G0 H0 G' H' → zaK G G' → Dn.ct σ' H'
 | .rt d => ∀ v G' H', zbA G0 H0 G' H' → Rep K mg G' d v → Dn.rt v H'
 | .rf ds => ∀ a vs G' H', zbA G0 H0 G' H' → H0 a = none → H' a = some (.lst vs) → G' a = none → Reps K mg G' ds vs → Dn.rt (.ref a) H'
def tS (G0 H0 : Hp) (own own' ol : List Nat) (f : DSt → R Out) : TS := fun Dn σ H => ∃ G σd, Ok K mg H0 own σd σ G H ∧ zbA G0 H0 G H ∧ RW (f σd) (zfn K mg G0 H0 own' ol Dn G) (zaR K mg E G0 H0)
end
theorem zfn.shift {K : PySem.W.Frag} {mg : Str → Option Value} {G0 H0 G G' : Hp} {own' ol : List Nat} {Dn : zlM} (s : zaK G G') {o : Out} (h : zfn K mg G0 H0 own' ol Dn G o) : zfn K mg G0 H0 own' ol Dn G' o := by
 cases o with
 | nx _ => exact fun a b c d e f => h a b c d e (s.trans f)
 | bk _ => exact fun a b c d e f => h a b c d e (s.trans f)
 | ct _ => exact fun a b c d e f => h a b c d e (s.trans f)
 | rt _ => exact h
 | rf _ => exact h
def DS (X : Cx) (E : XK) (own own' ol : List Nat) (st : Stmt) (f : DSt → R Out) : Prop := ∀ G0, PS X st (tS X.K X.mg E G0 X.H₀ own own' ol f)
def DSs (X : Cx) (E : XK) (own own' ol : List Nat) (st : List Stmt) (f : DSt → R Out) : Prop := ∀ G0, PSs X st (tS X.K X.mg E G0 X.H₀ own own' ol f)
def za0 (f g : DSt → R Out) : DSt → R Out := fun σ => (f σ).bind fun o => match o with
 | .nx σ' => g σ'
 | o => .ok o
def zbu : DSt → R Out := fun σ => .ok (.nx σ)
section
variable {X : Cx} {E : XK} {own own1 own2 own' ol : List Nat} {st : Stmt} {za4 : List Stmt} {f g : DSt → R Out} {pos : Pos}
theorem zaC : DSs X E own own ol [] zbu := fun G0 => PSs.mono' zqu fun Dn σ H ⟨G, σd, ok, s0, q⟩ => (show zfn X.K X.mg G0 X.H₀ own ol Dn G (.nx σd) from q) σ G H ok s0 (zaK.refl _)
theorem zag (h1 : DS X E own own1 ol st f) (h2 : DSs X E own1 own2 ol za4 g) : DSs X E own own2 ol (st :: za4) (za0 f g) := fun G0 => PSs.mono' (zn8 (h1 G0) (h2 G0)) fun Dn σ H ⟨G, σd, ok, s0, q⟩ => by
 refine ⟨G, σd, ok, s0, q.of_bind.mono (fun o _ z => ?_) fun _ z => z⟩
 cases o with
 | nx σ1 =>
  intro σ' G' H' ok' s' e'
  exact ⟨G', σ1, ok', s', (show RW (g σ1) _ _ from z).mono (fun o _ z => z.shift e') fun _ z => z⟩
 | rt d => exact z
 | rf d => exact z
 | bk d => exact z
 | ct d => exact z
theorem zai (h1 : DS X E own own1 ol st f) : DSs X E own own1 ol [st] f := fun G0 => zqv (h1 G0)
theorem zfQ (i : Nat) (hi : own.contains i = true) (ho : own' = own.filter fun j => j != i) (h : DSs X E own' own2 ol za4 g) : DSs X E own own2 ol za4 g := fun G0 => PSs.mono' (h G0) fun Dn σ H ⟨G, σd, ok, s0, q⟩ => by
 obtain ⟨G', ok', s', e'⟩ := ok.release (i := i) (own' := own') s0 (by simpa using hi) fun j => by subst ho; simp [and_comm]
 exact ⟨G', σd, ok', s', q.mono (fun o _ z => z.shift e') fun _ z => z⟩
theorem zpq : DS X E own own' ol st zuk := fun G0 => PS.mono' zn9 fun Dn σ H ⟨G, σd, ok, s0, q⟩ => q
def zb8 (fe : DSt → R D) : DSt → R Out := fun σ => (fe σ).bind fun d => .ok (.rt d)
theorem zat {e : Expr} {fe : DSt → R D} (h : DE X E e fe) : DS X E own own' ol (.Return (some e) pos) (zb8 fe) := fun G0 => PS.mono' (zr5 h) fun Dn σ H ⟨G, σd, ok, s0, q⟩ => by
 have s1 := ok.pubStep s0
 exact ⟨_, σd, ok.pub.1, q.of_bind.mono (fun d _ z v G' H' s r => (show zfn X.K X.mg G0 X.H₀ own' ol Dn G (.rt d) from z) v G' H' (s1.trans s) r) fun _ z => z.step s1⟩
def sIf (c : DSt → R Bool) (f g : DSt → R Out) : DSt → R Out := fun σ => (c σ).bind fun k => bif k then f σ else g σ
theorem zbE {c : Expr} {a b : List Stmt} {fc : DSt → R Bool} (hc : DT X E c fc) (ha : DSs X E own own' ol a f) (hb : DSs X E own own' ol b g) : DS X E own own' ol (.If c a b pos) (sIf fc f g) := fun G0 =>
 PS.mono' (ztP hc (ha G0) (hb G0)) fun Dn σ H ⟨G, σd, ok, s0, q⟩ => by
 have s1 := ok.pubStep s0
 refine ⟨_, σd, ok.pub.1, q.of_bind.mono (fun k _ z G' H' s => ?_) fun _ z => z.step s1⟩
 have ok' := ok.drop s.h
 have s' : zbA G0 X.H₀ G H' := s0.trans (.heap ok.ext s.h)
 cases k with
 | true => exact iteT ⟨G, σd, ok', s', z⟩
 | false => exact iteF ⟨G, σd, ok', s', z⟩
def zmv (fe : DSt → R D) : DSt → R Out := fun σ => (fe σ).bind fun _ => .ok (.nx σ)
theorem zqZ {e : Expr} {fe : DSt → R D} (h : DE X E e fe) (hs : swapsWith e none pos.line X.env = pure false := by rfl) : DS X E own own ol (.Expr e pos) (zmv fe) := fun G0 => PS.mono' (zlN h hs) fun Dn σ H ⟨G, σd, ok, s0, q⟩ => by
 have s1 := ok.pubStep s0
 refine ⟨_, σd, ok.pub.1, q.of_bind.mono (fun d _ z v G' H' s r => ?_) fun _ z => z.step s1⟩
 exact (show zfn X.K X.mg G0 X.H₀ own ol Dn G (.nx σd) from z) σ G H' (ok.drop s.h) (s0.trans (.heap ok.ext s.h)) (zaK.refl _)
def zjX (own : List Nat) (i : Nat) (fe : DSt → R D) : DSt → R Out := fun σ => (fe (mask own σ)).bind fun d => .ok (.nx (σ.set i (some d)))
def zaZ (i : Nat) (fe : DSt → R D) : DSt → R Out := fun σ => (fe σ).bind fun d => .ok (.nx (σ.set i (some d)))
def zuo (i : Nat) (fe : DSt → R D) : DSt → R Out := fun σ => (fe σ).bind fun d => bif imm d then .ok (.nx (σ.set i (some d))) else .bad
theorem zsI {own : List Nat} {i : Nat} (h : own.contains i = false) : i ∉ own := by simpa using h
theorem zfy (σ : DSt) : mask [] σ = σ := by
 have : ∀ (σ : DSt) (k : Nat), zfm [] k σ = σ := fun σ => by
  induction σ with
  | nil => intro k; rfl
  | cons d ds ih => intro k; unfold zfm; rw [ih]; rfl
 exact this σ 0
theorem zup {te : TE} {fe : DSt → R D} {i : Nat} {G0 : Hp} (h : ∀ σ H Q, tE X.K X.mg E fe σ H Q → te σ H Q) (ho : own.contains i = false) {Dn : zlM} {σ : St} {H : Hp} (q : tS X.K X.mg E G0 X.H₀ own own ol (zjX own i fe) Dn σ H) : zrH te (zjg i) Dn σ H := by
 obtain ⟨G, σd, ok, s0, q⟩ := q
 refine h σ H _ ⟨G, mask own σd, ok.masked, q.of_bind.mono (fun d _ z v G' H' s r => ?_) fun _ z => z.step s0⟩
 exact (show zfn X.K X.mg G0 X.H₀ own ol Dn G (.nx (σd.set i (some d))) from z) _ G' H' ((ok.step s).set (zsI ho) r) (s0.trans s) s.g
def zq0 (own : List Nat) (i : Nat) (fe : DSt → R (List D)) : DSt → R Out := fun σ => (fe (mask own σ)).bind fun ds => .ok (.nx (σ.set i (some (.lst ds))))
def zfR (own : List Nat) (i : Nat) : List Nat := if own.contains i then own else i :: own
theorem zjo {own : List Nat} {i j : Nat} : j ∈ zfR own i ↔ j = i ∨ j ∈ own := by
 unfold zfR
 split
 ·rename_i h
  have hi : i ∈ own := by simpa using h
  exact ⟨.inr, fun h => h.elim (fun e => e ▸ hi) id⟩
 ·simp
theorem asgN {te : TE} {fe : DSt → R (List D)} {i : Nat} {G0 : Hp} (h : ∀ σ H Q, tFr X.K X.mg E fe σ H Q → te σ H Q) {Dn : zlM} {σ : St} {H : Hp} (q : tS X.K X.mg E G0 X.H₀ own (zfR own i) ol (zq0 own i fe) Dn σ H) : zrH te (zjg i) Dn σ H := by
 obtain ⟨G, σd, ok, s0, q⟩ := q
 refine h σ H _ ⟨G, mask own σd, ok.masked, q.of_bind.mono (fun ds _ z a vs G' H' s n e g r => ?_) fun _ z => z.step s0⟩
 exact (show zfn X.K X.mg G0 X.H₀ (zfR own i) ol Dn G (.nx (σd.set i (some (.lst ds)))) from z) _ G' H' (ok.new s n e g (s0.h.free n) r fun j => zjo) (s0.trans s) s.g
variable {i : Nat} {x : Str} {e : Expr} {pos' : Pos} {fe : DSt → R D} {fl : DSt → R (List D)}
theorem zmw (i : Nat) (hN : X.N.Nodup) (he : DE X E e fe) (ho : own.contains i = false := by rfl) (hi : X.N[i]? = some x := by rfl) (hx : Loc X.env.scope x := by first | exact Or.inl rfl | exact Or.inr rfl) (hs : swapsWith e (some (.Name x pos')) pos.line X.env = pure false := by rfl)
  (hf : X.fn x = true ∨ X.env.scope.names.lookup x = some .local := by first | exact .inl rfl | exact .inr rfl | assumption) : DS X E own own ol (.Assign [.Name x pos'] e pos) (zjX own i fe) := fun G0 =>
 PS.mono' (zlO hN hi hx he hs hf) fun Dn σ H q => zup (fun _ _ _ z => z) ho q
theorem zas (i : Nat) (hN : X.N.Nodup) (he : DE X E e fe) (hi : X.N[i]? = some x := by rfl) (hx : Loc X.env.scope x := by first | exact Or.inl rfl | exact Or.inr rfl) (hs : swapsWith e (some (.Name x pos')) pos.line X.env = pure false := by rfl)
  (hf : X.fn x = true ∨ X.env.scope.names.lookup x = some .local := by first | exact .inl rfl | exact .inr rfl | assumption) : DS X E [] [] ol (.Assign [.Name x pos'] e pos) (zaZ i fe) := fun G0 => by
 have : zaZ i fe = zjX [] i fe := by funext σ; unfold zaZ zjX; rw [zfy]
 rw [this]
 exact PS.mono' (zlO hN hi hx he hs hf) fun Dn σ H q => zup (fun _ _ _ z => z) rfl q
theorem zjY (i : Nat) (hN : X.N.Nodup) (he : DF X E e fl) (hw : own' = zfR own i := by rfl) (hi : X.N[i]? = some x := by rfl) (hx : Loc X.env.scope x := by first | exact Or.inl rfl | exact Or.inr rfl) (hs : swapsWith e (some (.Name x pos')) pos.line X.env = pure false := by rfl)
  (hf : X.fn x = true ∨ X.env.scope.names.lookup x = some .local := by first | exact .inl rfl | exact .inr rfl | assumption) : DS X E own own' ol (.Assign [.Name x pos'] e pos) (zq0 own i fl) := fun G0 => by
 subst hw; exact PS.mono' (zlO hN hi hx he hs hf) fun Dn σ H q => asgN (fun _ _ _ z => z) q
theorem zsJ {te : TE} (h : ∀ σ H Q, tFr X.K X.mg E fl σ H Q → te σ H Q) : ∀ σ H Q, tE X.K X.mg E (fun σ => (fl σ).bind fun ds => .ok (.lst ds)) σ H Q → te σ H Q := fun σ H Q ⟨G, σd, ok, q⟩ => by
 refine h σ H Q ⟨G, σd, ok, q.of_bind.mono (fun ds _ q => ?_) fun _ z => z⟩
 intro a vs G' H' s n e g r
 have q' : zaq X.K X.mg Q G H (.lst ds) := q
 have sg : zaK G' (upd G' a (.lst vs)) := zci g
 refine q' (.ref a) (upd G' a (.lst vs)) H' ⟨s.g.trans sg, s.h, fun b u p => ?_, fun b u p1 p2 => ?_⟩ ⟨a, vs, rfl, SqL.of zau, r.mono sg⟩
 ·by_cases hb : b = a
  ·subst hb; rw [zau] at p; cases p; exact e
  ·rw [zax hb] at p; exact s.e b u p
 ·have hb : b ≠ a := zan p1 n
  rw [zax hb]; exact s.c b u p1 p2
def zdk (fl : DSt → R (List D)) : DSt → R D := fun σ => (fl σ).bind fun ds => .ok (.lst ds)
theorem DF.val (h : DF X E e fl) : DE X E e (zdk fl) := h.de
variable {tg elt iter : Expr} {ifs : List Expr} {scope : Scope} {NY : List Str} {k : Nat} {ks : List Nat} {fi : DSt → R (List D)} {gp : D → R (List D)} {fc : DSt → R Bool} {lpos : Pos}
theorem zsK (i : Nat) (C : X.calm = true) (hN : X.N.Nodup) (hi' : X.N[i]? = some x) (hy : X.env.kindOf x = some .local) (lc : LC X k scope NY) (hi : DI X E tg iter fi)
  (hb : ∀ (s₀ : Shared) (H₀ : Hp) (C : Addr) (ex : List Addr), NY.Nodup → DG (zd1 X scope NY s₀ H₀ C ex) tg ks gp ∧ DTs (zd1 X scope NY s₀ H₀ C ex) E0 ifs fc ∧ DE (zd1 X scope NY s₀ H₀ C ex) E0 elt fe)
  (hsw : swapsWith (.ListComp elt [⟨tg, iter, ifs, 0⟩] scope lpos) (some (.Name x pos')) pos.line X.env = pure true)
  (hs : ∀ x, foldedSetIterable iter X.env x = pure x) : PS X (.Assign [.Name x pos'] (.ListComp elt [⟨tg, iter, ifs, 0⟩] scope lpos) pos) (zrH (tLC k (tI X.K X.mg E fi) (tG X.K X.mg ks gp) (tT X.K X.mg E0 fc) (tE X.K X.mg E0 fe)) (zjg i)) :=
 zub (g := tG X.K X.mg ks gp) (tc := tT X.K X.mg E0 fc) (te := tE X.K X.mg E0 fe) C hN hi' hy lc hi (fun s0 H0 Ca ex nd => hb s0 H0 Ca ex nd) hsw hs
theorem zeu (i : Nat) (C : X.calm = true) (hN : X.N.Nodup) (lc : LC X k scope NY) (hk : ks.all (fun i => decide (i < k)) = true) (hi : DI X E tg iter fi)
  (hb : ∀ (s₀ : Shared) (H₀ : Hp) (C : Addr) (ex : List Addr), NY.Nodup → DG (zd1 X scope NY s₀ H₀ C ex) tg ks gp ∧ DTs (zd1 X scope NY s₀ H₀ C ex) E0 ifs fc ∧ DE (zd1 X scope NY s₀ H₀ C ex) E0 elt fe)
  (ho : own.contains i = false := by rfl) (hi' : X.N[i]? = some x := by rfl) (hy : X.env.kindOf x = some .local := by rfl)
  (hsw : swapsWith (.ListComp elt [⟨tg, iter, ifs, 0⟩] scope lpos) (some (.Name x pos')) pos.line X.env = pure true := by rfl)
  (hs : ∀ x, foldedSetIterable iter X.env x = pure x := by intro _; rfl) : DS X E own own ol (.Assign [.Name x pos'] (.ListComp elt [⟨tg, iter, ifs, 0⟩] scope lpos) pos) (zjX own i (zdk (eLC k ks fi gp fc fe))) := fun G0 =>
 PS.mono' (zsK i C hN hi' hy lc hi hb hsw hs) fun Dn σ H q => zup (zsJ fun _ _ _ h => zpo (te := tE X.K X.mg E0 fe) (tc := tT X.K X.mg E0 fc) hk h) ho q
def zq1 (own : List Nat) (ks : List Nat) (gp : D → R (List D)) (fe : DSt → R D) : DSt → R Out := fun σ => (fe (mask own σ)).bind fun d => (gp d).noerr.bind fun us => .ok (.nx (setAll σ ks us))
theorem zpr (he : DE X E e fe) (hg : DG X tg ks gp) (ho : ks.all (fun i => !own.contains i) = true := by rfl) (hs : swapsWithSole [tg] e pos.line X.env = pure false := by rfl) (hw : swappedStores [tg] e X.env = pure none := by rfl)
  (h1 : (assignEach [tg] X.env).map (·.2) = [assign tg X.env] := by rfl) : DS X E own own ol (.Assign [tg] e pos) (zq1 own ks gp fe) := fun G0 => PS.mono' (zpf he hg hs hw h1) fun Dn σ H ⟨G, σd, ok, s0, q⟩ => by
 refine ⟨G, mask own σd, ok.masked, q.of_bind.mono (fun d _ z v G' H' s r => ?_) fun _ z => z.step s0⟩
 obtain ⟨us, e1, z⟩ := zcH z.of_bind
 refine ⟨G', d, s.e, r, RW.ok_of e1 fun ws rw' => ?_⟩
 refine (show zfn X.K X.mg G0 X.H₀ own ol Dn G (.nx (setAll σd ks us)) from z) _ G' H' ((ok.step s).setAll (fun k hk => ?_) rw') (s0.trans s) s.g
 simpa using List.all_eq_true.mp ho k hk
def sPar (own : List Nat) (i j : Nat) (fs : DSt → R (List D)) : DSt → R Out := fun σ => (fs (mask own σ)).bind fun ds => match ds with
 | [a, b] => .ok (.nx ((σ.set i (some a)).set j (some b)))
 | _ => .bad
def zek (σ : DSt) (i : Nat) : R (List D) := match σ[i]? with
 | some (some (.lst ds)) => .ok ds
 | _ => .bad
def zrL (own : List Nat) (i : Nat) (fe : DSt → R D) : DSt → R Out := fun σ => (zek σ i).bind fun ds => (fe (mask own σ)).bind fun d => bif most ds.length then .ok (.nx (σ.set i (some (.lst (ds ++ [d]))))) else .bad
def zuq (i : Nat) (fe : DSt → R D) : DSt → R Out := fun σ => (zek σ i).bind fun ds => (fe σ).bind fun d => bif most ds.length && imm d then .ok (.nx (σ.set i (some (.lst (ds ++ [d]))))) else .bad
theorem zjZ {σ : DSt} {i : Nat} {ds : List D} (h : zek σ i = .ok ds) : σ[i]? = some (some (.lst ds)) := by
 unfold zek at h
 split at h
 ·cases h; assumption
 ·cases h
theorem zj0 {σ : DSt} {i : Nat} {e : D} : zek σ i ≠ .err e := by
 unfold zek
 split <;> simp
theorem zj1 (i : Nat) {apos cpos : Pos} {np : Pos} (he : DE X E e fe) (ho : own.contains i = true := by rfl) (hN : X.N[i]? = some x := by rfl) (hv : Vis X.env.scope x := by first | exact Or.inl rfl | exact Or.inr (Or.inl rfl) | exact Or.inr (Or.inr rfl)) (hd : (x == ("__debug__" : Str)) = false := by decide)
  (hcd : (x == ("__classdict__" : Str)) = false := by decide)
  (hbase : attributeBase (.Name x np) "append" X.env (eval (.Name x np) X.env) = eval (.Name x np) X.env := by rfl)
  (hfew : ((backTo cpos (starEach [e] X.env)).all (fun x => !x.1) && (backToKw cpos (keywordEach [] X.env)).all (fun x => x.1.isSome) && decide ([e].length + ([] : List Keyword).length + (if ([] : List Keyword).isEmpty then 0 else 1) < 30)) = true := by rfl)
  (hline : (apos.endLine == cpos.line) = true := by rfl) (hs : starEach [e] X.env = (false, eval e X.env) :: starEach [] X.env := by rfl) (hplain : (backTo cpos (starEach [] X.env)).any (·.1) = false := by rfl)
  (hsw : swapsWith (.Call (.Attribute (.Name x np) "append" apos) [e] [] cpos) none pos.line X.env = pure false := by rfl) :
  DS X E own own ol (.Expr (.Call (.Attribute (.Name x np) "append" apos) [e] [] cpos) pos) (zrL own i fe) := fun G0 =>
 PS.mono' (zlN (zt4 PySem.F.plainAttrs_list PySem.F.slot_list_append PySem.F.type_list_append zl0 (pv i hN hv hd hcd) (zaa he zad hs) hbase hfew hline hs hplain) hsw) fun Dn σ H ⟨G, σd, ok, s0, q⟩ => by
 have q1 := q.of_bind
 cases hL : zek σd i with
 | bad => rw [hL] at q1; exact q1.elim
 | err e => exact absurd hL zj0
 | ok ds =>
  rw [hL] at q1
  have q2 : RW ((fe (mask own σd)).bind fun d => bif most ds.length then R.ok (.nx (σd.set i (some (.lst (ds ++ [d]))))) else .bad) (zfn X.K X.mg G0 X.H₀ own ol Dn G) (zaR X.K X.mg E G0 X.H₀) := q1
  have hd := zjZ hL
  have hi : i ∈ own := by simpa using ho
  obtain ⟨a, ds', vs, p1, p2, p3, p4, p5, p6⟩ := ok.mine i _ hi hd
  cases p2
  refine ⟨_, p1, .inl ⟨rfl, _, SqL.of p3⟩, ?_⟩
  refine ⟨G, mask own σd, ok.masked, (show RW ((zac fe zal) (mask own σd)) _ _ from ?_)⟩
  unfold zac
  have q3 := q2.of_bind
  cases hf : fe (mask own σd) with
  | bad => rw [hf] at q3; exact q3.elim
  | err e => rw [hf] at q3; exact (show zaR X.K X.mg E G0 X.H₀ e from q3).step s0
  | ok d =>
   rw [hf] at q3
   rintro ws G' H' s ⟨v, _, e1, r1, r2⟩
   subst e1
   cases r2
   cases hm : most ds.length with
   | false => rw [hm] at q3; exact (show False from q3).elim
   | true =>
    rw [hm] at q3
    have hlt : ds.length < sizeLine := of_decide_eq_true hm
    have ok' := ok.step s
    refine ⟨a, vs, v, rfl, rfl, s.h _ _ p3, by rw [← p6.length]; exact hlt, ?_⟩
    exact (show zfn X.K X.mg G0 X.H₀ own ol Dn G (.nx (σd.set i (some (.lst (ds ++ [d]))))) from q3) σ G' _ (ok'.write hi hd p1 ((p6.mono s.g).append (Reps.cons r1 Reps.nil))) ((s0.trans s).write (o := .lst vs) p5 (s.c _ _ p3 p4)) s.g
end
def zgG (ks : List Nat) (gp : D → R (List D)) (fb : DSt → R Out) : List D → DSt → R Out
 | [], σ => .ok (.nx σ)
 | d :: ds, σ => (gp d).noerr.bind fun us => (fb (setAll σ ks us)).bind fun o => match o with
  | .nx σ' => zgG ks gp fb ds σ'
  | .ct σ' => zgG ks gp fb ds σ'
  | .bk σ' => .ok (.nx σ')
  | .rt d => .ok (.rt d)
  | .rf d => .ok (.rf d)
def zje (own ks : List Nat) (gp : D → R (List D)) (fi : DSt → R (List D)) (fb : DSt → R Out) : DSt → R Out := fun σ => (fi (mask own σ)).bind fun ds => zgG ks gp fb ds σ
structure XL (X : Cx) : Prop where
 own : PassesOwn (model X.prog X.w) X.A X.env X.xe
section
variable {X : Cx} {E : XK} {own ol ks : List Nat} {tg iter : Expr} {body : List Stmt} {gp : D → R (List D)} {fi : DSt → R (List D)} {fb : DSt → R Out} {pos : Pos}
theorem zcI (L : XL X) (hc : X.calm = true) (hi : DI X E tg iter fi) (hg : DG X tg ks gp) (hb : DSs X E own own own body fb) (ho : ks.all (fun i => !own.contains i) = true := by rfl) (hs : ∀ x, foldedSetIterable iter X.env x = pure x := by intro _; rfl) :
  DS X E own own ol (.For tg iter body [] pos) (zje own ks gp fi fb) := fun G0 => PS.mono' (zsd L.own hc hi hg (hb G0) hs) fun Dn σ H ⟨G, σd, ok, s0, q⟩ => by
 refine ⟨G, mask own σd, ok.masked, q.of_bind.mono (fun ds _ z J G1 H1 s1 it => ?_) fun _ z => z.step s0⟩
 have hko : ∀ k ∈ ks, k ∉ own := fun k hk => by simpa using List.all_eq_true.mp ho k hk
 refine ⟨fun i m σ' H' => m = ds.length - i ∧ i ≤ ds.length ∧ ∃ G' σd', Ok X.K X.mg X.H₀ own σd' σ' G' H' ∧ zaK G1 G' ∧ zbA G0 X.H₀ G' H' ∧ RW (zgG ks gp fb (ds.drop i) σd') (zfn X.K X.mg G0 X.H₀ own ol Dn G1) (zaR X.K X.mg E G0 X.H₀),
  ⟨ds.length, by simp, Nat.zero_le _, G1, σd, ok.step s1, zaK.refl _, s0.trans s1, z.mono (fun _ _ z => z.shift s1.g) fun _ z => z⟩, ?_⟩
 rintro i m σ' H' ⟨rfl, hi, G', σd', ok', e', s', w⟩
 by_cases hlt : i < ds.length
 ·right
  obtain ⟨d, hd⟩ : ∃ d, ds[i]? = some d := ⟨ds[i], by simp [hlt]⟩
  obtain ⟨g1, g2⟩ := it.turn H' i d (e'.trans ok'.ext) hd
  have hdrop : ds.drop i = d :: ds.drop (i + 1) := by
   rw [List.drop_eq_getElem_cons hlt]
   congr 1
   exact Option.some.inj ((List.getElem?_eq_getElem hlt).symm.trans hd)
  rw [hdrop] at w
  refine ⟨g1, fun σ2 H2 => i + 1 ≤ ds.length ∧ ∃ G' σd', Ok X.K X.mg X.H₀ own σd' σ2 G' H2 ∧ zaK G1 G' ∧ zbA G0 X.H₀ G' H2 ∧ RW (zgG ks gp fb (ds.drop (i + 1)) σd') (zfn X.K X.mg G0 X.H₀ own ol Dn G1) (zaR X.K X.mg E G0 X.H₀),
   fun σ2 H2 ⟨h1, h2⟩ => ⟨ds.length - (i + 1), by omega, rfl, h1, h2⟩, fun x H2 hy => ?_⟩
  obtain ⟨G2, s2, r2⟩ := g2 x H2 hy G' e' ok'.ext
  unfold zgG at w
  obtain ⟨us, e1, w⟩ := zcH w.of_bind
  refine ⟨G2, d, s2.e, r2, RW.ok_of e1 fun ws rws => ?_⟩
  have ok2 := (ok'.step s2).setAll hko rws
  refine ⟨G2, _, ok2, s'.trans s2, w.of_bind.mono (fun o _ z => ?_) fun _ z => z⟩
  cases o with
  | nx σ3 => exact fun σ4 G4 H4 ok4 s4 e4 => ⟨hlt, G4, σ3, ok4, (e'.trans s2.g).trans e4, s4, z⟩
  | ct σ3 => exact fun σ4 G4 H4 ok4 s4 e4 => ⟨hlt, G4, σ3, ok4, (e'.trans s2.g).trans e4, s4, z⟩
  | bk σ3 => exact fun σ4 G4 H4 ok4 s4 e4 => (show zfn X.K X.mg G0 X.H₀ own ol Dn G1 (.nx σ3) from z) σ4 G4 H4 ok4 s4 ((e'.trans s2.g).trans e4)
  | rt d => exact z
  | rf d => exact z
 ·left
  have hi2 : i = ds.length := by omega
  subst hi2
  rw [List.drop_length] at w
  refine ⟨it.stop H' (e'.trans ok'.ext), ?_⟩
  unfold zgG at w
  exact (show zfn X.K X.mg G0 X.H₀ own ol Dn G1 (.nx σd') from w) σ' G' H' ok' s' e'
def zaW (c : DSt → R Bool) (fb : DSt → R Out) : Nat → DSt → R Out
 | 0, _ => .bad
 | n + 1, σ => (c σ).bind fun k => bif k then (fb σ).bind fun o => match o with
   | .nx σ' => zaW c fb n σ'
   | .ct σ' => zaW c fb n σ'
   | .bk σ' => .ok (.nx σ')
   | .rt d => .ok (.rt d)
   | .rf d => .ok (.rf d)
  else .ok (.nx σ)
open Classical in
noncomputable def zbm (c : DSt → R Bool) (fb : DSt → R Out) : DSt → R Out := fun σ => if h : ∃ n, zaW c fb n σ ≠ .bad then zaW c fb (Classical.choose h) σ else .bad
theorem zc9 {c : DSt → R Bool} {fb : DSt → R Out} : ∀ (n : Nat) (σ : DSt) (r : R Out), zaW c fb n σ = r → r ≠ .bad → ∀ k, zaW c fb (n + k) σ = r
 | 0, σ, r, h, hr, k => absurd h.symm hr
 | n + 1, σ, r, h, hr, k => by
  rw [show n + 1 + k = (n + k) + 1 by omega]
  unfold zaW at h ⊢
  cases hc : c σ with
  | bad => rw [hc] at h; exact absurd h.symm hr
  | err e => rw [hc] at h; exact h
  | ok b =>
   rw [hc] at h
   cases b with
   | false => exact h
   | true =>
    have h' : (fb σ).bind (fun o => match o with
     | .nx σ' => zaW c fb n σ'
     | .ct σ' => zaW c fb n σ'
     | .bk σ' => .ok (.nx σ')
     | .rt d => .ok (.rt d)
     | .rf d => .ok (.rf d)) = r := h
    show (fb σ).bind (fun o => match o with
     | .nx σ' => zaW c fb (n + k) σ'
     | .ct σ' => zaW c fb (n + k) σ'
     | .bk σ' => .ok (.nx σ')
     | .rt d => .ok (.rt d)
     | .rf d => .ok (.rf d)) = r
    cases hf : fb σ with
    | bad => rw [hf] at h'; exact absurd h'.symm hr
    | err e => rw [hf] at h'; exact h'
    | ok o =>
     rw [hf] at h'
     cases o with
     | nx σ' => exact zc9 n σ' r h' hr k
     | ct σ' => exact zc9 n σ' r h' hr k
     | bk σ' => exact h'
     | rt d => exact h'
     | rf d => exact h'
theorem zbS {c : DSt → R Bool} {fb : DSt → R Out} {n : Nat} {σ : DSt} {r : R Out} (h : zaW c fb n σ = r) (hr : r ≠ .bad) : zbm c fb σ = r := by
 unfold zbm
 have hx : ∃ n, zaW c fb n σ ≠ .bad := ⟨n, by rw [h]; exact hr⟩
 rw [dif_pos hx]
 have h1 := Classical.choose_spec hx
 have a := zc9 _ σ _ rfl h1 n
 have b := zc9 _ σ _ h hr (Classical.choose hx)
 rw [Nat.add_comm] at b
 rw [← a, b]
theorem zfS (c : DSt → R Bool) (fb : DSt → R Out) (σ : DSt) : zbm c fb σ = (c σ).bind fun k => bif k then (fb σ).bind fun o => match o with
   | .nx σ' => zbm c fb σ'
   | .ct σ' => zbm c fb σ'
   | .bk σ' => .ok (.nx σ')
   | .rt d => .ok (.rt d)
   | .rf d => .ok (.rf d)
  else .ok (.nx σ) := by
 cases hc : c σ with
 | bad =>
  unfold zbm
  rw [dif_neg]
  ·rfl
  ·rintro ⟨n, h⟩
   cases n with
   | zero => exact h rfl
   | succ n => unfold zaW at h; rw [hc] at h; exact h rfl
 | err e => exact zbS (n := 1) (by unfold zaW; rw [hc]; rfl) (by simp [R.bind])
 | ok b =>
  cases b with
  | false => exact zbS (n := 1) (by unfold zaW; rw [hc]; rfl) (by simp [R.bind])
  | true =>
   show zbm c fb σ = (fb σ).bind _
   cases hf : fb σ with
   | bad =>
    unfold zbm
    rw [dif_neg]
    ·rfl
    ·rintro ⟨n, h⟩
     cases n with
     | zero => exact h rfl
     | succ n => unfold zaW at h; rw [hc] at h; simp only [R.bind, cond_true] at h; rw [hf] at h; exact h rfl
   | err e => exact zbS (n := 1) (by unfold zaW; rw [hc]; show (fb σ).bind _ = _; rw [hf]; rfl) (by simp [R.bind])
   | ok o =>
    have go : ∀ σ', (∀ n, zaW c fb (n + 1) σ = zaW c fb n σ') → zbm c fb σ = zbm c fb σ' := fun σ' hn => by
     by_cases hx : ∃ n, zaW c fb n σ' ≠ .bad
     ·obtain ⟨n, h⟩ := hx
      rw [zbS (n := n) rfl h, zbS (n := n + 1) (hn n) h]
     ·have : zbm c fb σ' = .bad := by unfold zbm; rw [dif_neg hx]
      rw [this]
      unfold zbm
      rw [dif_neg]
      rintro ⟨n, h⟩
      cases n with
      | zero => exact h rfl
      | succ n => rw [hn n] at h; exact hx ⟨n, h⟩
    cases o with
    | nx σ' => exact go σ' fun n => by unfold zaW; rw [hc]; show (fb σ).bind _ = _; rw [hf]; cases n <;> rfl
    | ct σ' => exact go σ' fun n => by unfold zaW; rw [hc]; show (fb σ).bind _ = _; rw [hf]; cases n <;> rfl
    | bk σ' => exact zbS (n := 1) (by unfold zaW; rw [hc]; show (fb σ).bind _ = _; rw [hf]; rfl) (by simp [R.bind])
    | rt d => exact zbS (n := 1) (by unfold zaW; rw [hc]; show (fb σ).bind _ = _; rw [hf]; rfl) (by simp [R.bind])
    | rf d => exact zbS (n := 1) (by unfold zaW; rw [hc]; show (fb σ).bind _ = _; rw [hf]; rfl) (by simp [R.bind])
theorem zj2 {c : Expr} {fc : DSt → R Bool} (L : XL X) (hc : DT X E c fc) (hb : DSs X E own own own body fb) : DS X E own own ol (.While c body [] pos) (zbm fc fb) := fun G0 => PS.mono' (zoa L.own hc (hb G0)) fun Dn σ H ⟨G, σd, ok, s0, q⟩ => by
 have hx : ∃ n, zaW fc fb n σd ≠ .bad := by
  by_cases hx : ∃ n, zaW fc fb n σd ≠ .bad
  ·exact hx
  ·unfold zbm at q; rw [dif_neg hx] at q; exact (show False from q).elim
 obtain ⟨n, hn⟩ := hx
 rw [zbS rfl hn] at q
 refine ⟨fun m σ' H' => ∃ G' σd', Ok X.K X.mg X.H₀ own σd' σ' G' H' ∧ zaK G G' ∧ zbA G0 X.H₀ G' H' ∧ RW (zaW fc fb m σd') (zfn X.K X.mg G0 X.H₀ own ol Dn G) (zaR X.K X.mg E G0 X.H₀), ⟨n, G, σd, ok, zaK.refl _, s0, q⟩, ?_⟩
 rintro m σ1 H1 ⟨G1, σd1, ok1, e1, s1, w⟩
 cases m with
 | zero => exact (show False from w).elim
 | succ m =>
  unfold zaW at w
  have sp := ok1.pubStep s1
  refine ⟨_, σd1, ok1.pub.1, w.of_bind.mono (fun k _ z G' H' s => ?_) fun _ z => z.step sp⟩
  have ok' := ok1.drop s.h
  have s' : zbA G0 X.H₀ G1 H' := s1.trans (.heap ok1.ext s.h)
  cases k with
  | true =>
   refine iteT ?_
   refine ⟨fun σ2 H2 => ∃ G' σd', Ok X.K X.mg X.H₀ own σd' σ2 G' H2 ∧ zaK G G' ∧ zbA G0 X.H₀ G' H2 ∧ RW (zaW fc fb m σd') (zfn X.K X.mg G0 X.H₀ own ol Dn G) (zaR X.K X.mg E G0 X.H₀), fun σ2 H2 h => ⟨m, Nat.lt_succ_self _, h⟩, ?_⟩
   refine ⟨G1, σd1, ok', s', (show RW ((fb σd1).bind _) _ _ from z).of_bind.mono (fun o _ z => ?_) fun _ z => z⟩
   cases o with
   | nx σ3 => exact fun σ4 G4 H4 ok4 s4 e4 => ⟨G4, σ3, ok4, e1.trans e4, s4, z⟩
   | ct σ3 => exact fun σ4 G4 H4 ok4 s4 e4 => ⟨G4, σ3, ok4, e1.trans e4, s4, z⟩
   | bk σ3 => exact fun σ4 G4 H4 ok4 s4 e4 => (show zfn X.K X.mg G0 X.H₀ own ol Dn G (.nx σ3) from z) σ4 G4 H4 ok4 s4 (e1.trans e4)
   | rt d => exact z
   | rf d => exact z
  | false =>
   refine iteF ?_
   exact (show zfn X.K X.mg G0 X.H₀ own ol Dn G (.nx σd1) from z) σ1 G1 H' ok' s' e1
end
def zd4 (n : Nat) (ds : List D) : DSt := ds.map some ++ List.replicate (n - ds.length) none
def fin : R Out → R D
 | .ok (.rt d) => .ok d
 | .ok (.rf ds) => .ok (.lst ds)
 | .ok (.nx _) => .ok .non
 | .ok _ => .bad
 | .err e => .err e
 | .bad => .bad
def fnM (n nN : Nat) (body : DSt → R Out) : List D → R D := fun ds => bif ds.length == n then fin (body (zd4 nN ds)) else .bad
theorem Reps.startOk {K : PySem.W.Frag} {mg : Str → Option Value} {G H : Hp} (e : zaK G H) : ∀ {ds : List D} {vs : List V} (k : Nat), Reps K mg G ds vs → Ok0 K mg (ds.map some ++ List.replicate k none) (vs.map some ++ List.replicate k none) G H
 | [], _, k, h => by
  cases h
  have := Ok0.nones (K := K) (mg := mg) (G := G) (H := H) (σd := []) (σ := []) ⟨e, rfl, fun i d q => by simp at q⟩ k
  simpa using this
 | d :: ds, _, k, ⟨v, r, h1, h2, h3⟩ => by
  subst h1
  exact (Reps.startOk e k h3).cons (x := some d) (y := some v) fun d' q => by cases q; exact ⟨v, rfl, h2⟩
section
variable {P : Program} {w : World} {K : PySem.W.Frag} {mg : Str → Option Value} {base : Heap}
theorem zav.mk' {x qual : Str} {st : Stmt} {f : Addr} {fd : FuncData} {N ps : List Str} {k n nN : Nat} {own' : List Nat} {body : DSt → R Out} (F : Fun K x qual st f fd) (S : zay N ps (zaf st)) (hm : mg x = some (.ref f)) (b : za8 K fd ps [])
  (hn : ps.length = n) (hN : N.length = nN)
  (hb : ∀ (X : Cx) (E : XK), (∃ cdv A outer s H, X = zh3 (CXe P w) P w K mg base N qual (zaf st) f cdv A outer s H E) → XC X E k → XL X → DSs X E [] own' [] (zar st) body) : zav P w K mg base (k + 1) x (fnM n nN body) := by
 refine ⟨f, fd, ps, F.okX S (fun vs H Q E h => ?_) (fun cdv A outer s H vs Q E hr hsp => ?_), hm, F.kp, b⟩
 ·obtain ⟨G, ds, e, r, q⟩ := h
  by_cases hd : ds.length = n
  ·rw [← r.length, hd, hn]
  ·have : (ds.length == n) = false := by simpa using hd
   unfold fnM at q
   rw [this] at q
   exact (show False from q).elim
 ·obtain ⟨G, ds, e, r, q⟩ := hsp
  have hd : ds.length = n := by
   by_cases hd : ds.length = n
   ·exact hd
   ·have : (ds.length == n) = false := by simpa using hd
    unfold fnM at q
    rw [this] at q
    exact (show False from q).elim
  unfold fnM at q
  rw [show (ds.length == n) = true by simpa using hd] at q
  have q' : RW (fin (body (zd4 nN ds))) (zaq K mg Q G H) (zaR K mg E G H) := q
  refine ⟨_, hb _ E ⟨cdv, A, outer, s, H, rfl⟩ ⟨rfl, hr, zsx⟩ ⟨PassesOwn.leaving⟩ G, G, zd4 nN ds, ?_, .refl e, ?_⟩
  ·have := Reps.startOk e (N.length - vs.length) r
   unfold L2.start zd4
   rw [← hN, r.length]
   exact .zero this
  ·cases hbd : body (zd4 nN ds) with
   | bad => rw [hbd] at q'; exact q'
   | err e => rw [hbd] at q'; exact q'
   | ok o =>
    rw [hbd] at q'
    cases o with
    | rt d => exact fun v G' H' s r => (show zaq K mg Q G H d from q') v G' H' s r
    | rf es =>
     intro a vs G' H' s n e g r
     have q2 : zaq K mg Q G H (.lst es) := q'
     have sg : zaK G' (upd G' a (.lst vs)) := zci g
     refine q2 (.ref a) (upd G' a (.lst vs)) H' ⟨s.g.trans sg, s.h, fun b u p => ?_, fun b u p1 p2 => ?_⟩ ⟨a, vs, rfl, SqL.of zau, r.mono sg⟩
     ·by_cases hb : b = a
      ·subst hb; rw [zau] at p; cases p; exact e
      ·rw [zax hb] at p; exact s.e b u p
     ·have hb : b ≠ a := zan p1 n
      rw [zax hb]; exact s.c b u p1 p2
    | nx σ => exact fun σ' G' H' ok s _ => (show zaq K mg Q G H .non from q') .non G' H' s rfl
    | bk σ => exact (show False from q').elim
    | ct σ => exact (show False from q').elim
end
theorem XC.lc {X : Cx} {E : XK} {k : Nat} (C : XC X E k) (scope : Scope) (NY : List Str) (s0 : Shared) (H0 : Hp) (Ca : Addr) (ex : List Addr) : XC (zd1 X scope NY s0 H0 Ca ex) E0 k := ⟨C.calm, C.room, zud⟩
end DL
end
section
set_option Elab.async false
set_option linter.all false
set_option maxRecDepth 100000
namespace DL
open PySem L2
mutual
def eqD : D → D → Bool
 | .non, .non => true
 | .bl a, .bl b => a == b
 | .int a, .int b => a == b
 | .str a, .str b => a == b
 | .bl a, .int b => (if a then (1 : Int) else 0) == b
 | .int a, .bl b => a == (if b then (1 : Int) else 0)
 | .tup xs, .tup ys => eqDs xs ys
 | .lst xs, .lst ys => eqDs xs ys
 | _, _ => false
def eqDs : List D → List D → Bool
 | [], [] => true
 | x :: xs, y :: ys => eqD x y && eqDs xs ys
 | _, _ => false
end
def zdx : Nat → D → Bool
 | _, .non => true
 | _, .bl _ => true
 | _, .int _ => true
 | _, .str _ => true
 | n + 1, .tup xs => xs.all (zdx n)
 | n + 1, .lst xs => xs.all (zdx n)
 | _, _ => false
theorem zdU : ∀ (xs ys : List D), ((List.range (min xs.length ys.length)).all (fun j => eqD (xs.getD j .non) (ys.getD j .non)) && xs.length == ys.length) = eqDs xs ys
 | [], [] => by unfold eqDs; rfl
 | [], _ :: _ => by unfold eqDs; simp
 | _ :: _, [] => by unfold eqDs; simp
 | x :: xs, y :: ys => by
  unfold eqDs
  rw [← zdU xs ys]
  simp only [List.length_cons, Nat.succ_min_succ, List.range_succ_eq_map, List.all_cons, List.getD_cons_zero, List.all_map, Bool.and_assoc]
  congr 2
  rw [Bool.eq_iff_iff]; simp
theorem zhC : ∀ (n : Nat) (d : D), zdx n d = true → eqD d d = true := by
 intro n
 induction n with
 | zero => intro d h; cases d <;> first | (simp [zdx] at h; done) | (unfold eqD; simp; done)
 | succ n ih =>
  have hl : ∀ xs : List D, xs.all (zdx n) = true → eqDs xs xs = true := fun xs => by
   induction xs with
   | nil => intro _; unfold eqDs; rfl
   | cons x xs ihx =>
    intro h
    rw [List.all_cons, Bool.and_eq_true] at h
    unfold eqDs
    rw [ih x h.1, ihx h.2]; rfl
  intro d h
  cases d with
  | tup xs => unfold eqD; exact hl xs (by unfold zdx at h; exact h)
  | lst xs => unfold eqD; exact hl xs (by unfold zdx at h; exact h)
  | _ => first | (simp [zdx] at h; done) | (unfold eqD; simp; done)
def vOf : D → Option V
 | .non => some .non
 | .bl b => some (.bl b)
 | .int i => some (.int i)
 | .str x => some (.str x)
 | _ => none
theorem zbT {K : PySem.W.Frag} {mg : Str → Option Value} {G : Hp} {d : D} {v x : V} (h : vOf d = some v) (r : Rep K mg G d x) : x = v ∧ zji v = true := by
 cases d <;> first | (simp [vOf] at h; done) | (simp only [vOf, Option.some.injEq] at h; subst h; simp only [Rep] at r; exact ⟨r, rfl⟩)
theorem zox {d d' : D} {v v' : V} (h : vOf d = some v) (h' : vOf d' = some v') : eqD d d' = eqV v v' := by
 cases d <;> first | (simp [vOf] at h; done) | (simp only [vOf, Option.some.injEq] at h; subst h; cases d' <;> first | (simp [vOf] at h'; done) | (simp only [vOf, Option.some.injEq] at h'; subst h'; unfold eqD eqV; first | rfl | simp))
theorem zmx {d d' : D} {v : V} (h : vOf d = some v) (h' : vOf d' = some v) : d = d' := by
 cases d <;> first | (simp [vOf] at h; done) | (simp only [vOf, Option.some.injEq] at h; subst h; cases d' <;> first | (simp [vOf] at h'; done) | (simp only [vOf, Option.some.injEq] at h'; cases h'; rfl))
theorem zbf {n : Nat} {d : D} (h : zdx n d = true) : (∃ v, vOf d = some v) ∨ (∃ m xs, n = m + 1 ∧ d = .tup xs ∧ xs.all (zdx m) = true) ∨ (∃ m xs, n = m + 1 ∧ d = .lst xs ∧ xs.all (zdx m) = true) := by
 cases d with
 | tup xs => cases n with
  | zero => simp [zdx] at h
  | succ m => exact .inr (.inl ⟨m, xs, rfl, rfl, by unfold zdx at h; exact h⟩)
 | lst xs => cases n with
  | zero => simp [zdx] at h
  | succ m => exact .inr (.inr ⟨m, xs, rfl, rfl, by unfold zdx at h; exact h⟩)
 | non => exact .inl ⟨_, rfl⟩
 | bl b => exact .inl ⟨_, rfl⟩
 | int i => exact .inl ⟨_, rfl⟩
 | str x => exact .inl ⟨_, rfl⟩
 | _ => simp [zdx] at h
section
variable {X : Cx} {pins : List (Addr × Obj)} {σ : St} {G H : Hp} {s : Shared}
theorem zj3 (I : Inv X pins σ H s) {a : Addr} {xs ys : List V} (h1 : SqT X.K H a xs) (h2 : SqL X.K H a ys) : False := by
 obtain ⟨_, _, ⟨o, e, c, _⟩, _⟩ := I.tuple h1
 obtain ⟨_, _, ⟨o', _, e', c', _⟩, _⟩ := I.list h2
 rw [e] at e'; cases e'
 rw [c] at c'
 exact absurd c' (by simp)
theorem zdV {v : V} {a : Addr} (h : zji v = true) : v ≠ .ref a := by rintro rfl; cases h
theorem zjp (I : Inv X pins σ H s) (e : zaK G H) : ∀ (n : Nat) {d d' : D} {v : V}, zdx n d = true → zdx n d' = true → Rep X.K X.mg G d v → Rep X.K X.mg G d' v → d = d' := by
 intro n
 induction n with
 | zero =>
  intro d d' v h h' r r'
  rcases zbf h with ⟨w, hw⟩ | ⟨_, _, z, _⟩ | ⟨_, _, z, _⟩ <;> try omega
  rcases zbf h' with ⟨w', hw'⟩ | ⟨_, _, z, _⟩ | ⟨_, _, z, _⟩ <;> try omega
  have e1 := (zbT hw r).1
  have e2 := (zbT hw' r').1
  rw [← e1] at hw; rw [← e2] at hw'
  exact zmx hw hw'
 | succ n ih =>
  have hl : ∀ (xs ys : List D) (vs : List V), xs.all (zdx n) = true → ys.all (zdx n) = true → Reps X.K X.mg G xs vs → Reps X.K X.mg G ys vs → xs = ys := by
   intro xs
   induction xs with
   | nil =>
    intro ys vs _ _ r r'
    cases r
    cases ys with
    | nil => rfl
    | cons y ys => obtain ⟨_, _, z, _⟩ := r'; cases z
   | cons x xs ihx =>
    intro ys vs h h' r r'
    obtain ⟨v, t, rfl, r1, r2⟩ := r
    cases ys with
    | nil => cases r'
    | cons y ys =>
     obtain ⟨v', t', z, r1', r2'⟩ := r'
     cases z
     rw [List.all_cons, Bool.and_eq_true] at h h'
     rw [ih h.1 h'.1 r1 r1', ihx ys _ h.2 h'.2 r2 r2']
  intro d d' v h h' r r'
  rcases zbf h with ⟨w, hw⟩ | ⟨m, xs, hm, rfl, hx⟩ | ⟨m, xs, hm, rfl, hx⟩
  ·rcases zbf h' with ⟨w', hw'⟩ | ⟨m', ys, hm', rfl, hy⟩ | ⟨m', ys, hm', rfl, hy⟩
   ·have e1 := (zbT hw r).1
    have e2 := (zbT hw' r').1
    rw [← e1] at hw; rw [← e2] at hw'
    exact zmx hw hw'
   ·obtain ⟨e1, e2⟩ := zbT hw r
    obtain ⟨a, vs, z, _⟩ := r'
    exact absurd (e1.symm.trans z) (zdV e2)
   ·obtain ⟨e1, e2⟩ := zbT hw r
    obtain ⟨a, vs, z, _⟩ := r'
    exact absurd (e1.symm.trans z) (zdV e2)
  ·obtain rfl : n = m := by omega
   obtain ⟨a, vs, rfl, q1, q2⟩ := r
   rcases zbf h' with ⟨w', hw'⟩ | ⟨m', ys, hm', rfl, hy⟩ | ⟨m', ys, hm', rfl, hy⟩
   ·obtain ⟨e1, e2⟩ := zbT hw' r'
    exact absurd e1.symm (zdV e2)
   ·obtain rfl : n = m' := by omega
    obtain ⟨a', vs', z, q1', q2'⟩ := r'
    cases z
    have := I.tuple_inj (zaK.sqT e q1) (zaK.sqT e q1')
    subst this
    rw [hl xs ys _ hx hy q2 q2']
   ·obtain ⟨a', vs', z, q1', q2'⟩ := r'
    cases z
    exact (zj3 I (zaK.sqT e q1) (e.seq q1')).elim
  ·obtain rfl : n = m := by omega
   obtain ⟨a, vs, rfl, q1, q2⟩ := r
   rcases zbf h' with ⟨w', hw'⟩ | ⟨m', ys, hm', rfl, hy⟩ | ⟨m', ys, hm', rfl, hy⟩
   ·obtain ⟨e1, e2⟩ := zbT hw' r'
    exact absurd e1.symm (zdV e2)
   ·obtain ⟨a', vs', z, q1', q2'⟩ := r'
    cases z
    exact (zj3 I (zaK.sqT e q1') (e.seq q1)).elim
   ·obtain rfl : n = m' := by omega
    obtain ⟨a', vs', z, q1', q2'⟩ := r'
    cases z
    have := I.list_inj (e.seq q1) (e.seq q1')
    subst this
    rw [hl xs ys _ hx hy q2 q2']
theorem zsL {α : Type} {us : List α} {j : Nat} (h : j < us.toArray.size) : us.toArray[j] = us[j]'(by simpa using h) := by simp
theorem zmy {α : Type} {xs : List α} {d : α} {j : Nat} (h : j < xs.length) : xs.getD j d = xs[j] := by simp [List.getD, h]
open SeqAt in
theorem zfz {A : Around} {n : Nat} (ih : ∀ {d d' : D} {x x' : V} {u u' : Value}, zdx n d = true → zdx n d' = true → Rep X.K X.mg G d x → zbz x u → Rep X.K X.mg G d' x' → zbz x' u' → EqAt A s u u' (eqD d d'))
  {xs ys : List D} {vs ws : List V} {us us' : List Value} (h : xs.all (zdx n) = true) (h' : ys.all (zdx n) = true) (r : Reps X.K X.mg G xs vs) (q : zbt vs us) (r' : Reps X.K X.mg G ys ws) (q' : zbt ws us') :
  ∀ j (h1 : j < us.toArray.size) (h2 : j < us'.toArray.size), EqAt A s us.toArray[j] us'.toArray[j] (eqD (xs.getD j .non) (ys.getD j .non)) := by
 intro j h1 h2
 have l1 : j < vs.length := by rw [q.length]; simpa using h1
 have l2 : j < ws.length := by rw [q'.length]; simpa using h2
 have l3 : j < xs.length := by rw [r.length]; exact l1
 have l4 : j < ys.length := by rw [r'.length]; exact l2
 obtain ⟨v, e1, e2⟩ := r.get (i := j) (d := xs[j]) (by simp [l3])
 obtain ⟨w, e3, e4⟩ := r'.get (i := j) (d := ys[j]) (by simp [l4])
 obtain ⟨u, e5, e6⟩ := q.get e1
 obtain ⟨u', e7, e8⟩ := q'.get e3
 have z1 : us.toArray[j] = u := by rw [zsL h1]; exact (List.getElem?_eq_some_iff.mp e5).2
 have z2 : us'.toArray[j] = u' := by rw [zsL h2]; exact (List.getElem?_eq_some_iff.mp e7).2
 rw [z1, z2, zmy l3, zmy l4]
 exact ih (List.all_eq_true.mp h _ (List.getElem_mem l3)) (List.all_eq_true.mp h' _ (List.getElem_mem l4)) e2 e6 e4 e8
theorem in1_units (A : Around) : A.in1.units = A.units + 1 := rfl
open SeqAt in
theorem zsM {A : Around} {x x' : V} {u u' : Value} (q : zbz x u) (q' : zbz x' u') (f : zji x = true) (f' : zji x' = true) : RcAt A s u u' (eqV x x') ∧ RcNeAt A s u u' (!eqV x x') := by
 cases x with
 | non =>
  cases (show u = Value.none from q)
  cases x' with
  | non => cases (show u' = Value.none from q'); exact ⟨RcAt.none_none, RcNeAt.none_none⟩
  | bl b => cases (show u' = Value.bool b from q'); exact ⟨RcAt.none_bool b, RcNeAt.none_bool b⟩
  | int b => obtain ⟨tb, rfl⟩ := (show ∃ t, u' = Value.int b t from q'); exact ⟨RcAt.none_int b tb, RcNeAt.none_int b tb⟩
  | str b => obtain ⟨tb, rfl⟩ := (show ∃ t, u' = Value.str b t from q'); exact ⟨RcAt.none_str b tb, RcNeAt.none_str b tb⟩
  | _ => cases f'
 | bl a =>
  cases (show u = Value.bool a from q)
  cases x' with
  | non => cases (show u' = Value.none from q'); exact ⟨RcAt.bool_none a, RcNeAt.bool_none a⟩
  | bl b => cases (show u' = Value.bool b from q'); exact ⟨RcAt.bool_bool a b, RcNeAt.bool_bool a b⟩
  | int b => obtain ⟨tb, rfl⟩ := (show ∃ t, u' = Value.int b t from q'); exact ⟨RcAt.bool_int a b tb, RcNeAt.bool_int a b tb⟩
  | str b => obtain ⟨tb, rfl⟩ := (show ∃ t, u' = Value.str b t from q'); exact ⟨RcAt.bool_str a b tb, RcNeAt.bool_str a b tb⟩
  | _ => cases f'
 | int a =>
  obtain ⟨ta, rfl⟩ := (show ∃ t, u = Value.int a t from q)
  cases x' with
  | non => cases (show u' = Value.none from q'); exact ⟨RcAt.int_none a ta, RcNeAt.int_none a ta⟩
  | bl b => cases (show u' = Value.bool b from q'); exact ⟨RcAt.int_bool a ta b, RcNeAt.int_bool a ta b⟩
  | int b => obtain ⟨tb, rfl⟩ := (show ∃ t, u' = Value.int b t from q'); exact ⟨RcAt.int_int a ta b tb, RcNeAt.int_int a ta b tb⟩
  | str b => obtain ⟨tb, rfl⟩ := (show ∃ t, u' = Value.str b t from q'); exact ⟨RcAt.int_str a ta b tb, RcNeAt.int_str a ta b tb⟩
  | _ => cases f'
 | str a =>
  obtain ⟨ta, rfl⟩ := (show ∃ t, u = Value.str a t from q)
  cases x' with
  | non => cases (show u' = Value.none from q'); exact ⟨RcAt.str_none a ta, RcNeAt.str_none a ta⟩
  | bl b => cases (show u' = Value.bool b from q'); exact ⟨RcAt.str_bool a ta b, RcNeAt.str_bool a ta b⟩
  | int b => obtain ⟨tb, rfl⟩ := (show ∃ t, u' = Value.int b t from q'); exact ⟨RcAt.str_int a ta b tb, RcNeAt.str_int a ta b tb⟩
  | str b => obtain ⟨tb, rfl⟩ := (show ∃ t, u' = Value.str b t from q'); exact ⟨RcAt.str_str a ta b tb, RcNeAt.str_str a ta b tb⟩
  | _ => cases f'
 | _ => cases f
open SeqAt in
theorem zcJ {A : Around} {x : V} {u : Value} {b : Addr} {items : Array Value} (fx : zji x = true) (q : zbz x u) (hA : A.units < cLine) (h : s.heap.IsTuple b items ∨ s.heap.IsList b items) : EqAt A s u (.ref b) false ∧ EqAt A s (.ref b) u false ∧ RcAt A s u (.ref b) false ∧ RcAt A s (.ref b) u false ∧ RcNeAt A s u (.ref b) true ∧ RcNeAt A s (.ref b) u true := by
 cases x with
 | non =>
  obtain rfl : u = Value.none := q
  rcases h with h | h
  ·exact ⟨EqAt.none_tuple h hA, EqAt.tuple_none h hA, RcAt.none_tuple h hA, RcAt.tuple_none h hA, RcNeAt.none_tuple h hA, RcNeAt.tuple_none h hA⟩
  ·exact ⟨EqAt.none_list h hA, EqAt.list_none h hA, RcAt.none_list h hA, RcAt.list_none h hA, RcNeAt.none_list h hA, RcNeAt.list_none h hA⟩
 | bl a =>
  obtain rfl : u = Value.bool a := q
  rcases h with h | h
  ·exact ⟨EqAt.bool_tuple _ h hA, EqAt.tuple_bool _ h hA, RcAt.bool_tuple _ h hA, RcAt.tuple_bool _ h hA, RcNeAt.bool_tuple _ h hA, RcNeAt.tuple_bool _ h hA⟩
  ·exact ⟨EqAt.bool_list _ h hA, EqAt.list_bool _ h hA, RcAt.bool_list _ h hA, RcAt.list_bool _ h hA, RcNeAt.bool_list _ h hA, RcNeAt.list_bool _ h hA⟩
 | int a =>
  obtain ⟨t, rfl⟩ : ∃ t, u = Value.int a t := q
  rcases h with h | h
  ·exact ⟨EqAt.int_tuple _ _ h hA, EqAt.tuple_int _ _ h hA, RcAt.int_tuple _ _ h hA, RcAt.tuple_int _ _ h hA, RcNeAt.int_tuple _ _ h hA, RcNeAt.tuple_int _ _ h hA⟩
  ·exact ⟨EqAt.int_list _ _ h hA, EqAt.list_int _ _ h hA, RcAt.int_list _ _ h hA, RcAt.list_int _ _ h hA, RcNeAt.int_list _ _ h hA, RcNeAt.list_int _ _ h hA⟩
 | str a =>
  obtain ⟨t, rfl⟩ : ∃ t, u = Value.str a t := q
  rcases h with h | h
  ·exact ⟨EqAt.str_tuple _ _ h hA, EqAt.tuple_str _ _ h hA, RcAt.str_tuple _ _ h hA, RcAt.tuple_str _ _ h hA, RcNeAt.str_tuple _ _ h hA, RcNeAt.tuple_str _ _ h hA⟩
  ·exact ⟨EqAt.str_list _ _ h hA, EqAt.list_str _ _ h hA, RcAt.str_list _ _ h hA, RcAt.list_str _ _ h hA, RcNeAt.str_list _ _ h hA, RcNeAt.list_str _ _ h hA⟩
 | _ => cases fx
theorem zev {xs ys : List D} : eqD (.tup xs) (.tup ys) = eqDs xs ys ∧ eqD (.lst xs) (.lst ys) = eqDs xs ys ∧ eqD (.tup xs) (.lst ys) = false ∧ eqD (.lst xs) (.tup ys) = false := by
 refine ⟨?_, ?_, ?_, ?_⟩ <;> (unfold eqD; rfl)
theorem zda {d : D} {v : V} {ys : List D} (h : vOf d = some v) : eqD d (.tup ys) = false ∧ eqD d (.lst ys) = false ∧ eqD (.tup ys) d = false ∧ eqD (.lst ys) d = false := by
 cases d <;> first | (simp [vOf] at h; done) | (refine ⟨?_, ?_, ?_, ?_⟩ <;> (unfold eqD; rfl))
set_option maxHeartbeats 4000000 in
open SeqAt in
theorem zmz (I : Inv X pins σ H s) (e : zaK G H) : ∀ (n : Nat) {A : Around} {d d' : D} {x x' : V} {u u' : Value}, A.units + n < cLine → zdx n d = true → zdx n d' = true → Rep X.K X.mg G d x → zbz x u → Rep X.K X.mg G d' x' → zbz x' u' →
  EqAt A s u u' (eqD d d') ∧ RcAt A s u u' (eqD d d') ∧ RcNeAt A s u u' (!eqD d d') := by
 have ff : ∀ {A : Around} {d d' : D} {v v' x x' : V} {u u' : Value}, vOf d = some v → vOf d' = some v' → Rep X.K X.mg G d x → zbz x u → Rep X.K X.mg G d' x' → zbz x' u' → EqAt A s u u' (eqD d d') ∧ RcAt A s u u' (eqD d d') ∧ RcNeAt A s u u' (!eqD d d') := by
  intro A d d' v v' x x' u u' hv hv' r q r' q'
  obtain ⟨rfl, f1⟩ := zbT hv r
  obtain ⟨rfl, f2⟩ := zbT hv' r'
  rw [zox hv hv']
  exact ⟨zss q q' f1 f2, zsM q q' f1 f2⟩
 have seq : ∀ {d : D} {m : Nat} {xs : List D} {x : V} {u : Value}, d = .tup xs ∨ d = .lst xs → Rep X.K X.mg G d x → zbz x u → ∃ b items, u = .ref b ∧ (s.heap.IsTuple b items ∨ s.heap.IsList b items) := by
  intro d m xs x u hd r q
  rcases hd with rfl | rfl
  ·obtain ⟨a, vs, rfl, q1, q2⟩ := r
   obtain ⟨us, v1, t1, _⟩ := I.tuple (zaK.sqT e q1)
   exact ⟨a, _, q, .inl t1⟩
  ·obtain ⟨a, vs, rfl, q1, q2⟩ := r
   obtain ⟨us, v1, t1, _⟩ := I.list (e.seq q1)
   exact ⟨a, _, q, .inr t1.isList⟩
 intro n
 induction n with
 | zero =>
  intro A d d' x x' u u' hu h h' r q r' q'
  rcases zbf h with ⟨w, hw⟩ | ⟨_, _, z, _⟩ | ⟨_, _, z, _⟩ <;> try omega
  rcases zbf h' with ⟨w', hw'⟩ | ⟨_, _, z, _⟩ | ⟨_, _, z, _⟩ <;> try omega
  exact ff hw hw' r q r' q'
 | succ n ih =>
  intro A d d' x x' u u' hu h h' r q r' q'
  have hA : A.units < cLine := by omega
  have ih' : ∀ {d d' : D} {x x' : V} {u u' : Value}, zdx n d = true → zdx n d' = true → Rep X.K X.mg G d x → zbz x u → Rep X.K X.mg G d' x' → zbz x' u' → EqAt A.in1 s u u' (eqD d d') :=
   fun a b c d e f => (ih (A := A.in1) (by rw [in1_units]; omega) a b c d e f).1
  rcases zbf h with ⟨w, hw⟩ | ⟨m, xs, hm, rfl, hx⟩ | ⟨m, xs, hm, rfl, hx⟩
  ·rcases zbf h' with ⟨w', hw'⟩ | ⟨m', ys, hm', rfl, hy⟩ | ⟨m', ys, hm', rfl, hy⟩
   ·exact ff hw hw' r q r' q'
   ·obtain ⟨rfl, f1⟩ := zbT hw r
    obtain ⟨b, items, rfl, hb⟩ := seq (m := m') (.inl rfl) r' q'
    obtain ⟨z1, _, z3, _, z5, _⟩ := zcJ f1 q hA hb
    rw [(zda hw).1]; exact ⟨z1, z3, z5⟩
   ·obtain ⟨rfl, f1⟩ := zbT hw r
    obtain ⟨b, items, rfl, hb⟩ := seq (m := m') (.inr rfl) r' q'
    obtain ⟨z1, _, z3, _, z5, _⟩ := zcJ f1 q hA hb
    rw [(zda hw).2.1]; exact ⟨z1, z3, z5⟩
  ·obtain rfl : n = m := by omega
   rcases zbf h' with ⟨w', hw'⟩ | ⟨m', ys, hm', rfl, hy⟩ | ⟨m', ys, hm', rfl, hy⟩
   ·obtain ⟨rfl, f1⟩ := zbT hw' r'
    obtain ⟨b, items, rfl, hb⟩ := seq (m := n) (.inl rfl) r q
    obtain ⟨_, z2, _, z4, _, z6⟩ := zcJ f1 q' hA hb
    rw [(zda hw').2.2.1]; exact ⟨z2, z4, z6⟩
   ·obtain rfl : n = m' := by omega
    have hr := r; have hr' := r'
    obtain ⟨a, vs, rfl, q1, q2⟩ := r
    obtain rfl : u = Value.ref a := q
    obtain ⟨us, v1, t1, _⟩ := I.tuple (zaK.sqT e q1)
    obtain ⟨b, ws, rfl, q1', q2'⟩ := r'
    obtain rfl : u' = Value.ref b := q'
    obtain ⟨us', v1', t1', _⟩ := I.tuple (zaK.sqT e q1')
    have t1 : s.heap.IsTuple a us.toArray := t1
    have t1' : s.heap.IsTuple b us'.toArray := t1'
    have z := RcAt.tuples t1 t1' hA (zfz ih' hx hy q2 v1 q2' v1')
    have zn := RcNeAt.tuples t1 t1' hA (zfz ih' hx hy q2 v1 q2' v1')
    have hz : ((List.range (min us.toArray.size us'.toArray.size)).all (fun j => eqD (xs.getD j .non) (ys.getD j .non)) && us.toArray.size == us'.toArray.size) = eqD (.tup xs) (.tup ys) := by
     rw [zev.1, ← zdU]
     simp only [List.size_toArray, ← v1.length, ← v1'.length, ← q2.length, ← q2'.length]
    rw [hz] at z zn
    refine ⟨?_, z, zn⟩
    by_cases hab : a = b
    ·subst hab
     have ed := zjp I e (n + 1) h h' hr hr'
     rw [ed, zhC _ _ h']; exact EqAt.same _
    ·exact EqAt.of_refs hab z
   ·obtain ⟨a, vs, rfl, q1, q2⟩ := r
    obtain rfl : u = Value.ref a := q
    obtain ⟨us, v1, t1, _⟩ := I.tuple (zaK.sqT e q1)
    obtain ⟨b, ws, rfl, q1', q2'⟩ := r'
    obtain rfl : u' = Value.ref b := q'
    obtain ⟨us', v1', t1', _⟩ := I.list (e.seq q1')
    have t1 : s.heap.IsTuple a us.toArray := t1
    rw [zev.2.2.1]
    exact ⟨EqAt.tuple_list t1 t1'.isList hA, RcAt.tuple_list t1 t1'.isList hA, RcNeAt.tuple_list t1 t1'.isList hA⟩
  ·obtain rfl : n = m := by omega
   rcases zbf h' with ⟨w', hw'⟩ | ⟨m', ys, hm', rfl, hy⟩ | ⟨m', ys, hm', rfl, hy⟩
   ·obtain ⟨rfl, f1⟩ := zbT hw' r'
    obtain ⟨b, items, rfl, hb⟩ := seq (m := n) (.inr rfl) r q
    obtain ⟨_, z2, _, z4, _, z6⟩ := zcJ f1 q' hA hb
    rw [(zda hw').2.2.2]; exact ⟨z2, z4, z6⟩
   ·obtain ⟨a, vs, rfl, q1, q2⟩ := r
    obtain rfl : u = Value.ref a := q
    obtain ⟨us, v1, t1, _⟩ := I.list (e.seq q1)
    obtain ⟨b, ws, rfl, q1', q2'⟩ := r'
    obtain rfl : u' = Value.ref b := q'
    obtain ⟨us', v1', t1', _⟩ := I.tuple (zaK.sqT e q1')
    have t1' : s.heap.IsTuple b us'.toArray := t1'
    rw [zev.2.2.2]
    exact ⟨EqAt.list_tuple t1.isList t1' hA, RcAt.list_tuple t1.isList t1' hA, RcNeAt.list_tuple t1.isList t1' hA⟩
   ·obtain rfl : n = m' := by omega
    have hr := r; have hr' := r'
    obtain ⟨a, vs, rfl, q1, q2⟩ := r
    obtain rfl : u = Value.ref a := q
    obtain ⟨us, v1, t1, _⟩ := I.list (e.seq q1)
    obtain ⟨b, ws, rfl, q1', q2'⟩ := r'
    obtain rfl : u' = Value.ref b := q'
    obtain ⟨us', v1', t1', _⟩ := I.list (e.seq q1')
    have both : RcAt A s (.ref a) (.ref b) (eqD (.lst xs) (.lst ys)) ∧ RcNeAt A s (.ref a) (.ref b) (!eqD (.lst xs) (.lst ys)) := by
     by_cases hl : us.toArray.size = us'.toArray.size
     ·have z := RcAt.lists t1.isList t1'.isList hl hA (zfz ih' hx hy q2 v1 q2' v1')
      have zn := RcNeAt.lists t1.isList t1'.isList hl hA (zfz ih' hx hy q2 v1 q2' v1')
      have hz : (List.range us.toArray.size).all (fun j => eqD (xs.getD j .non) (ys.getD j .non)) = eqD (.lst xs) (.lst ys) := by
       have hl' : xs.length = ys.length := by rw [q2.length, q2'.length, v1.length, v1'.length]; simpa using hl
       rw [zev.2.1, ← zdU, hl', Nat.min_self, List.size_toArray, ← v1.length, ← q2.length, hl']
       simp
      rw [hz] at z zn
      exact ⟨z, zn⟩
     ·have z := RcAt.lists_lengths t1.isList t1'.isList (by simpa using hl) hA
      have zn := RcNeAt.lists_lengths t1.isList t1'.isList (by simpa using hl) hA
      have hz : eqD (.lst xs) (.lst ys) = false := by
       have hl' : ¬ xs.length = ys.length := by rw [q2.length, q2'.length, v1.length, v1'.length]; simpa using hl
       rw [zev.2.1, ← zdU]
       simp [hl']
      rw [hz]
      exact ⟨z, zn⟩
    refine ⟨?_, both⟩
    by_cases hab : a = b
    ·subst hab
     have ed := zjp I e (n + 1) h h' hr hr'
     rw [ed, zhC _ _ h']; exact EqAt.same _
    ·exact EqAt.of_refs hab both.1
end
end DL
end
section
set_option Elab.async false
set_option linter.all false
set_option maxRecDepth 100000
namespace DL
open PySem L2 PyProof.Rows
def B (n : Nat) (i : Int) : Prop := i.natAbs < 2 ^ n
theorem B.mono {m n : Nat} {i : Int} (h : B m i) (l : m ≤ n) : B n i := Nat.lt_of_lt_of_le h (Nat.pow_le_pow_right (by decide) l)
theorem B.mul {m n : Nat} {i j : Int} (a : B m i) (b : B n j) : B (m + n) (i * j) := by
 unfold B at *
 rw [Int.natAbs_mul, Nat.pow_add]
 exact Nat.mul_lt_mul'' a b
theorem B.add {m n : Nat} {i j : Int} (a : B m i) (b : B n j) : B (max m n + 1) (i + j) := by
 have a' := a.mono (Nat.le_max_left m n)
 have b' := b.mono (Nat.le_max_right m n)
 unfold B at *
 rw [Nat.pow_succ]
 omega
theorem B.of {n : Nat} {i : Int} {k : Nat} (h : i.natAbs ≤ k) (hk : k < 2 ^ n := by decide +kernel) : B n i := Nat.lt_of_le_of_lt h hk
theorem B.log {n : Nat} {i : Int} (h : B n i) (hn : 0 < n) : i.natAbs.log2 < n := zld hn h
def zjf (i : Int) : Bool := decide (i.natAbs.log2 < 60000000)
theorem zmA {n : Nat} {i : Int} (h : B n i) (hn : n ≤ 60000000 := by decide) : zjf i = true := by
 refine decide_eq_true ?_
 cases n with
 | zero =>
  have : i.natAbs = 0 := by unfold B at h; omega
  rw [this]; decide
 | succ k => exact Nat.lt_of_lt_of_le (h.log (Nat.succ_pos _)) hn
theorem zq2 {i j : Int} (a : zjf i = true) (b : zjf j = true) : IntMulOk i j := by
 have h1 : i.natAbs.log2 < 60000000 := of_decide_eq_true a
 have h2 : j.natAbs.log2 < 60000000 := of_decide_eq_true b
 have bits : ∀ k : Int, k.natAbs.log2 < 60000000 → Builtin.Int.intBits k ≤ 60000000 := fun k h => by
  unfold Builtin.Int.intBits
  split
  ·exact Nat.zero_le _
  ·omega
 have b1 := bits i h1
 have b2 := bits j h2
 unfold IntMulOk
 intro z
 simp only [Bool.and_eq_true, decide_eq_true_eq, Builtin.Int.intTooBig] at z
 have e := z.2
 have l : (bitsLine : Int) = 134217728 := by decide
 rw [l] at e
 omega
def zn5 (i : Int) : Bool := decide (i ≠ 0 ∧ i.natAbs.log2 < 9000)
theorem zmB {n : Nat} {i : Int} (h : B n i) (h0 : i ≠ 0) (hn : n ≤ 9000 := by decide) : zn5 i = true := by
 refine decide_eq_true ⟨h0, ?_⟩
 cases n with
 | zero =>
  have : i.natAbs = 0 := by unfold B at h; omega
  omega
 | succ k => exact Nat.lt_of_lt_of_le (h.log (Nat.succ_pos _)) hn
def zur (i j : Int) : Bool := decide (0 ≤ j ∧ j ≤ 1000000 ∧ i.natAbs < 2 ^ 64)
section
variable {X : Cx} {K : PySem.W.Frag} {mg : Str → Option Value}
def gI (C : Int → Int → Bool) (h : Int → Int → Int) : D → D → R D
 | .int i, .int j => bif C i j then .ok (.int (h i j)) else .bad
 | _, _ => .bad
def gB (h : Int → Int → Bool) : D → D → R D
 | .int i, .int j => .ok (.bl (h i j))
 | _, _ => .bad
theorem zrM {C : Int → Int → Bool} {h : Int → Int → Int} : zeV (gI C h) := by
 intro a b e
 cases a <;> cases b <;> simp only [gI] <;> first | (intro z; cases z) | (intro z; revert z; cases C _ _ <;> simp [cond])
theorem zus {h : Int → Int → Bool} : zeV (gB h) := by
 intro a b e
 cases a <;> cases b <;> simp only [gB] <;> (intro z; cases z)
theorem zrN {C : Int → Int → Bool} {C' : Int → Int → Prop} {h : Int → Int → Int} (hc : ∀ i j, C i j = true → C' i j) : OpD K mg (rI C' fun i j => .int (h i j)) (gI C h) := by
 intro G H a b x y Q e ra rb q
 cases a with
 | int i => cases b with
  | int j =>
   cases ra; cases rb
   cases hC : C i j with
   | false => simp only [gI, hC, cond_false] at q; exact q.elim
   | true =>
    simp only [gI, hC, cond_true] at q
    exact ⟨i, j, rfl, rfl, hc i j hC, zaq.now q e rfl⟩
  | _ => exact (show False from q).elim
 | _ => exact (show False from q).elim
theorem zut {h : Int → Int → Bool} : OpD K mg (rI0 fun i j => .bl (h i j)) (gB h) := by
 intro G H a b x y Q e ra rb q
 cases a with
 | int i => cases b with
  | int j => cases ra; cases rb; exact ⟨i, j, rfl, rfl, zaq.now q e rfl⟩
  | _ => exact (show False from q).elim
 | _ => exact (show False from q).elim
theorem zq3 : OpR X (binaryOp .Mult) (rI (fun i j => zjf i = true ∧ zjf j = true) fun i j => .int (i * j)) := opI fun _ _ _ _ _ _ _ hc q => mul_int q (zq2 hc.1 hc.2)
theorem zoy : OpR X (binaryOp .FloorDiv) (rI (fun _ j => zn5 j = true) fun i j => .int (i.fdiv j)) := opI fun i j _ _ _ _ _ hc q => by
 have h := of_decide_eq_true (p := j ≠ 0 ∧ j.natAbs.log2 < 9000) hc
 exact floordiv_int h.1 q (.inl (PyProof.noPylong_of_log2 h.2))
def zsN (K : PySem.W.Frag) : R2 := fun x y H Q => ∃ l b xs zs, x = .ref l ∧ y = .ref b ∧ SqL K H l xs ∧ SqL K H b zs ∧ xs.length + zs.length ≤ sizeLine ∧ ∀ p, H p = none → Q (.ref p) (upd H p (.lst (xs ++ zs)))
theorem zmC : OpR X (binaryOp .Add) (zsN X.K) := by
 intro pins s σ H x y v u Q I rx ry h
 obtain ⟨l, b, xs, zs, rfl, rfl, hH, hB, hz, q⟩ := h
 cases rx
 cases ry
 obtain ⟨its, r, pl, _⟩ := I.list hH
 obtain ⟨its2, r2, pl2, _⟩ := I.list hB
 obtain ⟨⟨cls, dd, data, sl⟩, ho, hc, n, hd⟩ := id pl.isList
 obtain ⟨⟨cls2, dd2, data2, sl2⟩, ho2, hc2, n2, hd2⟩ := id pl2.isList
 simp only at hc hd hc2 hd2
 subst hc hd hc2 hd2
 refine concat_meets ⟨_, ho, rfl⟩ ⟨_, ho2, rfl⟩ noFill_list_add seq_list_add PySem.F.slot_list_add PySem.F.entry_list_add (PySem.F.args_list_add_2 _ _) (list_addW l b its.toArray its2.toArray n n2 dd dd2 sl sl2 (by rw [List.size_toArray, List.size_toArray, ← r.length, ← r2.length]; exact hz)) ⟨ho, ho2, ?_⟩
 have ea : its.toArray ++ its2.toArray = (its ++ its2).toArray := by simp
 rw [ea]
 exact ⟨.ref _, _, I.lnew (t' := s.toks) (r.append r2) (by rw [List.length_append]; exact hz), rfl, q _ I.fresh⟩
def zll (n : Nat) : Bool := decide (n ≤ sizeLine)
def zc5 : D → D → R D
 | .int i, .int j => .ok (.int (i + j))
 | .str x, .str y => bif zll (x.length + y.length) then .ok (.str (x ++ y)) else .bad
 | .lst xs, .lst ys => bif zll (xs.length + ys.length) then .ok (.lst (xs ++ ys)) else .bad
 | .tup xs, .tup ys => bif zll (xs.length + ys.length) && !xs.isEmpty then .ok (.tup (xs ++ ys)) else .bad
 | _, _ => .bad
theorem zsO : zeV zc5 := by
 intro a b e
 cases a <;> cases b <;> simp only [zc5] <;> first | (intro z; cases z; done) | (generalize zll _ = k; cases k <;> simp [cond] <;> (try (generalize List.isEmpty _ = k2; cases k2 <;> simp)))
abbrev zuu (K : PySem.W.Frag) : R2 := fun x y H Q => rI0 (fun i j => .int (i + j)) x y H Q ∨ ((∃ i j, x = .str i ∧ y = .str j ∧ i.length + j.length ≤ sizeLine ∧ Q (.str (i ++ j)) H) ∨ (zsN K x y H Q ∨ zsq K x y H Q))
theorem zsP : OpD K mg (zuu K) zc5 := by
 intro G H a b x y Q e ra rb q
 cases a with
 | int i => cases b with
  | int j => cases ra; cases rb; exact .inl ⟨i, j, rfl, rfl, zaq.now q e rfl⟩
  | _ => exact (show False from q).elim
 | str i => cases b with
  | str j =>
   cases ra; cases rb
   cases hC : zll (i.length + j.length) with
   | false => simp only [zc5, hC, cond_false] at q; exact q.elim
   | true =>
    simp only [zc5, hC, cond_true] at q
    exact .inr (.inl ⟨i, j, rfl, rfl, of_decide_eq_true hC, zaq.now q e rfl⟩)
  | _ => exact (show False from q).elim
 | lst xs => cases b with
  | lst ys =>
   obtain ⟨p, vs, rfl, h1, h2⟩ := ra
   obtain ⟨p', ws, rfl, h1', h2'⟩ := rb
   cases hC : zll (xs.length + ys.length) with
   | false => simp only [zc5, hC, cond_false] at q; exact q.elim
   | true =>
    simp only [zc5, hC, cond_true] at q
    refine .inr (.inr (.inl ⟨p, p', vs, ws, rfl, rfl, e.seq h1, e.seq h1', by rw [← h2.length, ← h2'.length]; exact of_decide_eq_true hC, fun l hl => ?_⟩))
    have s := zbA.pub (o := .lst (vs ++ ws)) e hl
    exact (show zaq K mg Q G H (.lst (xs ++ ys)) from q) _ _ _ s ⟨l, _, rfl, SqL.of zau, (h2.append h2').mono s.g⟩
  | _ => exact (show False from q).elim
 | tup xs => cases b with
  | tup ys =>
   obtain ⟨p, vs, rfl, h1, h2⟩ := ra
   obtain ⟨p', ws, rfl, h1', h2'⟩ := rb
   cases hC : (zll (xs.length + ys.length) && !xs.isEmpty) with
   | false => simp only [zc5, hC, cond_false] at q; exact q.elim
   | true =>
    simp only [zc5, hC, cond_true] at q
    rw [Bool.and_eq_true] at hC
    have q' : zaq K mg Q G H (.tup (xs ++ ys)) := q
    refine .inr (.inr (.inr ⟨p, p', vs, ws, rfl, rfl, zaK.sqT e h1, zaK.sqT e h1', fun z => ?_, by rw [← h2.length, ← h2'.length]; exact of_decide_eq_true hC.1, fun z => ?_, fun z l hl => ?_⟩))
    ·subst z
     have := h2.length
     have hx : xs = [] := List.length_eq_zero_iff.mp this
     subst hx; simp at hC
    ·subst z
     have := h2'.length
     have hy : ys = [] := List.length_eq_zero_iff.mp this
     subst hy
     rw [List.append_nil] at q'
     exact q'.now e ⟨p, vs, rfl, h1, h2⟩
    ·have s := zbA.pub (o := .tup (vs ++ ws)) e hl
     exact q' _ _ _ s ⟨l, _, rfl, SqT.of zau, (h2.append h2').mono s.g⟩
  | _ => exact (show False from q).elim
 | _ => exact (show False from q).elim
abbrev gSub : D → D → R D := gI (fun _ _ => true) fun i j => i - j
abbrev zel : D → D → R D := gI (fun i j => zjf i && zjf j) fun i j => i * j
abbrev zgH : D → D → R D := gI (fun _ j => zn5 j) fun i j => i.fdiv j
abbrev zeW : D → D → R D := gI (fun _ j => decide (j ≠ 0)) fun i j => i.fmod j
abbrev zuv : D → D → R D := gI zur fun i j => i ^ j.toNat
abbrev zuw : D → D → R D := gI (fun _ j => decide (0 ≤ j)) fun i j => i / 2 ^ j.toNat
variable {E : XK} {a b c : Expr} {fa fb fc : DSt → R D} {pos : Pos}
theorem za3 (ha : DE X E a fa) (hb : DE X E b fb) : DE X E (.BinOp a .Add b pos) (eOp zc5 fa fb) := zjm (zsf.or (zk8.or (zmC.or zqH))) zsP zsO ha hb
theorem zdl (ha : DE X E a fa) (hb : DE X E b fb) : DE X E (.BinOp a .Sub b pos) (eOp gSub fa fb) :=
 zjm (r := rI (fun _ _ => True) fun i j => .int (i - j)) (opI fun _ _ _ _ _ _ _ _ q => sub_int q) (zrN fun _ _ _ => trivial) zrM ha hb
theorem za5 (ha : DE X E a fa) (hb : DE X E b fb) : DE X E (.BinOp a .Mult b pos) (eOp zel fa fb) := zjm zq3 (zrN fun i j h => by simpa using h) zrM ha hb
theorem zeX (ha : DE X E a fa) (hb : DE X E b fb) : DE X E (.BinOp a .FloorDiv b pos) (eOp zgH fa fb) := zjm zoy (zrN fun i j h => h) zrM ha hb
theorem zby (ha : DE X E a fa) (hb : DE X E b fb) : DE X E (.BinOp a .Mod b pos) (eOp zeW fa fb) := zjm zqy (zrN fun i j h => of_decide_eq_true h) zrM ha hb
theorem zsQ (ha : DE X E a fa) (hb : DE X E b fb) : DE X E (.BinOp a .Pow b pos) (eOp zuv fa fb) := zjm zsg (zrN fun i j h => of_decide_eq_true (p := 0 ≤ j ∧ j ≤ 1000000 ∧ i.natAbs < 2 ^ 64) h) zrM ha hb
theorem zsR (ha : DE X E a fa) (hb : DE X E b fb) : DE X E (.BinOp a .RShift b pos) (eOp zuw fa fb) := zjm zsh (zrN fun i j h => of_decide_eq_true h) zrM ha hb
def zrO : D → R D
 | .int i => .ok (.int (-i))
 | _ => .bad
theorem zmD (ha : DE X E a fa) : DE X E (.UnaryOp .USub a pos) (eUn zrO fa) := by
 refine zul zsi (fun G H d x Q e r q => ?_) (fun d e => ?_) ha
 ·cases d with
  | int i => cases r; exact ⟨i, rfl, zaq.now q e rfl⟩
  | _ => exact (show False from q).elim
 ·cases d <;> simp [zrO]
structure zlm (X : Cx) (op : CmpOp) (g : D → D → R D) : Prop where
 ex : ∃ r, OpR X (compareOp op) r ∧ OpD X.K X.mg r g ∧ zeV g
abbrev gLt : D → D → R D := gB fun i j => decide (i < j)
abbrev gLe : D → D → R D := gB fun i j => decide (i ≤ j)
abbrev gGt : D → D → R D := gB fun i j => decide (j < i)
abbrev gGe : D → D → R D := gB fun i j => decide (j ≤ i)
theorem zoz : zlm X .Lt gLt := ⟨_, ztV, zut, zus⟩
theorem zoA : zlm X .LtE gLe := ⟨_, ztW, zut, zus⟩
theorem zux : zlm X .GtE gGe := ⟨_, ztX, zut, zus⟩
def zlG (a b : D) : Bool := zdx 9 a && zdx 9 b
def gEq (a b : D) : R D := bif zlG a b then .ok (.bl (eqD a b)) else .bad
def gNe (a b : D) : R D := bif zlG a b then .ok (.bl (!eqD a b)) else .bad
def rEqD (K : PySem.W.Frag) (mg : Str → Option Value) (neg : Bool) : R2 := fun x y H Q => ∃ G d d', zaK G H ∧ Rep K mg G d x ∧ Rep K mg G d' y ∧ zlG d d' = true ∧ Q (.bl (bif neg then !eqD d d' else eqD d d')) H
theorem zsS {k : Nat} (r : zfi k X.A) : OpR X (compareOp .Eq) (rEqD X.K X.mg false) := by
 intro pins s σ H x y v u Q I rx ry h
 obtain ⟨G, d, d', e, r1, r2, c, q⟩ := h
 unfold zlG at c
 rw [Bool.and_eq_true] at c
 have hu : X.A.units + 9 < cLine := by have := r.un; omega
 exact (zmz I e 9 hu c.1 c.2 r1 rx r2 ry).2.1 _ _ _ _ ⟨.bl _, H, I, rfl, q⟩
theorem zsT {k : Nat} (r : zfi k X.A) : OpR X (compareOp .NotEq) (rEqD X.K X.mg true) := by
 intro pins s σ H x y v u Q I rx ry h
 obtain ⟨G, d, d', e, r1, r2, c, q⟩ := h
 unfold zlG at c
 rw [Bool.and_eq_true] at c
 have hu : X.A.units + 9 < cLine := by have := r.un; omega
 exact (zmz I e 9 hu c.1 c.2 r1 rx r2 ry).2.2 _ _ _ _ ⟨.bl _, H, I, rfl, q⟩
theorem zew {k : Nat} (C : XC X E k) : zlm X .Eq gEq := ⟨_, zsS C.room, fun G H a b x y Q e ra rb q => by
 unfold gEq at q
 cases hc : zlG a b with
 | false => rw [hc] at q; exact q.elim
 | true => rw [hc] at q; exact ⟨G, a, b, e, ra, rb, hc, zaq.now q e rfl⟩, fun a b e => by unfold gEq; cases zlG a b <;> simp [cond]⟩
theorem zfo {k : Nat} (C : XC X E k) : zlm X .NotEq gNe := ⟨_, zsT C.room, fun G H a b x y Q e ra rb q => by
 unfold gNe at q
 cases hc : zlG a b with
 | false => rw [hc] at q; exact q.elim
 | true => rw [hc] at q; exact ⟨G, a, b, e, ra, rb, hc, zaq.now q e rfl⟩, fun a b e => by unfold gNe; cases zlG a b <;> simp [cond]⟩
def zjq : D → Bool
 | .non => true
 | _ => false
def gIs : D → D → R D
 | d, .non => .ok (.bl (zjq d))
 | .bl a, .bl b => .ok (.bl (a == b))
 | _, _ => .bad
def zps : D → D → R D
 | d, .non => .ok (.bl (!zjq d))
 | .bl a, .bl b => .ok (.bl (a != b))
 | _, _ => .bad
theorem zix {G : Hp} {d : D} {x : V} (r : Rep K mg G d x) : decide (x = .non) = zjq d := by
 have nr : ∀ a : Addr, decide (V.ref a = V.non) = false := fun a => by simp
 cases d with
 | non => cases r; rfl
 | bl b => cases r; rfl
 | int i => cases r; rfl
 | str y => cases r; rfl
 | ty n => cases r; rfl
 | cls c => obtain ⟨C, rfl, _⟩ := r; exact nr _
 | tup xs => obtain ⟨a, vs, rfl, _⟩ := r; exact nr _
 | lst xs => obtain ⟨a, vs, rfl, _⟩ := r; exact nr _
 | dct ks xs => obtain ⟨a, vs, rfl, _⟩ := r; exact nr _
 | exc c as => obtain ⟨a, C, dct, vs, rfl, _⟩ := r; exact nr _
theorem zuy : zlm X .Is gIs := ⟨_, zsj.or zoj, fun G H a b x y Q e ra rb q => by
 cases b with
 | non => cases rb; exact .inl ⟨rfl, by rw [zix ra]; cases a <;> exact zaq.now q e rfl⟩
 | bl k => cases a with
  | bl k' => cases ra; cases rb; exact .inr ⟨k', k, rfl, rfl, zaq.now q e rfl⟩
  | _ => exact (show False from q).elim
 | _ => cases a <;> exact (show False from q).elim, fun a b e => by cases a <;> cases b <;> simp [gIs]⟩
theorem zj4 : zlm X .IsNot zps := ⟨_, zqz.or zjj, fun G H a b x y Q e ra rb q => by
 cases b with
 | non => cases rb; exact .inl ⟨rfl, by rw [zix ra]; cases a <;> exact zaq.now q e rfl⟩
 | bl k => cases a with
  | bl k' => cases ra; cases rb; exact .inr ⟨k', k, rfl, rfl, zaq.now q e rfl⟩
  | _ => exact (show False from q).elim
 | _ => cases a <;> exact (show False from q).elim, fun a b e => by cases a <;> cases b <;> simp [zps]⟩
theorem zdb {op : CmpOp} {g : D → D → R D} (cf : zlm X op g) (ha : DE X E a fa) (hb : DE X E b fb) (hm : behindInMarks op b = false := by first | exact zak _ (by decide) (by decide) | rfl) : DE X E (.Compare a [op] [b] pos) (eOp g fa fb) := by
 obtain ⟨r, h1, h2, h3⟩ := cf.ex
 exact zsF h1 h2 h3 ha hb hm
theorem zaF {op : CmpOp} {g : D → D → R D} (cf : zlm X op g) (ha : DE X E a fa) (hb : DE X E b fb) (hm : behindInMarks op b = false := by first | exact zak _ (by decide) (by decide) | rfl) : DT X E (.Compare a [op] [b] pos) (zaB (eOp g fa fb)) := by
 obtain ⟨r, h1, h2, h3⟩ := cf.ex
 exact zsG h1 h2 h3 ha hb hm
theorem ziy {op op' : CmpOp} {g g' : D → D → R D} (cf : zlm X op g) (cf' : zlm X op' g') (ha : DE X E a fa) (hb : DE X E b fb) (hc : DE X E c fc) (hm : lastMarks [op, op'] [b, c] = false := by with_unfolding_all rfl) : DT X E (.Compare a [op, op'] [b, c] pos) (zaB (zg1 g g' fa fb fc)) := by
 obtain ⟨r, h1, h2, h3⟩ := cf.ex
 obtain ⟨r', h1', h2', h3'⟩ := cf'.ex
 exact zow h1 h2 h3 h1' h2' h3' ha hb hc hm
end
end DL
end
section
set_option Elab.async false
set_option linter.all false
set_option maxRecDepth 100000
namespace DL
open PySem L2 PyProof.Rows
section
variable {X : Cx} {E : XK} {K : PySem.W.Frag} {mg : Str → Option Value} {G H : Hp}
theorem zoB : bootBuiltins "all" = some (.builtin "all") := by rfl
theorem zoC : bootBuiltins "any" = some (.builtin "any") := by rfl
theorem zoD : bootBuiltins "isinstance" = some (.builtin "isinstance") := by rfl
theorem zpt : bootBuiltins "int" = some (.type "int") := by rfl
theorem zjr : bootBuiltins "bool" = some (.type "bool") := by rfl
theorem zhD : bootBuiltins "tuple" = some (.type "tuple") := by rfl
theorem zjs : bootBuiltins "list" = some (.type "list") := by rfl
theorem zhE : bootBuiltins "ValueError" = some (.type "ValueError") := by rfl
theorem Reps.one {d : D} {vs : List V} (h : Reps K mg G [d] vs) : ∃ v, vs = [v] ∧ Rep K mg G d v := by
 obtain ⟨v, r, rfl, h2, h3⟩ := h
 cases h3
 exact ⟨v, rfl, h2⟩
theorem Reps.two {d d' : D} {vs : List V} (h : Reps K mg G [d, d'] vs) : ∃ v w, vs = [v, w] ∧ Rep K mg G d v ∧ Rep K mg G d' w := by
 obtain ⟨v, r, rfl, h2, h3⟩ := h
 obtain ⟨w, rfl, h4⟩ := h3.one
 exact ⟨v, w, rfl, h2, h4⟩
def g1 {α : Type} (g : D → R α) : List D → R α
 | [d] => g d
 | _ => .bad
def g2 {α : Type} (g : D → D → R α) : List D → R α
 | [d, e] => g d e
 | _ => .bad
theorem cd1 {r : List V → Hp → VK → Prop} {g : D → R D} (h : ∀ (G H : Hp) (d : D) (v : V) (Q : VK), zaK G H → Rep K mg G d v → RW (g d) (zaq K mg Q G H) (fun _ => False) → r [v] H Q) : zfL K mg r (g1 g) := by
 intro G H ds vs Q e rp q
 match ds, rp, q with
 | [], rp, q => exact (show False from q).elim
 | [d], rp, q => obtain ⟨v, rfl, h1⟩ := rp.one; exact h G H d v Q e h1 q
 | _ :: _ :: _, rp, q => exact (show False from q).elim
theorem cd2 {r : List V → Hp → VK → Prop} {g : D → D → R D} (h : ∀ (G H : Hp) (d d' : D) (v v' : V) (Q : VK), zaK G H → Rep K mg G d v → Rep K mg G d' v' → RW (g d d') (zaq K mg Q G H) (fun _ => False) → r [v, v'] H Q) : zfL K mg r (g2 g) := by
 intro G H ds vs Q e rp q
 match ds, rp, q with
 | [], rp, q => exact (show False from q).elim
 | [d], rp, q => exact (show False from q).elim
 | [d, d'], rp, q => obtain ⟨v, w, rfl, h1, h2⟩ := rp.two; exact h G H d d' v w Q e h1 h2 q
 | _ :: _ :: _ :: _, rp, q => exact (show False from q).elim
variable {x : Str} {p pos : Pos} {e : Expr} {es : List Expr} {fs : DSt → R (List D)}
def zuz : D → R D
 | .lst xs => .ok (.int xs.length)
 | .tup xs => .ok (.int xs.length)
 | .str y => bif zll y.length then .ok (.int y.length) else .bad
 | _ => .bad
abbrev ze3 := g1 zuz
theorem zsU : zfL K mg (fun xs H Q => (∃ p ys, xs = [.ref p] ∧ (SqL K H p ys ∨ SqT K H p ys) ∧ Q (.int ys.length) H) ∨ (∃ z, xs = [.str z] ∧ z.length ≤ sizeLine ∧ Q (.int z.length) H)) ze3 := cd1 fun G H d v Q e r q => by
 cases d with
 | lst xs =>
  obtain ⟨a, vs, rfl, h1, h2⟩ := r
  exact .inl ⟨a, vs, rfl, .inl (e.seq h1), by rw [← h2.length]; exact zaq.now q e rfl⟩
 | tup xs =>
  obtain ⟨a, vs, rfl, h1, h2⟩ := r
  exact .inl ⟨a, vs, rfl, .inr (zaK.sqT e h1), by rw [← h2.length]; exact zaq.now q e rfl⟩
 | str y =>
  cases r
  cases hC : zll y.length with
  | false => simp only [zuz, hC, cond_false] at q; exact q.elim
  | true => simp only [zuz, hC, cond_true] at q; exact .inr ⟨y, rfl, of_decide_eq_true hC, zaq.now q e rfl⟩
 | _ => exact (show False from q).elim
theorem zch (hm : X.mg "len" = none) (ha : DA X E (e :: es) fs) (hg : Gl X "len" := by rfl) (he : starEach (e :: es) X.env = (false, eval e X.env) :: starEach es X.env := by rfl) (hpl : (backTo pos (starEach es X.env)).any (·.1) = false := by rfl) : DE X E (.Call (.Name "len" p) (e :: es) [] pos) (zbB ze3 fs) :=
 zg2 (zif.or zig) zsU hm PySem.boot_len ha hg (by decide) (by decide) he hpl
def abs1 : D → R D
 | .int i => .ok (.int (i.natAbs : Int))
 | _ => .bad
abbrev zpu := g1 abs1
theorem zsV : zfL K mg (fun xs H Q => ∃ i, xs = [.int i] ∧ Q (.int (if i < 0 then -i else i)) H) zpu := cd1 fun G H d v Q e r q => by
 cases d with
 | int i =>
  cases r
  have ea : (if i < 0 then -i else i) = (i.natAbs : Int) := by split <;> omega
  exact ⟨i, rfl, by rw [ea]; exact zaq.now q e rfl⟩
 | _ => exact (show False from q).elim
theorem zmE (hm : X.mg "abs" = none) (ha : DA X E (e :: es) fs) (hg : Gl X "abs" := by rfl) (he : starEach (e :: es) X.env = (false, eval e X.env) :: starEach es X.env := by rfl) (hpl : (backTo pos (starEach es X.env)).any (·.1) = false := by rfl) : DE X E (.Call (.Name "abs" p) (e :: es) [] pos) (zbB zpu fs) :=
 zg2 zoc zsV hm PyProof.Rows.boot_abs ha hg (by decide) (by decide) he hpl
def min2 : D → D → R D
 | .int i, .int j => .ok (.int (min i j))
 | _, _ => .bad
def max2 : D → D → R D
 | .int i, .int j => .ok (.int (max i j))
 | _, _ => .bad
abbrev gMin := g2 min2
abbrev gMax := g2 max2
def zex : List D → Option (List Int)
 | [] => some []
 | .int i :: r => (zex r).map (i :: ·)
 | _ => none
def zgI : List D → Option (List Bool)
 | [] => some []
 | .bl b :: r => (zgI r).map (b :: ·)
 | _ => none
theorem zfT : ∀ {ds : List D} {ns : List Int}, zex ds = some ns → ds = ns.map D.int
 | [], ns, h => by simp only [zex, Option.some.injEq] at h; subst h; rfl
 | .int i :: r, ns, h => by
  simp only [zex, Option.map_eq_some_iff] at h
  obtain ⟨ms, h1, rfl⟩ := h
  rw [zfT h1]; rfl
theorem zhF : ∀ {ds : List D} {bs : List Bool}, zgI ds = some bs → ds = bs.map D.bl
 | [], ns, h => by simp only [zgI, Option.some.injEq] at h; subst h; rfl
 | .bl i :: r, ns, h => by
  simp only [zgI, Option.map_eq_some_iff] at h
  obtain ⟨ms, h1, rfl⟩ := h
  rw [zhF h1]; rfl
theorem ziz : ∀ bs : List Bool, zgI (bs.map D.bl) = some bs
 | [] => rfl
 | n :: r => by rw [List.map_cons]; unfold zgI; rw [ziz r]; rfl
def sum1 : D → R D
 | .lst xs => match zex xs with
  | some ns => .ok (.int ns.sum)
  | none => .bad
 | _ => .bad
def zpv : D → R D
 | .lst xs => match zgI xs with
  | some bs => .ok (.bl (bs.all id))
  | none => .bad
 | _ => .bad
def zuA : D → R D
 | .lst xs => match zgI xs with
  | some bs => .ok (.bl (bs.any id))
  | none => .bad
 | _ => .bad
abbrev zq4 := g1 zpv
abbrev zuB := g1 zuA
theorem zsW : zfL K mg (fun xs H Q => ∃ (p : Addr) (bs : List Bool), xs = [.ref p] ∧ SqL K H p (bs.map V.bl) ∧ Q (.bl (bs.all id)) H) zq4 := cd1 fun G H d v Q e r q => by
 cases d with
 | lst xs =>
  obtain ⟨a, vs, rfl, h1, h2⟩ := r
  cases hn : zgI xs with
  | none => simp only [zpv, hn] at q; exact q.elim
  | some ns =>
   simp only [zpv, hn] at q
   rw [zhF hn] at h2
   rw [Reps.of_bools h2] at h1
   exact ⟨a, ns, rfl, e.seq h1, zaq.now q e rfl⟩
 | _ => exact (show False from q).elim
theorem zsX : zfL K mg (fun xs H Q => ∃ (p : Addr) (bs : List Bool), xs = [.ref p] ∧ SqL K H p (bs.map V.bl) ∧ Q (.bl (bs.any id)) H) zuB := cd1 fun G H d v Q e r q => by
 cases d with
 | lst xs =>
  obtain ⟨a, vs, rfl, h1, h2⟩ := r
  cases hn : zgI xs with
  | none => simp only [zuA, hn] at q; exact q.elim
  | some ns =>
   simp only [zuA, hn] at q
   rw [zhF hn] at h2
   rw [Reps.of_bools h2] at h1
   exact ⟨a, ns, rfl, e.seq h1, zaq.now q e rfl⟩
 | _ => exact (show False from q).elim
theorem zmF (hc : X.calm = true) (hm : X.mg "all" = none) (ha : DA X E (e :: es) fs) (hg : Gl X "all" := by rfl) (he : starEach (e :: es) X.env = (false, eval e X.env) :: starEach es X.env := by rfl) (hpl : (backTo pos (starEach es X.env)).any (·.1) = false := by rfl) : DE X E (.Call (.Name "all" p) (e :: es) [] pos) (zbB zq4 fs) :=
 zg2 (zoq hc) zsW hm zoB ha hg (by decide) (by decide) he hpl
theorem zsY (hc : X.calm = true) (hm : X.mg "any" = none) (ha : DA X E (e :: es) fs) (hg : Gl X "any" := by rfl) (he : starEach (e :: es) X.env = (false, eval e X.env) :: starEach es X.env := by rfl) (hpl : (backTo pos (starEach es X.env)).any (·.1) = false := by rfl) : DE X E (.Call (.Name "any" p) (e :: es) [] pos) (zbB zuB fs) :=
 zg2 (zor hc) zsX hm zoC ha hg (by decide) (by decide) he hpl
def int1 : D → R D
 | .int i => .ok (.int i)
 | .bl b => .ok (.int (if b then 1 else 0))
 | _ => .bad
abbrev gInt := g1 int1
def zsZ : D → R D
 | .lst xs => .ok (.tup xs)
 | .tup xs => .ok (.tup xs)
 | _ => .bad
abbrev ziA := g1 zsZ
theorem zoE : zfL K mg (fun xs H Q => ∃ p ys, xs = [.ref p] ∧ ((SqL K H p ys ∧ ∀ l, H l = none → Q (.ref l) (upd H l (.tup ys))) ∨ (SqT K H p ys ∧ Q (.ref p) H))) ziA := cd1 fun G H d v Q e r q => by
 cases d with
 | lst xs =>
  obtain ⟨a, vs, rfl, h1, h2⟩ := r
  refine ⟨a, vs, rfl, .inl ⟨e.seq h1, fun l hl => ?_⟩⟩
  have s := zbA.pub (o := .tup vs) e hl
  exact (show zaq K mg Q G H (.tup xs) from q) _ _ _ s ⟨l, vs, rfl, SqT.of zau, h2.mono s.g⟩
 | tup xs =>
  obtain ⟨a, vs, rfl, h1, h2⟩ := r
  exact ⟨a, vs, rfl, .inr ⟨zaK.sqT e h1, (show zaq K mg Q G H (.tup xs) from q).now e ⟨a, vs, rfl, h1, h2⟩⟩⟩
 | _ => exact (show False from q).elim
theorem zj5 (hm : X.mg "tuple" = none) (ha : DA X E (e :: es) fs) (hg : Gl X "tuple" := by rfl) (he : starEach (e :: es) X.env = (false, eval e X.env) :: starEach es X.env := by rfl) (hpl : (backTo pos (starEach es X.env)).any (·.1) = false := by rfl) : DE X E (.Call (.Name "tuple" p) (e :: es) [] pos) (zbB ziA fs) :=
 zsH zhr zoE hm ha zhD hg (by decide) (by decide) he hpl
def zoF (g : List D → R (List D)) (fs : DSt → R (List D)) : DSt → R (List D) := fun σ => (fs σ).bind fun ds => (g ds).noerr
def zs0 (K : PySem.W.Frag) (mg : Str → Option Value) (r : List V → Hp → VK → Prop) (g : List D → R (List D)) : Prop :=
 ∀ (G H : Hp) (ds : List D) (vs : List V) (Q : VK), zaK G H → Reps K mg G ds vs → RW (g ds) (zdz K mg Q G H) (fun _ => False) → r vs H Q
theorem zs1 {T : String} {r : List V → Hp → VK → Prop} {g : List D → R (List D)} (hc : zcP X (.type T) r) (hd : zs0 X.K X.mg r g) (hm : X.mg x = none) (ha : DA X E (e :: es) fs) (hv : bootBuiltins x = some (.type T) := by rfl) (hg : Gl X x := by rfl) (hn : x ≠ "__name__" := by decide) (hdb : (x == ("__debug__" : Str)) = false := by decide)
  (he : starEach (e :: es) X.env = (false, eval e X.env) :: starEach es X.env := by rfl) (hpl : (backTo pos (starEach es X.env)).any (·.1) = false := by rfl) : DF X E (.Call (.Name x p) (e :: es) [] pos) (zoF g fs) := by
 refine PE.mono' (zfE hc hg hm hv ha hn hdb he hpl) fun σ H Q ⟨G, σd, ok, q⟩ => ?_
 refine ⟨G, σd, ok, q.of_bind.mono (fun ds _ z vs G' H' s r => ?_) fun _ z => z⟩
 obtain ⟨d, e1, z⟩ := zcH z
 exact hd G' H' ds vs Q s.e r (by rw [e1]; exact z.step s)
def zuC : D → R (List D)
 | .lst xs => .ok xs
 | .tup xs => .ok xs
 | _ => .bad
abbrev zoG := g1 zuC
theorem zq5 : zs0 K mg (fun xs H Q => ∃ p ys, xs = [.ref p] ∧ (SqL K H p ys ∨ SqT K H p ys) ∧ ∀ l, H l = none → Q (.ref l) (upd H l (.lst ys))) zoG := by
 intro G H ds vs Q e rp q
 have go : ∀ xs vs, Reps K mg G xs vs → zdz K mg Q G H xs → ∀ l, H l = none → Q (.ref l) (upd H l (.lst vs)) := fun xs vs h z l hl => z l vs G _ (.hid e hl) hl zau (e.free hl) h
 match ds, rp, q with
 | [], rp, q => exact (show False from q).elim
 | [d], rp, q =>
  obtain ⟨v, rfl, r⟩ := rp.one
  cases d with
  | lst xs => obtain ⟨a, vs, rfl, h1, h2⟩ := r; exact ⟨a, vs, rfl, .inl (e.seq h1), go xs vs h2 q⟩
  | tup xs => obtain ⟨a, vs, rfl, h1, h2⟩ := r; exact ⟨a, vs, rfl, .inr (zaK.sqT e h1), go xs vs h2 q⟩
  | _ => exact (show False from q).elim
 | _ :: _ :: _, rp, q => exact (show False from q).elim
theorem zq6 (hm : X.mg "list" = none) (ha : DA X E (e :: es) fs) (hg : Gl X "list" := by rfl) (he : starEach (e :: es) X.env = (false, eval e X.env) :: starEach es X.env := by rfl) (hpl : (backTo pos (starEach es X.env)).any (·.1) = false := by rfl) : DF X E (.Call (.Name "list" p) (e :: es) [] pos) (zoF zoG fs) :=
 zs1 zih zq5 hm ha zjs hg (by decide) (by decide) he hpl
def zj6 : D → Option String
 | .non => some "NoneType"
 | .bl _ => some "bool"
 | .int _ => some "int"
 | .str _ => some "str"
 | .tup _ => some "tuple"
 | .lst _ => some "list"
 | .dct _ _ => some "dict"
 | _ => none
def zs2 (T : String) : Bool := ["int", "bool", "str", "tuple", "list", "dict"].contains T
def ztD (t T : String) : Bool := t == T || (t == "bool" && T == "int")
theorem zfU (t T : String) (ht : ["NoneType", "bool", "int", "str", "tuple", "list", "dict"].contains t = true) (hT : zs2 T = true) : PySem.W.kitOne K (.type t) (.type T) = some (ztD t T) := by
 simp only [List.contains_eq_mem, List.mem_cons, List.not_mem_nil, or_false, decide_eq_true_eq] at ht
 simp only [zs2, List.contains_eq_mem, List.mem_cons, List.not_mem_nil, or_false, decide_eq_true_eq] at hT
 rcases ht with rfl | rfl | rfl | rfl | rfl | rfl | rfl <;> rcases hT with rfl | rfl | rfl | rfl | rfl | rfl <;> rfl
end
end DL
end
section
set_option Elab.async false
set_option linter.all false
set_option maxRecDepth 100000
namespace DL
open PySem L2 PyProof.Rows
section
variable {X : Cx} {E : XK} {K : PySem.W.Frag} {mg : Str → Option Value} {G H : Hp}
variable {x : Str} {p pos : Pos} {e : Expr} {es : List Expr} {fs : DSt → R (List D)}
def rIsi (K : PySem.W.Frag) (mg : Str → Option Value) : List V → Hp → VK → Prop := fun xs H Q => ∃ G d T v b, xs = [v, .ty T] ∧ zaK G H ∧ Rep K mg G d v ∧ (∃ t, zj6 d = some t ∧ zs2 T = true ∧ b = ztD t T) ∧ Q (.bl b) H
theorem zmG : zcP X (.builtin "isinstance") (rIsi X.K X.mg) := by
 intro pins s σ H xs us Q I r h
 obtain ⟨G, d, T, v, b, rfl, e, rp, ⟨t, ht, hT, rfl⟩, q⟩ := h
 obtain ⟨u, w', rfl, ru, rw'⟩ := zsk r
 cases (show w' = Value.type T from rw')
 have fin : ∀ tk, EP X pins σ Q (.bool (ztD t T)) { s with toks := tk } := fun tk => ⟨.bl _, H, I.tok tk, rfl, q⟩
 cases d with
 | non => cases ht; cases rp; cases (show u = Value.none from ru); exact PySem.W.kia_one PySem.W.kitx_none I.kIn True.intro (zfU _ _ rfl hT) (fun z => nomatch z) fin
 | bl y => cases ht; cases rp; cases (show u = Value.bool y from ru); exact PySem.W.kia_one PySem.W.kitx_bool I.kIn True.intro (zfU _ _ rfl hT) (fun z => nomatch z) fin
 | int i => cases ht; cases rp; obtain ⟨tk, rfl⟩ := (show ∃ tk, u = Value.int i tk from ru); exact PySem.W.kia_one PySem.W.kitx_int I.kIn True.intro (zfU _ _ rfl hT) (fun z => nomatch z) fin
 | str y => cases ht; cases rp; obtain ⟨tk, rfl⟩ := (show ∃ tk, u = Value.str y tk from ru); exact PySem.W.kia_one PySem.W.kitx_str I.kIn True.intro (zfU _ _ rfl hT) (fun z => nomatch z) fin
 | tup ds =>
  cases ht
  obtain ⟨a, vs, rfl, h1, h2⟩ := rp
  cases (show u = Value.ref a from ru)
  obtain ⟨_, _, ⟨o, h3, h4, _⟩, _⟩ := I.tuple (zaK.sqT e h1)
  exact PySem.W.kia_one PySem.W.kitx_tuple I.kIn ⟨o, h3, h4⟩ (zfU _ _ rfl hT) (fun z => nomatch z) fin
 | lst ds =>
  cases ht
  obtain ⟨a, vs, rfl, h1, h2⟩ := rp
  cases (show u = Value.ref a from ru)
  obtain ⟨_, _, ⟨o, n, h3, h4, _⟩, _⟩ := I.list (e.seq h1)
  exact PySem.W.kia_one PySem.W.kitx_list I.kIn ⟨o, h3, h4⟩ (zfU _ _ rfl hT) (fun z => nomatch z) fin
 | dct ks ds =>
  cases ht
  obtain ⟨a, vs, rfl, h1, _⟩ := rp
  cases (show u = Value.ref a from ru)
  obtain ⟨_, _, _, _, p⟩ := (show zc6 X.prog X.w H s.heap a (.dK (ks.zip vs)) from (zaK.rd e h1).ok I.hok)
  obtain ⟨o, es, ep, h3, h4, _⟩ := p
  exact PySem.W.kia_one PySem.W.kitx_dict I.kIn ⟨o, h3, h4.1⟩ (zfU _ _ rfl hT) (fun z => nomatch z) fin
 | _ => cases ht
abbrev zuD (K : PySem.W.Frag) : List V → Hp → VK → Prop := fun xs H Q => ∃ (a C : Addr) (c : V) (cv : Value) (b : Bool), xs = [.ref a, c] ∧ H a = some (zom a C none) ∧ ((∃ D, c = .ref D ∧ cv = .ref D) ∨ ∃ T, c = .ty T ∧ cv = .type T) ∧ zrK K C ∧ PySem.W.kitOne K (.ref C) cv = some b ∧ Q (.bl b) H
def zcu : D → D → R D
 | d, .ty T => match zj6 d with
  | some t => bif zs2 T then .ok (.bl (ztD t T)) else .bad
  | none => match d with
   | .exc _ [] => bif T == "ValueError" then .ok (.bl true) else .bad
   | _ => .bad
 | .exc c [], .cls d => match zer c d with
  | some b => .ok (.bl b)
  | none => .bad
 | _, _ => .bad
theorem zs3 : zfL K mg (fun xs H Q => rIsi K mg xs H Q ∨ zuD K xs H Q) (g2 zcu) := cd2 fun G H d d' v v' Q e r r' q => by
 have exc : ∀ {c as}, d = .exc c as → as = [] → ∃ a C, v = .ref a ∧ H a = some (zom a C none) ∧ zlk K mg c C := fun {c as} hd ha => by
  subst hd; subst ha
  obtain ⟨a, C, dct, vs, rfl, h2, h3, h4, h5⟩ := r
  cases h5
  rcases h4 with ⟨rfl, _⟩ | ⟨dx, w, _, z, _⟩
  ·exact ⟨a, C, rfl, e _ _ h2, h3⟩
  ·cases z
 cases d' with
 | ty T =>
  cases r'
  cases ht : zj6 d with
  | some t =>
   cases hT : zs2 T with
   | false => simp only [zcu, ht, hT, cond_false] at q; exact q.elim
   | true => simp only [zcu, ht, hT, cond_true] at q; exact .inl ⟨G, d, T, v, _, rfl, e, r, ⟨t, ht, hT, rfl⟩, zaq.now q e rfl⟩
  | none =>
   cases d with
   | exc c as =>
    cases as with
    | nil =>
     cases hT : T == "ValueError" with
     | false => simp only [zcu, ht, hT, cond_false] at q; exact q.elim
     | true =>
      simp only [zcu, ht, hT, cond_true] at q
      obtain ⟨a, C, rfl, h1, h2⟩ := exc rfl rfl
      have := eq_of_beq hT
      subst this
      exact .inr ⟨a, C, _, _, true, rfl, h1, .inr ⟨_, rfl, rfl⟩, h2.exc, h2.val, zaq.now q e rfl⟩
    | cons b bs => simp only [zcu, ht] at q; exact q.elim
   | _ => simp only [zcu, ht] at q; exact q.elim
 | cls c' =>
  cases d with
  | exc c as =>
   cases as with
   | nil =>
    obtain ⟨Dd, rfl, hD⟩ := r'
    cases hs : zer c c' with
    | none => simp only [zcu, hs] at q; exact q.elim
    | some b =>
     simp only [zcu, hs] at q
     obtain ⟨a, C, rfl, h1, h2⟩ := exc rfl rfl
     exact .inr ⟨a, C, _, _, b, rfl, h1, .inl ⟨Dd, rfl, rfl⟩, h2.exc, h2.isi c' Dd b hs hD, zaq.now q e rfl⟩
   | cons b bs => exact (show False from q).elim
  | _ => exact (show False from q).elim
 | _ => cases d <;> first | exact (show False from q).elim | (rename_i as; cases as <;> exact (show False from q).elim)
theorem zbg (hm : X.mg "isinstance" = none) (ha : DA X E (e :: es) fs) (hg : Gl X "isinstance" := by rfl) (he : starEach (e :: es) X.env = (false, eval e X.env) :: starEach es X.env := by rfl) (hpl : (backTo pos (starEach es X.env)).any (·.1) = false := by rfl) : DE X E (.Call (.Name "isinstance" p) (e :: es) [] pos) (zbB (g2 zcu) fs) :=
 zg2 (zmG.or zl9) zs3 hm zoD ha hg (by decide) (by decide) he hpl
def tO (K : PySem.W.Frag) (mg : Str → Option Value) (E : XK) (f : DSt → R (Option Int)) : TO := fun σ H Q => ∃ G σd, Ok0 K mg σd σ G H ∧ RW (f σd) (fun o => ∀ G' H', zbA G H G' H' → Q o H') (zaR K mg E G H)
def DO (X : Cx) (E : XK) (e : Option Expr) (f : DSt → R (Option Int)) : Prop := PO X e (tO X.K X.mg E f)
def zfp : DSt → R (Option Int) := fun _ => .ok none
def asI : D → R (Option Int)
 | .int i => .ok (some i)
 | _ => .bad
def zdA (f : DSt → R D) : DSt → R (Option Int) := fun σ => (f σ).bind asI
theorem PO.mono' {e : Option Expr} {t t' : TO} (h : PO X e t) (m : ∀ σ H Q, t' σ H Q → t σ H Q) : PO X e t' := fun pins s σ H Q I q => h pins s σ H Q I (m σ H Q q)
theorem zem : DO X E none zfp := PO.mono' zqF fun σ H Q ⟨G, σd, ok, q⟩ => (show ∀ G' H', zbA G H G' H' → Q none H' from q) G H (.refl ok.ext)
theorem zdc {f : DSt → R D} (h : DE X E e f) : DO X E (some e) (zdA f) := PO.mono' (zqG h) fun σ H Q ⟨G, σd, ok, q⟩ => ⟨G, σd, ok, q.of_bind.mono (fun d _ z v G' H' s r => by
 cases d with
 | int i => cases r; exact ⟨i, rfl, (show ∀ G' H', zbA G H G' H' → Q (some i) H' from z) G' H' s⟩
 | _ => exact (show False from z).elim) fun _ z => z⟩
def zlH {α : Type} (xs : List α) (lo hi : Option Int) : List α := (xs.drop (HT.sIx xs.length 0 lo)).take (HT.sIx xs.length xs.length hi - HT.sIx xs.length 0 lo)
def zmH {α : Type} (xs : List α) (lo hi : Option Int) : Bool := decide (HT.sIx xs.length 0 lo = 0 ∧ HT.sIx xs.length xs.length hi = xs.length)
def gSl : D → Option Int → Option Int → R D
 | .lst xs, lo, hi => .ok (.lst (zlH xs lo hi))
 | .tup xs, lo, hi => bif zmH xs lo hi then .bad else .ok (.tup (zlH xs lo hi))
 | _, _, _ => .bad
def eSl (fe : DSt → R D) (fl fh : DSt → R (Option Int)) : DSt → R D := fun σ => (fe σ).bind fun d => (fl σ).bind fun lo => (fh σ).bind fun hi => gSl d lo hi
theorem Reps.cut {ds : List D} {vs : List V} (h : Reps K mg G ds vs) (lo hi : Option Int) : Reps K mg G (zlH ds lo hi) (zn4 vs lo hi) := by
 unfold zlH zn4
 rw [h.length]
 exact (h.drop _).take _
theorem ziB {fe : DSt → R D} {lo hi : Option Expr} {fl fh : DSt → R (Option Int)} {p2 : Pos} (he : DE X E e fe) (hl : DO X E lo fl) (hh : DO X E hi fh) : DE X E (.Subscript e (.Slice lo hi none p2) pos) (eSl fe fl fh) := by
 refine PE.mono' (zoe (zqK.or zsp) he hl hh) fun σ H Q ⟨G, σd, ok, q⟩ => ?_
 refine zce (P := zaq X.K X.mg Q) ok q fun d v G1 H1 s1 ok1 r1 q1 => ?_
 refine ⟨G1, σd, ok1, q1.of_bind.mono (fun l _ q2 G2 H2 s2 => ?_) fun _ z => z⟩
 refine ⟨G2, σd, ok1.step s2, q2.of_bind.mono (fun u _ q3 G3 H3 s3 => ?_) fun _ z => z.step s2⟩
 have s := (s1.trans s2).trans s3
 have r3 := r1.mono (s2.g.trans s3.g)
 cases d with
 | lst xs =>
  obtain ⟨a, vs, rfl, h1, h2⟩ := r3
  refine .inl ⟨a, vs, rfl, s3.e.seq h1, fun pp hp => ?_⟩
  have sp := zbA.pub (o := .lst (zn4 vs l u)) s3.e hp
  exact (show zaq X.K X.mg Q G H (.lst (zlH xs l u)) from q3) _ _ _ (s.trans sp) ⟨pp, _, rfl, SqL.of zau, (h2.cut l u).mono sp.g⟩
 | tup xs =>
  obtain ⟨a, vs, rfl, h1, h2⟩ := r3
  cases hw : zmH xs l u with
  | true => simp only [gSl, hw, cond_true] at q3; exact q3.elim
  | false =>
   simp only [gSl, hw, cond_false] at q3
   refine .inr ⟨a, vs, rfl, zaK.sqT s3.e h1, by rw [← h2.length]; exact of_decide_eq_false hw, fun pp hp => ?_⟩
   have sp := zbA.pub (o := .tup (zn4 vs l u)) s3.e hp
   exact (show zaq X.K X.mg Q G H (.tup (zlH xs l u)) from q3) _ _ _ (s.trans sp) ⟨pp, _, rfl, SqT.of zau, (h2.cut l u).mono sp.g⟩
 | _ => exact (show False from q3).elim
end
def zpw (c : Str) (fs : DSt → R (List D)) : DSt → R Out := fun σ => (fs σ).bind fun ds => bif few ds.length then .err (.exc c []) else .bad
section
variable {P : Program} {w : World} {K : PySem.W.Frag} {mg : Str → Option Value} {base : Heap} {N : List Str} {qual : Str} {scope : Scope} {f : Addr} {cdv : Value} {A : Around} {outer : List Env} {s0 : Shared} {H0 : Hp} {E : XK} {own own' ol : List Nat}
theorem zoH {x : Str} {C : Addr} {e0 : Expr} {za4 : List Expr} {np cpos pos : Pos} {fs : DSt → R (List D)} (q : PySem.W.excIn K C [.type "ValueError", .type "Exception", .type "BaseException", .type "object"] "ValueError.__new__" = true) (hx : zlk K mg x C)
  (ha : DA (zh3 (CXe P w) P w K mg base N qual scope f cdv A outer s0 H0 E) E (e0 :: za4) fs) (hg : Gl (zh3 (CXe P w) P w K mg base N qual scope f cdv A outer s0 H0 E) x := by rfl)
  (hdb : (x == ("__debug__" : Str)) = false := by decide)
  (he : starEach (e0 :: za4) (envOfC qual scope s0.heap.objs.size f cdv) = (false, eval e0 (envOfC qual scope s0.heap.objs.size f cdv)) :: starEach za4 (envOfC qual scope s0.heap.objs.size f cdv) := by rfl)
  (hpl : (backTo cpos (starEach za4 (envOfC qual scope s0.heap.objs.size f cdv))).any (·.1) = false := by rfl) :
  DS (zh3 (CXe P w) P w K mg base N qual scope f cdv A outer s0 H0 E) E own own' ol (.Raise (some (.Call (.Name x np) (e0 :: za4) [] cpos)) none pos) (zpw x fs) := fun G0 =>
 PS.mono' (zoo q hg hx.here ha hdb he hpl) fun Dn σ H ⟨G, σd, ok, s1, z⟩ => by
 have sp := ok.pubStep s1
 refine ⟨_, σd, ok.pub.1, z.of_bind.mono (fun ds _ z vs G' H' s r => ?_) fun _ z => z.step sp⟩
 cases hf : few ds.length with
 | false => rw [hf] at z; exact (show False from z).elim
 | true =>
  rw [hf] at z
  refine ⟨by rw [← r.length]; exact zmq hf, ?_⟩
  exact (show zaR K mg E G0 H0 (.exc x []) from z) G' H' C none (sp.trans s) ⟨x, [], [], rfl, hx, .inl ⟨rfl, rfl⟩, Reps.nil⟩
end
def zhG (c : Str) : DSt → R Out := fun _ => .err (.exc c [])
theorem ziC {P : Program} {w : World} {K : PySem.W.Frag} {mg : Str → Option Value} {base : Heap} {N : List Str} {qual : Str} {scope : Scope} {f : Addr} {cdv : Value} {A : Around} {outer : List Env} {s0 : Shared} {H0 : Hp} {E : XK} {own own' ol : List Nat} {x t : Str} {C : Addr} {np cpos pos tp : Pos} {j} (q : PySem.W.excIn K C [.type "ValueError", .type "Exception", .type "BaseException", .type "object"] "ValueError.__new__" = true) (hx : zlk K mg x C)
  (hg : Gl (zh3 (CXe P w) P w K mg base N qual scope f cdv A outer s0 H0 E) x := by rfl) (hdb : (x == ("__debug__" : Str)) = false := by decide) :
  DS (zh3 (CXe P w) P w K mg base N qual scope f cdv A outer s0 H0 E) E own own' ol (.Raise (some (.Call (.Name x np) [.Constant (.str t) j tp] [] cpos)) none pos) (zhG x) :=
 zoH (fs := zac (eC (.str t)) zal) q hx (zaa zg0 zad) hg hdb
section
variable (K : PySem.W.Frag) (mg : Str → Option Value)
def tSX (G0 H0 : Hp) (f : DSt → R Out) : TSX := fun Dn E σ H => ∃ G σd, Ok0 K mg σd σ G H ∧ zbA G0 H0 G H ∧ RW (f σd) (zfn K mg G0 H0 [] [] Dn G) (zaR K mg E G H)
end
def DSX (X : Cx) (st : Stmt) (f : DSt → R Out) : Prop := ∀ G0, PSX X (CXe X.prog X.w) st (tSX X.K X.mg G0 X.H₀ f)
def DSXs (X : Cx) (st : List Stmt) (f : DSt → R Out) : Prop := ∀ G0, zue X (CXe X.prog X.w) st (tSX X.K X.mg G0 X.H₀ f)
section
variable {X : Cx} {ol : List Nat} {k : Nat} {x y : Str} {m : List D → R D} {p pos cpos npos : Pos} {e : Expr} {es : List Expr} {fs : DSt → R (List D)} {f g : DSt → R Out}
theorem zoI {st : Stmt} (h : DSX X st f) : DSXs X [st] f := fun G0 => zop (h G0)
def zmI (m : List D → R D) (fs : DSt → R (List D)) : DSt → R D := fun σ => (fs σ).noerr.bind m
theorem zoJ {G0 G H : Hp} {σd : DSt} {σ : L2.St} {Q : VK} {E : XK} {S : D → R Out} {PO : Out → Prop} (ok : Ok0 X.K X.mg σd σ G H) (q : RW ((zmI m fs σd).bind S) PO (zaR X.K X.mg E G H))
  (h : ∀ d v G' H', zbA G H G' H' → Rep X.K X.mg G' d v → RW (S d) PO (zaR X.K X.mg E G H) → Q v H') : zsz (spD X.K X.mg m) [] (tAr X.K X.mg E0 fs) σ H Q E := by
 obtain ⟨ds, e1, q⟩ := zcH q.of_bind.of_bind
 refine ⟨G, σd, ok, RW.ok_of e1 fun vs G' H' s r => ?_⟩
 show spD X.K X.mg m (vs ++ []) H' _ E
 rw [List.append_nil]
 exact ⟨G', ds, s.e, r, q.mono (fun d _ z v G2 H2 s2 r2 => h d v G2 H2 (s.trans s2) r2 z) fun _ z => z.step s⟩
def ztE (i : Nat) (c : Str) (body hnd : DSt → R Out) : DSt → R Out := fun σ => match body σ with
 | .ok o => .ok o
 | .err (.exc cc as) => bif zer cc c == some true then (hnd (σ.set i (some (.exc cc as)))).noerr.bind fun o => match o with
   | .nx σ' => .ok (.nx (σ'.set i none))
   | _ => .bad
  else .bad
 | _ => .bad
theorem Ok.unset {K : PySem.W.Frag} {mg : Str → Option Value} {H0 G H : Hp} {σd : DSt} {σ : L2.St} {i : Nat} {own : List Nat} (o : Ok K mg H0 own σd σ G H) (hi : i ∉ own) : Ok K mg H0 own (σd.set i none) (σ.set i none) G H := by
 have back : ∀ {j : Nat} {d : D}, (σd.set i none)[j]? = some (some d) → j ≠ i ∧ σd[j]? = some (some d) := fun {j d} q => by
  by_cases hj : j = i
  ·subst hj
   have hl : j < σd.length := by have := (List.getElem?_eq_some_iff.mp q).1; simpa using this
   rw [List.getElem?_set_self hl] at q; cases q
  ·rw [List.getElem?_set_ne (Ne.symm hj)] at q; exact ⟨hj, q⟩
 refine ⟨o.ext, by simp [o.len], fun j d hj q => ?_, fun j d hj q => ?_, fun j l a d1 d2 h1 h2 h3 h4 h5 h6 => ?_⟩
 ·obtain ⟨hj', q'⟩ := back q
  rw [List.getElem?_set_ne (Ne.symm hj')]; exact o.val j d hj q'
 ·obtain ⟨hj', q'⟩ := back q
  rw [List.getElem?_set_ne (Ne.symm hj')]; exact o.mine j d hj q'
 ·obtain ⟨hj', q3⟩ := back h3
  obtain ⟨hl', q4⟩ := back h4
  rw [List.getElem?_set_ne (Ne.symm hj')] at h5
  rw [List.getElem?_set_ne (Ne.symm hl')] at h6
  exact o.dj j l a d1 d2 h1 h2 q3 q4 h5 h6
theorem zs4 (i : Nat) {E : XK} {body : List Stmt} {c n : Str} {np hpos : Pos} {b0 : Stmt} {suite : List Stmt} {Dc : Addr} (hst : X.stack = X.env :: X.outer) (hf : X.env.frame = some X.env.locals) (hN : X.N.Nodup)
  (hm : X.mg c = some (.ref Dc)) (hb : DSXs X body f) (hh : ∀ x, DSs (hdl X x) E0 [] [] [] (b0 :: suite) g) (hi : X.N[i]? = some n := by rfl) (hn : X.env.scope.names.lookup n = some .local := by rfl) (hg : Gl X c := by rfl)
  (hdb : (c == ("__debug__" : Str)) = false := by decide) : DS X E [] [] [] (.Try body [.ExceptHandler (some (.Name c np)) (some n) (b0 :: suite) hpos] [] [] pos) (ztE i c f g) := fun G0 =>
 PS.mono' (zsA (th := tS X.K X.mg E0 G0 X.H₀ [] [] [] g) hst hf hN hi hn hg hm (hb G0) (fun x => hh x G0) hdb) fun Dn σ H ⟨G, σd, ok, s0, q⟩ => by
 have ok0 : Ok0 X.K X.mg σd σ G H := by have := ok.masked; rw [zfy] at this; exact this
 unfold ztE at q
 cases hbd : f σd with
 | bad => rw [hbd] at q; exact (show False from q).elim
 | ok o =>
  rw [hbd] at q
  exact ⟨fun _ _ _ => False, ⟨G, σd, ok0, s0, RW.ok_of hbd q⟩, fun C dct H' x z => z.elim⟩
 | err ex =>
  rw [hbd] at q
  cases ex with
  | exc cc as =>
   cases hsub : (zer cc c == some true) with
   | false => simp only [hsub, cond_false] at q; exact q.elim
   | true =>
    simp only [hsub, cond_true] at q
    obtain ⟨o, ho1, q⟩ := zcH q.of_bind
    refine ⟨fun cv dct H' => ∃ C G', cv = .ref C ∧ zbA G H G' H' ∧ ExcR X.K X.mg G' (.exc cc as) C dct, ⟨G, σd, ok0, s0, ?_⟩, ?_⟩
    ·rw [hbd]
     exact fun G' H' C dct s r => ⟨C, G', rfl, s, r⟩
    ·rintro C dct H' x ⟨C', G', e1, s', hr⟩ nx
     cases e1
     obtain ⟨c2, as2, vs, e2, hxc, hd, hrs⟩ := hr
     cases e2
     refine ⟨hxc.ctc c Dc (eq_of_beq hsub) hm, ?_⟩
     have sp := zbA.pub (o := zom x C dct) s'.e nx
     have st := s'.trans sp
     refine ⟨_, σd.set i (some (.exc cc as)), .zero ((ok0.step st).set ⟨x, C, dct, vs, rfl, zau, hxc, hd.mono sp.g, hrs.mono sp.g⟩), s0.trans st, RW.ok_of ho1 ?_⟩
     cases o with
     | nx σ1 =>
      have q' : zfn X.K X.mg G0 X.H₀ [] [] Dn G (.nx (σ1.set i none)) := q
      exact fun σ2 G2 H2 ok2 s2 e2 => q' _ G2 H2 (ok2.unset (by simp)) s2 (st.g.trans e2)
     | _ => exact (show False from q).elim
  | _ => exact (show False from q).elim
end
end DL
end
section
set_option Elab.async false
set_option linter.all false
set_option maxRecDepth 100000
namespace DL
open PySem L2 PyProof.Rows
theorem zbn {n nN : Nat} {b : DSt → R Out} {ds : List D} {σ : DSt} (hl : ds.length = n) (hs : zd4 nN ds = σ) : fnM n nN b ds = fin (b σ) := by
 subst hl; subst hs; unfold fnM; rw [beq_self_eq_true]; rfl
theorem de_k {X : Cx} {E : XK} {x : Str} {d : D} {pos : Pos} (h : ∃ u v, X.mg x = some u ∧ zbz v u ∧ ∀ G, Rep X.K X.mg G d v) (hg : Gl X x := by rfl) (hd : (x == ("__debug__" : Str)) = false := by decide) : DE X E (.Name x pos) (eC d) := by
 obtain ⟨u, v, h1, h2, h3⟩ := h
 exact zmn h1 h2 h3 hg hd
section
variable {K : PySem.W.Frag} {mg : Str → Option Value}
def zhH (c d : Str) : Bool := c == d || d == "ChalkError"
def zaQ (K : PySem.W.Frag) (mg : Str → Option Value) (C : Addr) (d : Str) (b : Bool) : Prop :=
 (∀ D, mg d = some (.ref D) → PySem.W.kitOne K (.ref C) (.ref D) = some b) ∧ (b = true → ∀ D, mg d = some (.ref D) → PySem.W.exmOne K (.ref C) (.ref D) = some true)
theorem zlk.mk' {c : Str} {C : Addr} (here : mg c = some (.ref C)) (exc : zrK K C) (val : PySem.W.kitOne K (.ref C) (.type "ValueError") = some true) (rows : ∀ d ∈ zcG, zaQ K mg C d (zhH c d)) : zlk K mg c C := by
 have sub : ∀ d b, zer c d = some b → d ∈ zcG ∧ b = zhH c d := fun d b h => by
  unfold zer at h
  cases hc : (zcG.contains c && zcG.contains d) with
  | false => rw [hc] at h; cases h
  | true =>
   rw [hc] at h
   have h' : some (c == d || d == "ChalkError") = some b := h
   rw [Bool.and_eq_true] at hc
   exact ⟨by simpa using hc.2, by cases h'; rfl⟩
 refine ⟨here, exc, fun d Dd b h hd => ?_, val, fun d Dd h hd => ?_⟩
 ·obtain ⟨h1, rfl⟩ := sub d b h
  exact (rows d h1).1 Dd hd
 ·obtain ⟨h1, h2⟩ := sub d true h
  exact (rows d h1).2 h2.symm Dd hd
theorem zpx {c : Str} {C : Addr} (r0 : zaQ K mg C "ChalkError" (zhH c "ChalkError")) (r1 : zaQ K mg C "NoPlace" (zhH c "NoPlace")) (r2 : zaQ K mg C "Same" (zhH c "Same")) (r3 : zaQ K mg C "NoFloor" (zhH c "NoFloor")) (r4 : zaQ K mg C "Endless" (zhH c "Endless"))
  (r5 : zaQ K mg C "NoDeed" (zhH c "NoDeed")) (r6 : zaQ K mg C "NoText" (zhH c "NoText")) (r7 : zaQ K mg C "NoName" (zhH c "NoName")) (r8 : zaQ K mg C "TooMany" (zhH c "TooMany")) (r9 : zaQ K mg C "NoChange" (zhH c "NoChange")) (r10 : zaQ K mg C "NoFrame" (zhH c "NoFrame"))
  (r11 : zaQ K mg C "NoValue" (zhH c "NoValue")) (r12 : zaQ K mg C "Unlike" (zhH c "Unlike")) (r13 : zaQ K mg C "NoRatio" (zhH c "NoRatio")) (r14 : zaQ K mg C "NoBow" (zhH c "NoBow")) (r15 : zaQ K mg C "NoRow" (zhH c "NoRow")) : ∀ d ∈ zcG, zaQ K mg C d (zhH c d) := by
 intro d hd
 simp only [zcG, List.mem_cons, List.not_mem_nil, or_false] at hd
 rcases hd with rfl | rfl | rfl | rfl | rfl | rfl | rfl | rfl | rfl | rfl | rfl | rfl | rfl | rfl | rfl | rfl <;> assumption
theorem zaQ.of {C D0 : Addr} {d : Str} {b : Bool} (h : mg d = some (.ref D0)) (t : PySem.W.kitOne K (.ref C) (.ref D0) = some b) (u : b = true → PySem.W.exmOne K (.ref C) (.ref D0) = some true) : zaQ K mg C d b :=
 ⟨fun D hD => by rw [h] at hD; cases hD; exact t, fun hb D hD => by rw [h] at hD; cases hD; exact u hb⟩
end
section
variable {P : Program} {w : World} {K : PySem.W.Frag} {mg : Str → Option Value} {base : Heap}
theorem zq7 {x qual : Str} {st : Stmt} {f : Addr} {fd : FuncData} {N ps : List Str} {k n nN : Nat} {own' : List Nat} {body : DSt → R Out} (F : Fun K x qual st f fd) (S : zay N ps (zaf st))
  (hn : ps.length = n) (hN : N.length = nN)
  (hb : ∀ (X : Cx) (E : XK), (∃ cdv A outer s H, X = zh3 (CXe P w) P w K mg base N qual (zaf st) f cdv A outer s H E) → XC X E k → XL X → DSs X E [] own' [] (zar st) body) : zgT P w K mg base (CXe P w) (k + 1) f fd ps (spD K mg (fnM n nN body)) := by
 refine F.okX S (fun vs H Q E h => ?_) (fun cdv A outer s H vs Q E hr hsp => ?_)
 ·obtain ⟨G, ds, e, r, q⟩ := h
  by_cases hd : ds.length = n
  ·rw [← r.length, hd, hn]
  ·have : (ds.length == n) = false := by simpa using hd
   unfold fnM at q
   rw [this] at q
   exact (show False from q).elim
 ·obtain ⟨G, ds, e, r, q⟩ := hsp
  have hd : ds.length = n := by
   by_cases hd : ds.length = n
   ·exact hd
   ·have : (ds.length == n) = false := by simpa using hd
    unfold fnM at q
    rw [this] at q
    exact (show False from q).elim
  unfold fnM at q
  rw [show (ds.length == n) = true by simpa using hd] at q
  have q' : RW (fin (body (zd4 nN ds))) (zaq K mg Q G H) (zaR K mg E G H) := q
  refine ⟨_, hb _ E ⟨cdv, A, outer, s, H, rfl⟩ ⟨rfl, hr, zsx⟩ ⟨PassesOwn.leaving⟩ G, G, zd4 nN ds, ?_, .refl e, ?_⟩
  ·have := Reps.startOk e (N.length - vs.length) r
   unfold L2.start zd4
   rw [← hN, r.length]
   exact .zero this
  ·cases hbd : body (zd4 nN ds) with
   | bad => rw [hbd] at q'; exact q'
   | err e => rw [hbd] at q'; exact q'
   | ok o =>
    rw [hbd] at q'
    cases o with
    | rt d => exact fun v G' H' s r => (show zaq K mg Q G H d from q') v G' H' s r
    | rf es =>
     intro a vs G' H' s n e g r
     have q2 : zaq K mg Q G H (.lst es) := q'
     have sg : zaK G' (upd G' a (.lst vs)) := zci g
     refine q2 (.ref a) (upd G' a (.lst vs)) H' ⟨s.g.trans sg, s.h, fun b u p => ?_, fun b u p1 p2 => ?_⟩ ⟨a, vs, rfl, SqL.of zau, r.mono sg⟩
     ·by_cases hb : b = a
      ·subst hb; rw [zau] at p; cases p; exact e
      ·rw [zax hb] at p; exact s.e b u p
     ·have hb : b ≠ a := zan p1 n
      rw [zax hb]; exact s.c b u p1 p2
    | nx σ => exact fun σ' G' H' ok s _ => (show zaq K mg Q G H .non from q') .non G' H' s rfl
    | bk σ => exact (show False from q').elim
    | ct σ => exact (show False from q').elim
def zoK (K : PySem.W.Frag) : Sp := fun vs H Q _ => ∃ (a : Addr) (ns : List Int), vs = [.ref a] ∧ SqL K H a (ns.map V.int) ∧ ns.length ≤ 63 ∧ ∀ H', Q (.bl true) H'
theorem zs5 {k : Nat} {f : Addr} {fd : FuncData} {m : List D → R D} (F : zgT P w K mg base (CXe P w) k f fd ["_law_script"] (spD K mg m)) (hm : ∀ ns : List Int, ns.length ≤ 63 → m [.lst (ns.map .int)] = .ok (.bl true)) :
  zgT P w K mg base (CXe P w) k f fd ["_law_script"] (zoK K) := F.imp fun vs H Q E h => by
 obtain ⟨a, ns, rfl, hS, hl, q⟩ := h
 refine ⟨H, [.lst (ns.map .int)], zaK.refl _, Reps.cons ⟨a, _, rfl, hS, Reps.ints ns⟩ Reps.nil, RW.ok_of (hm ns hl) fun v G' H' s r => ?_⟩
 cases r; exact q H'
end
theorem walkD {l : PySem.W.OpenLaw} {q : Program} {loose : List Str} {XP : (Str → Option Value) → Heap → Prop} {YP : World → Heap → Prop} {d : DefRec} {K : Params → PySem.W.Frag} (k : Nat) (hr : zfi k callerA) (hn : l.most = some 63) (hdf : d.params.defaults = [])
  (hY : ∀ (w : World) (h : Heap), YP w h → (K w.params).In h)
  (F : ∀ (w : World) (mg : Str → Option Value) (fa : Addr) (h : Heap), (K w.params).In h → h.Ns mainGlobals mg → mg d.name = some (.ref fa) →
   ∃ fd : FuncData, (∀ (s : Shared) (u : Value), BindsTo s fd ⟨[u], []⟩ [("_law_script", u)]) ∧ ∀ base : Heap, (K w.params).In base → base.Ns mainGlobals mg → zgT l.prog w (K w.params) mg base (CXe l.prog w) k fa fd ["_law_script"] (zoK (K w.params))) :
  PySem.W.WalkO q loose XP YP l.row.toRowW d [] (fun f vs => PySem.call f vs) :=
 L2.walk_of (n := 63) (k := k) (x := "_law_script") (CX := fun w => CXe l.prog w) (sp := fun w => zoK (K w.params)) hn (by decide) hdf hr hY F (fun _ _ a ns hl _ hS => ⟨a, ns, rfl, hS, hl, fun _ => rfl⟩) fun w H s e s' z => by
  obtain ⟨_, _, _, _, _, _, _, _, _, _, _, _, _, z⟩ := z
  exact z.elim
end DL
end
section
set_option Elab.async false
set_option linter.all false
set_option maxRecDepth 100000
namespace DL
open PySem L2
def zq8 (r : R Out) (g : DSt → R Out) : R Out := r.bind fun o => match o with
 | .nx σ' => g σ'
 | o => .ok o
theorem zey (f g : DSt → R Out) (σ : DSt) : za0 f g σ = zq8 (f σ) g := rfl
theorem zmJ (σ : DSt) (g : DSt → R Out) : zq8 (.ok (.nx σ)) g = g σ := rfl
theorem zmK (d : D) (g : DSt → R Out) : zq8 (.ok (.rt d)) g = .ok (.rt d) := rfl
theorem zmL (σ : DSt) (g : DSt → R Out) : zq8 (.ok (.bk σ)) g = .ok (.bk σ) := rfl
theorem zmM (σ : DSt) (g : DSt → R Out) : zq8 (.ok (.ct σ)) g = .ok (.ct σ) := rfl
theorem zj7 (e : D) (g : DSt → R Out) : zq8 (.err e) g = .err e := rfl
theorem ziD (σ : DSt) : zbu σ = .ok (.nx σ) := rfl
theorem ziE (d : D) (σ : DSt) : zah 0 (some d :: σ) = .ok d := rfl
theorem ziF (n : Nat) (x : Option D) (σ : DSt) : zah (n + 1) (x :: σ) = zah n σ := rfl
theorem zpy (d : D) (σ : DSt) : eC d σ = .ok d := rfl
def opK (g : D → D → R D) (a b : R D) : R D := a.bind fun x => b.bind fun y => g x y
theorem zmN (g : D → D → R D) (fa fb : DSt → R D) (σ : DSt) : eOp g fa fb σ = opK g (fa σ) (fb σ) := rfl
theorem zmO (g : D → D → R D) (x y : D) : opK g (.ok x) (.ok y) = g x y := rfl
def unK (g : D → R D) (a : R D) : R D := a.bind g
theorem zmP (g : D → R D) (fa : DSt → R D) (σ : DSt) : eUn g fa σ = unK g (fa σ) := rfl
theorem zpz (g : D → R D) (x : D) : unK g (.ok x) = g x := rfl
def zq9 (m : List D → R D) (a : R (List D)) : R D := a.bind m
theorem ziG (m : List D → R D) (fs : DSt → R (List D)) (σ : DSt) : zaE m fs σ = zq9 m (fs σ) := rfl
theorem zj8 (m : List D → R D) (ds : List D) : zq9 m (.ok ds) = m ds := rfl
theorem ziH (m : List D → R D) (e : D) : zq9 m (.err e) = .err e := rfl
def zpA (m : List D → R D) (a : R (List D)) : R D := a.noerr.bind m
theorem zg5 (m : List D → R D) (fs : DSt → R (List D)) (σ : DSt) : zmI m fs σ = zpA m (fs σ) := rfl
theorem ziI (m : List D → R D) (ds : List D) : zpA m (.ok ds) = m ds := rfl
def bltK (g : List D → R D) (a : R (List D)) : R D := a.bind fun ds => (g ds).noerr
theorem zj9 (g : List D → R D) (fs : DSt → R (List D)) (σ : DSt) : zbB g fs σ = bltK g (fs σ) := rfl
theorem zmQ (g : List D → R D) (ds : List D) : bltK g (.ok ds) = (g ds).noerr := rfl
def zs6 (g : List D → R (List D)) (a : R (List D)) : R (List D) := a.bind fun ds => (g ds).noerr
theorem ziJ (g : List D → R (List D)) (fs : DSt → R (List D)) (σ : DSt) : zoF g fs σ = zs6 g (fs σ) := rfl
theorem zka (g : List D → R (List D)) (ds : List D) : zs6 g (.ok ds) = (g ds).noerr := rfl
theorem ziK {α : Type} (a : α) : (R.ok a).noerr = .ok a := rfl
theorem zkb (σ : DSt) : zal σ = .ok [] := rfl
def zra (a : R D) (b : R (List D)) : R (List D) := a.bind fun x => b.bind fun xs => .ok (x :: xs)
theorem ziL (fa : DSt → R D) (fs : DSt → R (List D)) (σ : DSt) : zac fa fs σ = zra (fa σ) (fs σ) := rfl
theorem zkc (x : D) (xs : List D) : zra (.ok x) (.ok xs) = .ok (x :: xs) := rfl
theorem ziM (e : D) (b : R (List D)) : zra (.err e) b = .err e := rfl
def zoL (a : R (List D)) : R D := a.bind fun ds => bif few ds.length then .ok (.tup ds) else .bad
theorem zkd (fs : DSt → R (List D)) (σ : DSt) : zfk fs σ = zoL (fs σ) := rfl
theorem zpB : zoL (.ok []) = .ok (.tup []) := rfl
theorem zpC (a : D) : zoL (.ok [a]) = .ok (.tup [a]) := rfl
theorem zpD (a b : D) : zoL (.ok [a, b]) = .ok (.tup [a, b]) := rfl
theorem zpE (a b c : D) : zoL (.ok [a, b, c]) = .ok (.tup [a, b, c]) := rfl
theorem zpF (a b c d : D) : zoL (.ok [a, b, c, d]) = .ok (.tup [a, b, c, d]) := rfl
theorem zpG (a b c d e : D) : zoL (.ok [a, b, c, d, e]) = .ok (.tup [a, b, c, d, e]) := rfl
theorem zpI (a b c d e f : D) : zoL (.ok [a, b, c, d, e, f]) = .ok (.tup [a, b, c, d, e, f]) := rfl
theorem zpJ (a b c d e f g h i : D) : zoL (.ok [a, b, c, d, e, f, g, h, i]) = .ok (.tup [a, b, c, d, e, f, g, h, i]) := rfl
def zoM (a : R (List D)) : R (List D) := a.bind fun ds => bif few ds.length then .ok ds else .bad
theorem zke (fs : DSt → R (List D)) (σ : DSt) : zfl fs σ = zoM (fs σ) := rfl
theorem zpK : zoM (.ok []) = .ok [] := rfl
theorem zpL (a : D) : zoM (.ok [a]) = .ok [a] := rfl
theorem zpM (a b : D) : zoM (.ok [a, b]) = .ok [a, b] := rfl
theorem zpN (a b c : D) : zoM (.ok [a, b, c]) = .ok [a, b, c] := rfl
theorem zpO (a b c d : D) : zoM (.ok [a, b, c, d]) = .ok [a, b, c, d] := rfl
theorem zpP (a b c d e : D) : zoM (.ok [a, b, c, d, e]) = .ok [a, b, c, d, e] := rfl
theorem zpQ (a b c d e f : D) : zoM (.ok [a, b, c, d, e, f]) = .ok [a, b, c, d, e, f] := rfl
def zrb (a : R (List D)) : R D := a.bind fun ds => .ok (.lst ds)
theorem zhI (fl : DSt → R (List D)) (σ : DSt) : zdk fl σ = zrb (fl σ) := rfl
theorem zhJ (ds : List D) : zrb (.ok ds) = .ok (.lst ds) := rfl
def zs7 (a : R D) : R Bool := a.bind asB
theorem ziN (f : DSt → R D) (σ : DSt) : zaB f σ = zs7 (f σ) := rfl
theorem zkf (b : Bool) : zs7 (.ok (.bl b)) = .ok b := rfl
def zuE (a : R Bool) (fb : DSt → R Bool) (σ : DSt) : R Bool := a.bind fun k => bif k then fb σ else .ok false
theorem zkg (fa fb : DSt → R Bool) (σ : DSt) : ztB fa fb σ = zuE (fa σ) fb σ := rfl
theorem zpR (fb : DSt → R Bool) (σ : DSt) : zuE (.ok true) fb σ = fb σ := rfl
theorem zpS (fb : DSt → R Bool) (σ : DSt) : zuE (.ok false) fb σ = .ok false := rfl
def orK (a : R Bool) (fb : DSt → R Bool) (σ : DSt) : R Bool := a.bind fun k => bif k then .ok true else fb σ
theorem zmR (fa fb : DSt → R Bool) (σ : DSt) : eOr fa fb σ = orK (fa σ) fb σ := rfl
theorem zs8 (fb : DSt → R Bool) (σ : DSt) : orK (.ok true) fb σ = .ok true := rfl
theorem zs9 (fb : DSt → R Bool) (σ : DSt) : orK (.ok false) fb σ = fb σ := rfl
def notK (a : R Bool) : R Bool := a.bind fun k => .ok (!k)
theorem zkh (fa : DSt → R Bool) (σ : DSt) : zfx fa σ = notK (fa σ) := rfl
theorem zmS (b : Bool) : notK (.ok b) = .ok (!b) := rfl
def zrc (a : R D) (fb : DSt → R D) (σ : DSt) : R D := a.bind fun x => (asB x).bind fun k => bif k then fb σ else .ok (.bl false)
theorem zki (fa fb : DSt → R D) (σ : DSt) : zqV fa fb σ = zrc (fa σ) fb σ := rfl
theorem zmT (fb : DSt → R D) (σ : DSt) : zrc (.ok (.bl true)) fb σ = fb σ := rfl
theorem zmU (fb : DSt → R D) (σ : DSt) : zrc (.ok (.bl false)) fb σ = .ok (.bl false) := rfl
def zuF (a : R D) (fb : DSt → R D) (σ : DSt) : R D := a.bind fun x => (asB x).bind fun k => bif k then .ok (.bl true) else fb σ
theorem zmV (fa fb : DSt → R D) (σ : DSt) : vOr fa fb σ = zuF (fa σ) fb σ := rfl
theorem zpT (fb : DSt → R D) (σ : DSt) : zuF (.ok (.bl true)) fb σ = .ok (.bl true) := rfl
theorem zpU (fb : DSt → R D) (σ : DSt) : zuF (.ok (.bl false)) fb σ = fb σ := rfl
def zta (a : R D) : R D := a.bind fun x => (asB x).bind fun k => .ok (.bl !k)
theorem zkj (fa : DSt → R D) (σ : DSt) : ztC fa σ = zta (fa σ) := rfl
theorem zkk (b : Bool) : zta (.ok (.bl b)) = .ok (.bl !b) := rfl
def zuG (c : R Bool) (fa fb : DSt → R D) (σ : DSt) : R D := c.bind fun k => bif k then fa σ else fb σ
theorem zmW (c : DSt → R Bool) (fa fb : DSt → R D) (σ : DSt) : eIf c fa fb σ = zuG (c σ) fa fb σ := rfl
theorem zpV (fa fb : DSt → R D) (σ : DSt) : zuG (.ok true) fa fb σ = fa σ := rfl
theorem zpW (fa fb : DSt → R D) (σ : DSt) : zuG (.ok false) fa fb σ = fb σ := rfl
def ifK (c : R Bool) (f g : DSt → R Out) (σ : DSt) : R Out := c.bind fun k => bif k then f σ else g σ
theorem zhK (c : DSt → R Bool) (f g : DSt → R Out) (σ : DSt) : sIf c f g σ = ifK (c σ) f g σ := rfl
theorem zrd (f g : DSt → R Out) (σ : DSt) : ifK (.ok true) f g σ = f σ := rfl
theorem zre (f g : DSt → R Out) (σ : DSt) : ifK (.ok false) f g σ = g σ := rfl
def zpX (g g' : D → D → R D) (a b c : R D) : R D := a.bind fun x => b.bind fun y => (g x y).bind fun z => (asB z).bind fun k => bif k then c.bind fun w => g' y w else .ok (.bl false)
theorem zg6 (g g' : D → D → R D) (fa fb fc : DSt → R D) (σ : DSt) : zg1 g g' fa fb fc σ = zpX g g' (fa σ) (fb σ) (fc σ) := rfl
theorem zg7 (p q : Int → Int → Bool) (i j k : Int) : zpX (gB p) (gB q) (.ok (.int i)) (.ok (.int j)) (.ok (.int k)) = .ok (.bl (p i j && q j k)) := by
 show (bif p i j then R.ok (D.bl (q j k)) else R.ok (D.bl false)) = _
 cases p i j <;> rfl
def appK (i : Nat) (l : R (List D)) (a : R D) (σ : DSt) : R Out := l.bind fun ds => a.bind fun d => bif most ds.length then .ok (.nx (σ.set i (some (.lst (ds ++ [d]))))) else .bad
theorem zkl (own : List Nat) (i : Nat) (fe : DSt → R D) (σ : DSt) : zrL own i fe σ = appK i (zek σ i) (fe (mask own σ)) σ := rfl
theorem zkm {n : Nat} (h : n ≤ 1000000) : most n = true := decide_eq_true (Nat.lt_of_le_of_lt h (by decide))
theorem zjt (i : Nat) (ds : List D) (d : D) (σ : DSt) (h : ds.length ≤ 1000000) : appK i (.ok ds) (.ok d) σ = .ok (.nx (σ.set i (some (.lst (ds ++ [d]))))) := by
 show (bif most ds.length then _ else _) = _
 rw [zkm h]; rfl
def ztb (i : Nat) (l : R (List D)) (a : R D) (σ : DSt) : R Out := l.bind fun ds => a.bind fun d => bif most ds.length && imm d then .ok (.nx (σ.set i (some (.lst (ds ++ [d]))))) else .bad
theorem ziO (i : Nat) (fe : DSt → R D) (σ : DSt) : zuq i fe σ = ztb i (zek σ i) (fe σ) σ := rfl
theorem zoN (i : Nat) (ds : List D) (d : D) (σ : DSt) (h : ds.length ≤ 1000000) (h' : imm d = true) : ztb i (.ok ds) (.ok d) σ = .ok (.nx (σ.set i (some (.lst (ds ++ [d]))))) := by
 show (bif most ds.length && imm d then _ else _) = _
 rw [zkm h, h']; rfl
theorem zg8 (ds : List D) (σ : DSt) : zek (some (.lst ds) :: σ) 0 = .ok ds := rfl
theorem zg9 (x : Option D) (σ : DSt) (n : Nat) : zek (x :: σ) (n + 1) = zek σ n := rfl
theorem zrf {i : Int} (h1 : -(10 ^ 100) ≤ i) (h2 : i ≤ 10 ^ 100) : zjf i = true := zmA (n := 400) (B.of (k := 10 ^ 100) (by omega))
theorem zrg {i : Int} (h1 : -(10 ^ 100) ≤ i) (h2 : i ≤ 10 ^ 100) (h : i ≠ 0) : zn5 i = true := zmB (n := 400) (B.of (k := 10 ^ 100) (by omega)) h
def zuH (a : R D) : R Out := a.bind fun d => .ok (.rt d)
theorem zkn (fe : DSt → R D) (σ : DSt) : zb8 fe σ = zuH (fe σ) := rfl
theorem zmX (d : D) : zuH (.ok d) = .ok (.rt d) := rfl
theorem zko (e : D) : zuH (.err e) = .err e := rfl
def zrh (a : R D) (σ : DSt) : R Out := a.bind fun _ => .ok (.nx σ)
theorem ziP (fe : DSt → R D) (σ : DSt) : zmv fe σ = zrh (fe σ) σ := rfl
theorem zkp (d : D) (σ : DSt) : zrh (.ok d) σ = .ok (.nx σ) := rfl
theorem ziQ (e : D) (σ : DSt) : zrh (.err e) σ = .err e := rfl
def ztF (i : Nat) (a : R D) (σ : DSt) : R Out := a.bind fun d => .ok (.nx (σ.set i (some d)))
theorem ziR (i : Nat) (fe : DSt → R D) (σ : DSt) : zaZ i fe σ = ztF i (fe σ) σ := rfl
theorem zhL (own : List Nat) (i : Nat) (fe : DSt → R D) (σ : DSt) : zjX own i fe σ = ztF i (fe (mask own σ)) σ := rfl
theorem zmY (i : Nat) (d : D) (σ : DSt) : ztF i (.ok d) σ = .ok (.nx (σ.set i (some d))) := rfl
theorem zkq (i : Nat) (e : D) (σ : DSt) : ztF i (.err e) σ = .err e := rfl
def ztc (i : Nat) (a : R D) (σ : DSt) : R Out := a.bind fun d => bif imm d then .ok (.nx (σ.set i (some d))) else .bad
theorem zmZ (i : Nat) (fe : DSt → R D) (σ : DSt) : zuo i fe σ = ztc i (fe σ) σ := rfl
theorem zoO (i : Nat) (d : D) (σ : DSt) (h : imm d = true) : ztc i (.ok d) σ = .ok (.nx (σ.set i (some d))) := by
 show (bif imm d then _ else _) = _
 rw [h]; rfl
def newK (i : Nat) (a : R (List D)) (σ : DSt) : R Out := a.bind fun ds => .ok (.nx (σ.set i (some (.lst ds))))
theorem zkr (own : List Nat) (i : Nat) (fe : DSt → R (List D)) (σ : DSt) : zq0 own i fe σ = newK i (fe (mask own σ)) σ := rfl
theorem zm0 (i : Nat) (ds : List D) (σ : DSt) : newK i (.ok ds) σ = .ok (.nx (σ.set i (some (.lst ds)))) := rfl
def ztd (ks : List Nat) (gp : D → R (List D)) (a : R D) (σ : DSt) : R Out := a.bind fun d => (gp d).noerr.bind fun us => .ok (.nx (setAll σ ks us))
theorem zks (own ks : List Nat) (gp : D → R (List D)) (fe : DSt → R D) (σ : DSt) : zq1 own ks gp fe σ = ztd ks gp (fe (mask own σ)) σ := rfl
theorem zm1 (i j : Nat) (a b : D) (σ : DSt) : ztd [i, j] (zdv 2) (.ok (.tup [a, b])) σ = .ok (.nx ((σ.set i (some a)).set j (some b))) := rfl
theorem zm2 (i j : Nat) (a b : D) (σ : DSt) : ztd [i, j] (zdv 2) (.ok (.lst [a, b])) σ = .ok (.nx ((σ.set i (some a)).set j (some b))) := rfl
theorem zm3 (i j k : Nat) (a b c : D) (σ : DSt) : ztd [i, j, k] (zdv 3) (.ok (.tup [a, b, c])) σ = .ok (.nx (((σ.set i (some a)).set j (some b)).set k (some c))) := rfl
theorem zm4 (i j k : Nat) (a b c : D) (σ : DSt) : ztd [i, j, k] (zdv 3) (.ok (.lst [a, b, c])) σ = .ok (.nx (((σ.set i (some a)).set j (some b)).set k (some c))) := rfl
def parK (i j : Nat) (a : R (List D)) (σ : DSt) : R Out := a.bind fun ds => match ds with
 | [a, b] => .ok (.nx ((σ.set i (some a)).set j (some b)))
 | _ => .bad
theorem zkt (own : List Nat) (i j : Nat) (fs : DSt → R (List D)) (σ : DSt) : sPar own i j fs σ = parK i j (fs (mask own σ)) σ := rfl
theorem zm5 (i j : Nat) (a b : D) (σ : DSt) : parK i j (.ok [a, b]) σ = .ok (.nx ((σ.set i (some a)).set j (some b))) := rfl
def zpY (c : Str) (a : R (List D)) : R Out := a.bind fun ds => bif few ds.length then .err (.exc c []) else .bad
theorem zha (c : Str) (fs : DSt → R (List D)) (σ : DSt) : zpw c fs σ = zpY c (fs σ) := rfl
theorem zku (c : Str) (a : D) : zpY c (.ok [a]) = .err (.exc c []) := rfl
theorem zfV (c : Str) (σ : DSt) : zhG c σ = .err (.exc c []) := rfl
def zuI (i : Nat) (c : Str) (r : R Out) (hnd : DSt → R Out) (σ : DSt) : R Out := match r with
 | .ok o => .ok o
 | .err (.exc cc as) => bif zer cc c == some true then (hnd (σ.set i (some (.exc cc as)))).noerr.bind fun o => match o with
   | .nx σ' => .ok (.nx (σ'.set i none))
   | _ => .bad
  else .bad
 | _ => .bad
theorem zkv (i : Nat) (c : Str) (body hnd : DSt → R Out) (σ : DSt) : ztE i c body hnd σ = zuI i c (body σ) hnd σ := rfl
theorem zm6 (i : Nat) (c : Str) (o : Out) (hnd : DSt → R Out) (σ : DSt) : zuI i c (.ok o) hnd σ = .ok o := rfl
def zte (i : Nat) (r : R Out) : R Out := r.noerr.bind fun o => match o with
 | .nx σ' => .ok (.nx (σ'.set i none))
 | _ => .bad
theorem zkw (i : Nat) (σ : DSt) : zte i (.ok (.nx σ)) = .ok (.nx (σ.set i none)) := rfl
theorem zoP (i : Nat) (c cc : Str) (as : List D) (hnd : DSt → R Out) (σ : DSt) (h : zer cc c = some true) : zuI i c (.err (.exc cc as)) hnd σ = zte i (hnd (σ.set i (some (.exc cc as)))) := by
 show (bif zer cc c == some true then _ else _) = _
 rw [h]; rfl
theorem zpZ (d : D) : fin (.ok (.rt d)) = .ok d := rfl
theorem zp1 (σ : DSt) : fin (.ok (.nx σ)) = .ok .non := rfl
theorem zm7 (e : D) : fin (.err e) = .err e := rfl
theorem zm8 (i j : Int) : zc5 (.int i) (.int j) = .ok (.int (i + j)) := rfl
theorem zm9 (i j : Int) : gSub (.int i) (.int j) = .ok (.int (i - j)) := rfl
theorem zdd (i j : Int) (hi : zjf i = true) (hj : zjf j = true) : zel (.int i) (.int j) = .ok (.int (i * j)) := by
 show (bif zjf i && zjf j then _ else _) = _
 rw [hi, hj]; rfl
theorem zna (i j : Int) (h : zn5 j = true) (h0 : 0 < j) : zgH (.int i) (.int j) = .ok (.int (i / j)) := by
 show (bif zn5 j then R.ok (D.int (i.fdiv j)) else .bad) = _
 rw [h, Int.fdiv_eq_ediv_of_nonneg _ (Int.le_of_lt h0)]; rfl
theorem zde (i j : Int) (h : zn5 j = true) : zgH (.int i) (.int j) = .ok (.int (i.fdiv j)) := by
 show (bif zn5 j then _ else _) = _
 rw [h]; rfl
theorem za1 (i j : Int) (h0 : 0 < j) : zeW (.int i) (.int j) = .ok (.int (i % j)) := by
 have : decide (j ≠ 0) = true := decide_eq_true (by omega)
 show (bif decide (j ≠ 0) then R.ok (D.int (i.fmod j)) else .bad) = _
 rw [this, Int.fmod_eq_emod_of_nonneg _ (Int.le_of_lt h0)]; rfl
theorem zri (i j : Int) (h : zur i j = true) : zuv (.int i) (.int j) = .ok (.int (i ^ j.toNat)) := by
 show (bif zur i j then _ else _) = _
 rw [h]; rfl
theorem zrj (i j : Int) (h : 0 ≤ j) : zuw (.int i) (.int j) = .ok (.int (i / 2 ^ j.toNat)) := by
 show (bif decide (0 ≤ j) then _ else _) = _
 rw [decide_eq_true h]; rfl
theorem zp2 (i : Int) : zrO (.int i) = .ok (.int (-i)) := rfl
theorem zp3 (i j : Int) : gLt (.int i) (.int j) = .ok (.bl (decide (i < j))) := rfl
theorem zp4 (i j : Int) : gLe (.int i) (.int j) = .ok (.bl (decide (i ≤ j))) := rfl
theorem zp5 (i j : Int) : gGt (.int i) (.int j) = .ok (.bl (decide (j < i))) := rfl
theorem zp6 (i j : Int) : gGe (.int i) (.int j) = .ok (.bl (decide (j ≤ i))) := rfl
theorem zkx {a b : D} (h : zlG a b = true) : gEq a b = .ok (.bl (eqD a b)) := by unfold gEq; rw [h]; rfl
theorem zky {a b : D} (h : zlG a b = true) : gNe a b = .ok (.bl (!eqD a b)) := by unfold gNe; rw [h]; rfl
theorem zez (i j : Int) : eqD (.int i) (.int j) = decide (i = j) := by unfold eqD; rfl
theorem zp7 (i j : Int) : gEq (.int i) (.int j) = .ok (.bl (decide (i = j))) := by rw [zkx rfl, zez]
theorem zp8 (i j : Int) : gNe (.int i) (.int j) = .ok (.bl (!decide (i = j))) := by rw [zky rfl, zez]
theorem zp9 (i j : Bool) : gEq (.bl i) (.bl j) = .ok (.bl (i == j)) := by rw [zkx rfl]; unfold eqD; rfl
theorem zqa (i j : Bool) : gNe (.bl i) (.bl j) = .ok (.bl (!(i == j))) := by rw [zky rfl]; unfold eqD; rfl
abbrev t3 (x y z : Int) : D := .tup [.int x, .int y, .int z]
abbrev l3 (x y z : Int) : D := .lst [.int x, .int y, .int z]
theorem ziS : ∀ (ns ms : List Int), eqDs (ns.map D.int) (ms.map D.int) = decide (ns = ms)
 | [], [] => by unfold eqDs; rfl
 | [], _ :: _ => by unfold eqDs; rfl
 | _ :: _, [] => by unfold eqDs; rfl
 | n :: ns, m :: ms => by
  show eqDs (D.int n :: ns.map D.int) (D.int m :: ms.map D.int) = _
  unfold eqDs
  rw [ziS ns ms, zez, Bool.eq_iff_iff]
  simp
theorem zkz (a b c x y z : Int) : eqD (t3 a b c) (t3 x y z) = decide (a = x ∧ b = y ∧ c = z) := by
 have := ziS [a, b, c] [x, y, z]
 unfold eqD
 rw [show ([D.int a, .int b, .int c] : List D) = [a, b, c].map D.int from rfl, show ([D.int x, .int y, .int z] : List D) = [x, y, z].map D.int from rfl, this, Bool.eq_iff_iff]
 simp
theorem ztf (a b c x y z : Int) : eqD (l3 a b c) (l3 x y z) = decide (a = x ∧ b = y ∧ c = z) := by
 have := zkz a b c x y z
 unfold eqD at this ⊢
 exact this
theorem zqb (a b c x y z : Int) : gEq (t3 a b c) (t3 x y z) = .ok (.bl (decide (a = x ∧ b = y ∧ c = z))) := by rw [zkx rfl, zkz]
theorem zqc (a b c x y z : Int) : gNe (t3 a b c) (t3 x y z) = .ok (.bl (!decide (a = x ∧ b = y ∧ c = z))) := by rw [zky rfl, zkz]
theorem zqd (a b c x y z : Int) : gEq (l3 a b c) (l3 x y z) = .ok (.bl (decide (a = x ∧ b = y ∧ c = z))) := by rw [zkx rfl, ztf]
theorem zqe (a b : Bool) : gIs (.bl a) (.bl b) = .ok (.bl (a == b)) := rfl
theorem znb (a b : Bool) : zps (.bl a) (.bl b) = .ok (.bl (a != b)) := rfl
theorem znc (d : D) : gIs d .non = .ok (.bl (zjq d)) := by cases d <;> rfl
theorem zkA (d : D) : zps d .non = .ok (.bl (!zjq d)) := by cases d <;> rfl
theorem zkB (a b c : D) : gIx (.tup [a, b, c]) (.int 0) = .ok a := rfl
theorem zkC (a b c : D) : gIx (.tup [a, b, c]) (.int 1) = .ok b := rfl
theorem zkD (a b c : D) : gIx (.tup [a, b, c]) (.int 2) = .ok c := rfl
theorem zkE (a b c : D) : gIx (.lst [a, b, c]) (.int 0) = .ok a := rfl
theorem zkF (a b c : D) : gIx (.lst [a, b, c]) (.int 1) = .ok b := rfl
theorem zkG (a b c : D) : gIx (.lst [a, b, c]) (.int 2) = .ok c := rfl
theorem zen {xs : List D} {j : Nat} {d : D} (h : xs[j]? = some d) : gIx (.lst xs) (.int (j : Int)) = .ok d := by
 show (match atI xs (j : Int) with | some d => R.ok d | none => .bad) = _
 rw [zqI h]
theorem zoQ (xs : List D) (d : D) : gIx (.lst (xs ++ [d])) (.int (-1)) = .ok d := by
 show (match atI (xs ++ [d]) (-1) with | some d => R.ok d | none => .bad) = _
 rw [zof]
theorem zqf (xs : List D) : ze3 [.lst xs] = .ok (.int xs.length) := rfl
theorem znd : ze3 [.tup []] = .ok (.int 0) := rfl
theorem zne (a : D) : ze3 [.tup [a]] = .ok (.int 1) := rfl
theorem znf (a b : D) : ze3 [.tup [a, b]] = .ok (.int 2) := rfl
theorem zng (a b c : D) : ze3 [.tup [a, b, c]] = .ok (.int 3) := rfl
theorem znh (a b c d : D) : ze3 [.tup [a, b, c, d]] = .ok (.int 4) := rfl
theorem zqg (i : Int) : zpu [.int i] = .ok (.int (i.natAbs : Int)) := rfl
theorem zni (i j : Int) : gMin [.int i, .int j] = .ok (.int (min i j)) := rfl
theorem znj (i j : Int) : gMax [.int i, .int j] = .ok (.int (max i j)) := rfl
theorem zqh (b : Bool) : gInt [.bl b] = .ok (.int (if b then 1 else 0)) := rfl
theorem zfW (i : Int) : g2 zcu [.int i, .ty "int"] = .ok (.bl true) := rfl
theorem ze4 (i : Int) : g2 zcu [.int i, .ty "bool"] = .ok (.bl false) := rfl
theorem zfX (i : Bool) : g2 zcu [.bl i, .ty "bool"] = .ok (.bl true) := rfl
theorem zhb (i : Bool) : g2 zcu [.bl i, .ty "int"] = .ok (.bl true) := rfl
theorem zfY (xs : List D) : g2 zcu [.tup xs, .ty "tuple"] = .ok (.bl true) := rfl
theorem zfZ (xs : List D) : g2 zcu [.lst xs, .ty "list"] = .ok (.bl true) := rfl
theorem zf0 (xs : List D) : g2 zcu [.lst xs, .ty "tuple"] = .ok (.bl false) := rfl
theorem zf1 (xs : List D) : g2 zcu [.tup xs, .ty "list"] = .ok (.bl false) := rfl
theorem zbF {c d : Str} {b : Bool} (h : zer c d = some b) : g2 zcu [.exc c [], .cls d] = .ok (.bl b) := by
 show (match zer c d with | some b => R.ok (D.bl b) | none => .bad) = _
 rw [h]
theorem zkH (c : Str) : g2 zcu [.exc c [], .ty "ValueError"] = .ok (.bl true) := rfl
theorem ziT (j : Int) (h : rOk j = true) : zit [.int j] = .ok (zg4 0 j.toNat) := by
 show (bif rOk j then _ else _) = _
 rw [h]; rfl
theorem zrk (i j : Int) (h : rOk i = true) (h' : rOk j = true) : zqX [.int i, .int j] = .ok (zg4 i (j - i).toNat) := by
 show (bif rOk i && rOk j then _ else _) = _
 rw [h, h']; rfl
theorem znk {i : Int} (h : -1000000000 ≤ i) (h' : i ≤ 1000000000) : rOk i = true := by
 unfold rOk
 rw [Nat.blt_eq]
 omega
def ztg (g : List D → R (List D)) (a : R (List D)) : R (List D) := a.bind g
theorem ziU (g : List D → R (List D)) (fs : DSt → R (List D)) (σ : DSt) : zcU g fs σ = ztg g (fs σ) := (rfl)
theorem zkI (g : List D → R (List D)) (ds : List D) : ztg g (.ok ds) = g ds := (rfl)
def zoR (a : R D) : R (List D) := a.bind zqW
theorem zkJ (f : DSt → R D) (σ : DSt) : zh4 f σ = zoR (f σ) := rfl
theorem znl (xs : List D) : zoR (.ok (.tup xs)) = .ok xs := rfl
theorem znm (xs : List D) : zoR (.ok (.lst xs)) = .ok xs := rfl
def forK (ks : List Nat) (gp : D → R (List D)) (fb : DSt → R Out) (a : R (List D)) (σ : DSt) : R Out := a.bind fun ds => zgG ks gp fb ds σ
theorem zkK (own ks : List Nat) (gp : D → R (List D)) (fi : DSt → R (List D)) (fb : DSt → R Out) (σ : DSt) : zje own ks gp fi fb σ = forK ks gp fb (fi (mask own σ)) σ := rfl
theorem znn (ks : List Nat) (gp : D → R (List D)) (fb : DSt → R Out) (ds : List D) (σ : DSt) : forK ks gp fb (.ok ds) σ = zgG ks gp fb ds σ := rfl
def zju (r : R Out) (k : DSt → R Out) : R Out := r.bind fun o => match o with
 | .nx σ' => k σ'
 | .ct σ' => k σ'
 | .bk σ' => .ok (.nx σ')
 | .rt d => .ok (.rt d)
 | .rf d => .ok (.rf d)
theorem zkL (σ : DSt) (k : DSt → R Out) : zju (.ok (.nx σ)) k = k σ := rfl
theorem zkM (σ : DSt) (k : DSt → R Out) : zju (.ok (.ct σ)) k = k σ := rfl
theorem zkN (σ : DSt) (k : DSt → R Out) : zju (.ok (.bk σ)) k = .ok (.nx σ) := rfl
theorem zkO (d : D) (k : DSt → R Out) : zju (.ok (.rt d)) k = .ok (.rt d) := rfl
theorem ziV (d : D) (k : DSt → R Out) : zju (.err d) k = .err d := rfl
theorem zkP (ks : List Nat) (gp : D → R (List D)) (fb : DSt → R Out) (σ : DSt) : zgG ks gp fb [] σ = .ok (.nx σ) := rfl
theorem zdf (i : Nat) (fb : DSt → R Out) (d : D) (ds : List D) (σ : DSt) : zgG [i] zaL fb (d :: ds) σ = zju (fb (σ.set i (some d))) (zgG [i] zaL fb ds) := by
 show (fb (σ.set i (some d))).bind _ = _
 unfold zju
 cases fb (σ.set i (some d)) with
 | ok o => cases o <;> rfl
 | err e => rfl
 | bad => rfl
theorem zkQ {i : Nat} {fb : DSt → R Out} (I : DSt → Prop) : ∀ (ds : List D), (∀ d ∈ ds, ∀ σ, I σ → ∃ σ', (fb (σ.set i (some d)) = .ok (.nx σ') ∨ fb (σ.set i (some d)) = .ok (.ct σ')) ∧ I σ') → ∀ σ, I σ → ∃ σ', zgG [i] zaL fb ds σ = .ok (.nx σ') ∧ I σ'
 | [], _, σ, h => ⟨σ, rfl, h⟩
 | d :: ds, hs, σ, h => by
  obtain ⟨σ1, h1, h2⟩ := hs d List.mem_cons_self σ h
  obtain ⟨σ2, h3, h4⟩ := zkQ I ds (fun d' hd => hs d' (List.mem_cons_of_mem _ hd)) σ1 h2
  refine ⟨σ2, ?_, h4⟩
  rw [zdf]
  rcases h1 with h1 | h1 <;> rw [h1]
  ·exact h3
  ·exact h3
theorem zkR {i : Nat} {fb : DSt → R Out} (I : Nat → DSt → Prop) (ds : List D) (hs : ∀ (k : Nat) (d : D) (σ : DSt), ds[k]? = some d → I k σ → ∃ σ', (fb (σ.set i (some d)) = .ok (.nx σ') ∨ fb (σ.set i (some d)) = .ok (.ct σ')) ∧ I (k + 1) σ') (σ : DSt) (h : I 0 σ) : ∃ σ', zgG [i] zaL fb ds σ = .ok (.nx σ') ∧ I ds.length σ' := by
 have go : ∀ (ds : List D) (n : Nat), (∀ (k : Nat) (d : D) (σ : DSt), ds[k]? = some d → I (n + k) σ → ∃ σ', (fb (σ.set i (some d)) = .ok (.nx σ') ∨ fb (σ.set i (some d)) = .ok (.ct σ')) ∧ I (n + k + 1) σ') → ∀ σ, I n σ → ∃ σ', zgG [i] zaL fb ds σ = .ok (.nx σ') ∧ I (n + ds.length) σ' := by
  intro ds
  induction ds with
  | nil => intro n _ σ h; exact ⟨σ, rfl, h⟩
  | cons d ds ih =>
   intro n hs σ h
   obtain ⟨σ1, h1, h2⟩ := hs 0 d σ rfl h
   obtain ⟨σ2, h3, h4⟩ := ih (n + 1) (fun k d' σ hd hI => by
    have := hs (k + 1) d' σ (by simpa using hd) (by rw [show n + (k + 1) = n + 1 + k by omega]; exact hI)
    rw [show n + (k + 1) + 1 = n + 1 + k + 1 by omega] at this
    exact this) σ1 h2
   refine ⟨σ2, ?_, by rw [List.length_cons, show n + (ds.length + 1) = n + 1 + ds.length by omega]; exact h4⟩
   rw [zdf]
   rcases h1 with h1 | h1 <;> rw [h1]
   ·exact h3
   ·exact h3
 obtain ⟨σ', h1, h2⟩ := go ds 0 (fun k d σ hd hI => by
  rw [Nat.zero_add] at hI ⊢
  exact hs k d σ hd hI) σ h
 exact ⟨σ', h1, by rw [Nat.zero_add] at h2; exact h2⟩
theorem zkS {c : DSt → R Bool} {fb : DSt → R Out} {σ σ' : DSt} (h : c σ = .ok true) (h' : fb σ = .ok (.nx σ')) : zbm c fb σ = zbm c fb σ' := by rw [zfS, h]; show (fb σ).bind _ = _; rw [h']; rfl
theorem zkT {c : DSt → R Bool} {fb : DSt → R Out} {σ : DSt} (h : c σ = .ok false) : zbm c fb σ = .ok (.nx σ) := by rw [zfS, h]; rfl
def lcK (k : Nat) (ks : List Nat) (a : R (List D)) (gp : D → R (List D)) (c : DSt → R Bool) (e : DSt → R D) (σ : DSt) : R (List D) := a.bind fun ds => bif most ds.length then (lcD ks gp c e (List.replicate k none ++ σ) ds).noerr else .bad
theorem zno (k : Nat) (ks : List Nat) (fi : DSt → R (List D)) (gp : D → R (List D)) (c : DSt → R Bool) (e : DSt → R D) (σ : DSt) : eLC k ks fi gp c e σ = lcK k ks (fi σ) gp c e σ := rfl
theorem zjv {n : Nat} (h : n ≤ 1000000) : most n = true := decide_eq_true (Nat.lt_of_le_of_lt h (by decide))
theorem zkU {ds : List D} {e : DSt → R D} {σ : DSt} {g : D → D} (hl : ds.length ≤ 1000000) (h : ∀ d ∈ ds, e (some d :: σ) = .ok (g d)) : lcK 1 [0] (.ok ds) zaL zcQ e σ = .ok (ds.map g) := by
 have go : ∀ ds : List D, (∀ d ∈ ds, e (some d :: σ) = .ok (g d)) → lcD [0] zaL zcQ e (List.replicate 1 none ++ σ) ds = .ok (ds.map g) := by
  intro ds
  induction ds with
  | nil => intro _; rfl
  | cons d ds ih =>
   intro h
   show (e (some d :: σ)).bind (fun y => (lcD [0] zaL zcQ e (List.replicate 1 none ++ σ) ds).bind fun ys => .ok (y :: ys)) = _
   rw [h d List.mem_cons_self, ih fun d' hd => h d' (List.mem_cons_of_mem _ hd)]; rfl
 show (bif most ds.length then _ else _) = _
 rw [zjv hl, go ds h]; rfl
theorem zcV {ds : List D} {c : DSt → R Bool} {e : DSt → R D} {σ : DSt} {p : D → Bool} {g : D → D} (hl : ds.length ≤ 1000000) (hc : ∀ d ∈ ds, c (some d :: σ) = .ok (p d)) (h : ∀ d ∈ ds, p d = true → e (some d :: σ) = .ok (g d)) :
  lcK 1 [0] (.ok ds) zaL c e σ = .ok ((ds.filter p).map g) := by
 have go : ∀ ds : List D, (∀ d ∈ ds, c (some d :: σ) = .ok (p d)) → (∀ d ∈ ds, p d = true → e (some d :: σ) = .ok (g d)) → lcD [0] zaL c e (List.replicate 1 none ++ σ) ds = .ok ((ds.filter p).map g) := by
  intro ds
  induction ds with
  | nil => intro _ _; rfl
  | cons d ds ih =>
   intro hc h
   have ih' := ih (fun d' hd => hc d' (List.mem_cons_of_mem _ hd)) fun d' hd => h d' (List.mem_cons_of_mem _ hd)
   show (c (some d :: σ)).bind (fun k => bif k then (e (some d :: σ)).bind (fun y => (lcD [0] zaL c e (List.replicate 1 none ++ σ) ds).bind fun ys => .ok (y :: ys)) else lcD [0] zaL c e (List.replicate 1 none ++ σ) ds) = _
   rw [hc d List.mem_cons_self, ih']
   cases hp : p d with
   | true =>
    show (e (some d :: σ)).bind _ = _
    rw [h d List.mem_cons_self hp, List.filter_cons_of_pos hp]; rfl
   | false => rw [List.filter_cons_of_neg (by rw [hp]; exact Bool.false_ne_true)]; rfl
 show (bif most ds.length then _ else _) = _
 rw [zjv hl, go ds hc h]; rfl
end DL
end
section
set_option Elab.async false
set_option linter.all false
set_option maxRecDepth 100000
namespace DL
open PySem L2 PyProof.Rows
section
variable {X : Cx} {E : XK} {e : Expr} {te : TE} {pos : Pos}
def ztG (i : Nat) (l : R (List D)) (a k : R D) (σ : DSt) : R Out := l.bind fun ds => a.bind fun d => k.bind fun kd => match kd with
 | .int n => match ixN ds.length n with
  | some j => .ok (.nx (σ.set i (some (.lst (ds.set j d)))))
  | none => .bad
 | _ => .bad
def zth (own : List Nat) (i : Nat) (fk fe : DSt → R D) : DSt → R Out := fun σ => ztG i (zek σ i) (fe (mask own σ)) (fk (mask own σ)) σ
variable {own ol : List Nat} {x : Str} {k : Expr} {fk fe : DSt → R D} {np tpos : Pos}
theorem zqi (i : Nat) (hk : DE X E k fk) (he : DE X E e fe) (ho : own.contains i = true := by rfl) (hN : X.N[i]? = some x := by rfl) (hv : Vis X.env.scope x := by first | exact Or.inl rfl | exact Or.inr (Or.inl rfl) | exact Or.inr (Or.inr rfl)) (hd : (x == ("__debug__" : Str)) = false := by decide)
  (hcd : (x == ("__classdict__" : Str)) = false := by decide)
  (ha : ∀ v, assign (.Subscript (.Name x np) k tpos) X.env v = (do
   let ov ← holding [v] (eval (.Name x np) X.env)
   let iv ← holding [v, ov] (eval k X.env)
   standAt tpos
   holding [v, ov, iv] (setItem ov iv v)
   release [v, ov, iv] []) := by intro _; rfl)
  (hs : swapsWithSole [.Subscript (.Name x np) k tpos] e pos.line X.env = pure false := by rfl) (hw : swappedStores [.Subscript (.Name x np) k tpos] e X.env = pure none := by rfl)
  (h1 : (assignEach [.Subscript (.Name x np) k tpos] X.env).map (·.2) = [assign (.Subscript (.Name x np) k tpos) X.env] := by rfl) :
  DS X E own own ol (.Assign [.Subscript (.Name x np) k tpos] e pos) (zth own i fk fe) := fun G0 =>
 PS.mono' (zpf he (zr9 (pv i hN hv hd hcd) hk zog ha) hs hw h1) fun Dn σ H ⟨G, σd, ok, s0, q⟩ => by
 unfold zth ztG at q
 cases hL : zek σd i with
 | bad => rw [hL] at q; exact q.elim
 | err e => exact absurd hL zj0
 | ok ds =>
  rw [hL] at q
  have hd := zjZ hL
  have hi : i ∈ own := by simpa using ho
  obtain ⟨a, ds', vs, p1, p2, p3, p4, p5, p6⟩ := ok.mine i _ hi hd
  cases p2
  refine ⟨G, mask own σd, ok.masked, (show RW ((fe (mask own σd)).bind _) _ _ from q).of_bind.mono (fun d _ z v G1 H1 s1 r1 => ?_) fun _ z => z.step s0⟩
  have ok1 := ok.step s1
  refine ⟨_, p1, G1, mask own σd, ok1.masked, z.of_bind.mono (fun kd _ z kv G2 H2 s2 r2 => ?_) fun _ z => z.step (s0.trans s1)⟩
  have ok2 := ok1.step s2
  have s12 := s1.trans s2
  cases kd with
  | int n =>
   cases r2
   cases hj : ixN ds.length n with
   | none => simp only [hj] at z; exact z.elim
   | some j =>
    simp only [hj] at z
    refine ⟨a, vs, n, j, rfl, rfl, s12.h _ _ p3, by rw [← p6.length]; exact hj, ?_⟩
    exact (show zfn X.K X.mg G0 X.H₀ own ol Dn G (.nx (σd.set i (some (.lst (ds.set j d))))) from z) σ G2 _ (ok2.write hi hd p1 ((p6.mono s12.g).set j (r1.mono s2.g))) ((s0.trans s12).write (o := .lst vs) p5 (s12.c _ _ p3 p4)) s12.g
  | _ => exact (show False from z).elim
end
end DL
end
section
set_option Elab.async false
set_option linter.all false
set_option maxRecDepth 100000
namespace DL
open PySem PySem.Spec PyProof.Rows L2
section
variable {X : Cx} {E : XK} {pos : Pos}
theorem zrl {pins : List (Addr × Obj)} {σ : L2.St} {H : Hp} {s : Shared} (I : Inv X pins σ H s) : sysModules < s.heap.objs.size :=
 Nat.lt_trans (by decide) (show mainGlobals < s.heap.objs.size from (I.mod.glob.keeps I.bk).lt)
theorem zuJ : PE X (.Dict [] [] pos) (fun _ H Q => ∀ p, H p = none → Q (.ref p) (upd H p (.dK []))) := fun pins s σ H Q I h =>
 wpAny_Dict_empty ⟨.ref s.heap.objs.size, _, I.laid (a := s.heap.objs.size) (o := .dK []) (t' := s.toks) (fun _ _ q => Heap.get?_push_of_some _ q) (Nat.le_refl _)
  ⟨Nat.zero_le _, beq_eq_false_iff_ne.mpr (Ne.symm (Nat.ne_of_lt (zrl I))), [], .nil, Heap.DictOf.new s.heap⟩, rfl, h _ (I.hok.fresh (Nat.le_refl _))⟩
theorem zuK : DE X E (.Dict [] [] pos) (eC (.dct [] [])) := PE.mono' zuJ fun σ H Q ⟨G, σd, ok, q⟩ p hp => by
 have sp := zbA.pub (o := .dK []) ok.ext hp
 exact (show zaq X.K X.mg Q G H (.dct [] []) from q) _ _ _ sp ⟨p, [], rfl, .inl zau, rfl, Reps.nil⟩
end
end DL
end
section
set_option Elab.async false
set_option linter.all false
set_option maxRecDepth 100000
namespace DL
open PySem L2 PyProof.Rows
def inD (d : D) (xs : List D) : Bool := xs.any fun y => eqD y d
def in2 (d : D) (xs : List D) : Bool := zdx 9 d && xs.all (zdx 9)
def gIn : D → D → R D
 | d, .lst xs => bif in2 d xs then .ok (.bl (inD d xs)) else .bad
 | d, .tup xs => bif in2 d xs then .ok (.bl (inD d xs)) else .bad
 | .str i, .str j => .ok (.bl (!(Builtin.Str.occurrences j i 0 j.length 1).isEmpty))
 | _, _ => .bad
def zlI : D → D → R D
 | d, .lst xs => bif in2 d xs then .ok (.bl (!inD d xs)) else .bad
 | d, .tup xs => bif in2 d xs then .ok (.bl (!inD d xs)) else .bad
 | .str i, .str j => .ok (.bl (!(!(Builtin.Str.occurrences j i 0 j.length 1).isEmpty)))
 | _, _ => .bad
section
variable {X : Cx} {E : XK}
theorem zti {K : PySem.W.Frag} {mg : Str → Option Value} {G : Hp} {d : D} (f : Value → Bool) : ∀ {ds : List D} {vs : List V} {its : List Value}, (∀ d' v' u, d' ∈ ds → Rep K mg G d' v' → zbz v' u → f u = eqD d' d) → Reps K mg G ds vs → zbt vs its → its.any f = ds.any fun y => eqD y d
 | [], _, _, _, r, t => by cases r; cases t; rfl
 | d' :: ds, _, _, h, ⟨v, vs, e, r1, r2⟩, t => by
  subst e
  cases t with
  | cons q t =>
   rw [List.any_cons, List.any_cons, h d' _ _ List.mem_cons_self r1 q, zti f (fun d'' v'' u hd => h d'' v'' u (List.mem_cons_of_mem _ hd)) r2 t]
theorem zf2 {K : PySem.W.Frag} {mg : Str → Option Value} {G : Hp} : ∀ {ds : List D} {vs : List V} {its : List Value}, Reps K mg G ds vs → zbt vs its → ∀ u ∈ its, ∃ d' v', d' ∈ ds ∧ Rep K mg G d' v' ∧ zbz v' u
 | [], _, _, r, t, u, hu => by cases r; cases t; cases hu
 | d' :: ds, _, _, ⟨v, vs, e, r1, r2⟩, t, u, hu => by
  subst e
  cases t with
  | cons q t =>
   rcases List.mem_cons.mp hu with rfl | hu
   ·exact ⟨d', v, List.mem_cons_self, r1, q⟩
   ·obtain ⟨d'', v'', h1, h2, h3⟩ := zf2 r2 t u hu
    exact ⟨d'', v'', List.mem_cons_of_mem _ h1, h2, h3⟩
def rInD (K : PySem.W.Frag) (mg : Str → Option Value) (neg : Bool) : R2 := fun x y H Q => ∃ G d ds p vs, zaK G H ∧ Rep K mg G d x ∧ y = .ref p ∧ (SqL K G p vs ∨ SqT K G p vs) ∧ Reps K mg G ds vs ∧ in2 d ds = true ∧ Q (.bl (bif neg then !inD d ds else inD d ds)) H
open Classical in
theorem zfA {pins : List (Addr × Obj)} {σ : L2.St} {G H : Hp} {s : Shared} (I : Inv X pins σ H s) {k : Nat} (r : zfi k X.A) (e : zaK G H) {d : D} {x : V} {v : Value} {ds : List D} {vs : List V} {its : List Value} (rx : Rep X.K X.mg G d x) (qx : zbz x v) (rs : Reps X.K X.mg G ds vs) (t : zbt vs its) (h : in2 d ds = true) :
  ∃ f : Value → Bool, (∀ u ∈ its, SeqAt.EqAt X.A.in1 s u v (f u)) ∧ its.any f = inD d ds := by
 unfold in2 at h
 rw [Bool.and_eq_true, List.all_eq_true] at h
 obtain ⟨h1, h2⟩ := h
 have key : ∀ d' v' u, d' ∈ ds → Rep X.K X.mg G d' v' → zbz v' u → decide (∃ d'' v'', d'' ∈ ds ∧ Rep X.K X.mg G d'' v'' ∧ zbz v'' u ∧ eqD d'' d = true) = eqD d' d := by
  intro d' v' u hd r1 q1
  by_cases hq : eqD d' d = true
  ·rw [hq]; exact decide_eq_true ⟨d', v', hd, r1, q1, hq⟩
  ·rw [Bool.not_eq_true] at hq
   rw [hq]
   refine decide_eq_false ?_
   rintro ⟨d'', v'', hd', r2, q2, hq'⟩
   have ev := q1.inj q2
   subst ev
   have := zjp I e 9 (h2 _ hd) (h2 _ hd') r1 r2
   subst this
   rw [hq] at hq'; cases hq'
 refine ⟨fun u => decide (∃ d'' v'', d'' ∈ ds ∧ Rep X.K X.mg G d'' v'' ∧ zbz v'' u ∧ eqD d'' d = true), fun u hu => ?_, zti _ key rs t⟩
 obtain ⟨d', v', hd, r1, q1⟩ := zf2 rs t u hu
 show SeqAt.EqAt X.A.in1 s u v (decide _)
 rw [key d' v' u hd r1 q1]
 exact (zmz I e 9 (by rw [in1_units]; have := r.un; omega) (h2 _ hd) h1 r1 q1 rx qx).1
theorem ztj {k : Nat} (r : zfi k X.A) : OpR X (compareOp .In) (rInD X.K X.mg false) := by
 intro pins s σ H x y v u Q I rx ry h
 obtain ⟨G, d, ds, p, vs, e, r1, rfl, hq, rs, c, q⟩ := h
 cases ry
 rcases hq with hq | hq
 ·obtain ⟨its, t, pl, hz⟩ := I.list (e.seq hq)
  obtain ⟨f, h1, h2⟩ := zfA I r e r1 rx rs t c
  refine SeqAt.in_listAt f pl.isList (fun w hw => h1 w (by simpa using hw)) ⟨.bl _, H, I, rfl, ?_⟩
  rw [show its.toArray.any f = its.any f by simp, h2]; exact q
 ·obtain ⟨its, t, pl, hz⟩ := I.tuple (zaK.sqT e hq)
  obtain ⟨f, h1, h2⟩ := zfA I r e r1 rx rs t c
  refine SeqAt.in_tupleAt f pl (fun w hw => h1 w (by simpa using hw)) ⟨.bl _, H, I, rfl, ?_⟩
  rw [show its.toArray.any f = its.any f by simp, h2]; exact q
theorem zrm {k : Nat} (r : zfi k X.A) : OpR X (compareOp .NotIn) (rInD X.K X.mg true) := by
 intro pins s σ H x y v u Q I rx ry h
 obtain ⟨G, d, ds, p, vs, e, r1, rfl, hq, rs, c, q⟩ := h
 cases ry
 rcases hq with hq | hq
 ·obtain ⟨its, t, pl, hz⟩ := I.list (e.seq hq)
  obtain ⟨f, h1, h2⟩ := zfA I r e r1 rx rs t c
  refine SeqAt.notIn_listAt f pl.isList (fun w hw => h1 w (by simpa using hw)) ⟨.bl _, H, I, rfl, ?_⟩
  rw [show its.toArray.any f = its.any f by simp, h2]; exact q
 ·obtain ⟨its, t, pl, hz⟩ := I.tuple (zaK.sqT e hq)
  obtain ⟨f, h1, h2⟩ := zfA I r e r1 rx rs t c
  refine SeqAt.notIn_tupleAt f pl (fun w hw => h1 w (by simpa using hw)) ⟨.bl _, H, I, rfl, ?_⟩
  rw [show its.toArray.any f = its.any f by simp, h2]; exact q
abbrev rInS (neg : Bool) : R2 := fun x y H Q => ∃ i j, x = .str i ∧ y = .str j ∧ Q (.bl (bif neg then !(!(Builtin.Str.occurrences j i 0 j.length 1).isEmpty) else !(Builtin.Str.occurrences j i 0 j.length 1).isEmpty)) H
theorem zuL {k : Nat} (C : XC X E k) : zlm X .In gIn := ⟨_, (ztj C.room).or (zlT : OpR X _ (rInS false)), fun G H a b x y Q e ra rb q => by
 cases b with
 | lst xs =>
  obtain ⟨p, vs, rfl, h1, h2⟩ := rb
  cases hc : in2 a xs with
  | false => simp only [gIn, hc, cond_false] at q; exact q.elim
  | true => simp only [gIn, hc, cond_true] at q; exact .inl ⟨G, a, xs, p, vs, e, ra, rfl, .inl h1, h2, hc, zaq.now q e rfl⟩
 | tup xs =>
  obtain ⟨p, vs, rfl, h1, h2⟩ := rb
  cases hc : in2 a xs with
  | false => simp only [gIn, hc, cond_false] at q; exact q.elim
  | true => simp only [gIn, hc, cond_true] at q; exact .inl ⟨G, a, xs, p, vs, e, ra, rfl, .inr h1, h2, hc, zaq.now q e rfl⟩
 | str j => cases a with
  | str i => cases ra; cases rb; exact .inr ⟨i, j, rfl, rfl, zaq.now q e rfl⟩
  | _ => exact (show False from q).elim
 | _ => cases a <;> exact (show False from q).elim, fun a b e => by
  cases b with
  | lst xs => simp only [gIn]; cases in2 a xs <;> simp [cond]
  | tup xs => simp only [gIn]; cases in2 a xs <;> simp [cond]
  | _ => cases a <;> simp [gIn]⟩
theorem ztk {k : Nat} (C : XC X E k) : zlm X .NotIn zlI := ⟨_, (zrm C.room).or (zie : OpR X _ (rInS true)), fun G H a b x y Q e ra rb q => by
 cases b with
 | lst xs =>
  obtain ⟨p, vs, rfl, h1, h2⟩ := rb
  cases hc : in2 a xs with
  | false => simp only [zlI, hc, cond_false] at q; exact q.elim
  | true => simp only [zlI, hc, cond_true] at q; exact .inl ⟨G, a, xs, p, vs, e, ra, rfl, .inl h1, h2, hc, zaq.now q e rfl⟩
 | tup xs =>
  obtain ⟨p, vs, rfl, h1, h2⟩ := rb
  cases hc : in2 a xs with
  | false => simp only [zlI, hc, cond_false] at q; exact q.elim
  | true => simp only [zlI, hc, cond_true] at q; exact .inl ⟨G, a, xs, p, vs, e, ra, rfl, .inr h1, h2, hc, zaq.now q e rfl⟩
 | str j => cases a with
  | str i => cases ra; cases rb; exact .inr ⟨i, j, rfl, rfl, zaq.now q e rfl⟩
  | _ => exact (show False from q).elim
 | _ => cases a <;> exact (show False from q).elim, fun a b e => by
  cases b with
  | lst xs => simp only [zlI]; cases in2 a xs <;> simp [cond]
  | tup xs => simp only [zlI]; cases in2 a xs <;> simp [cond]
  | _ => cases a <;> simp [zlI]⟩
end
theorem zrn {d : D} {xs : List D} (h : in2 d xs = true) : zlI d (.lst xs) = .ok (.bl (!inD d xs)) := by
 cases d <;> (simp only [zlI]; rw [h]; rfl)
def zuM : D → D → R (List D)
 | .lst xs, .lst ys => bif zll (xs.length + ys.length) then .ok (xs ++ ys) else .bad
 | _, _ => .bad
def eCat (fa fb : DSt → R D) : DSt → R (List D) := fun σ => (fa σ).bind fun x => (fb σ).bind fun y => zuM x y
theorem ztl {X : Cx} {E : XK} {a b : Expr} {fa fb : DSt → R D} {pos : Pos} (ha : DE X E a fa) (hb : DE X E b fb) : DF X E (.BinOp a .Add b pos) (eCat fa fb) := by
 refine PE.mono' (zse zmC ha hb) fun σ H Q ⟨G, σd, ok, q⟩ => ?_
 refine zce (P := zdz X.K X.mg Q) ok q fun a x G1 H1 s1 ok1 r1 q1 => ?_
 refine zce (P := fun _ _ => zdz X.K X.mg Q G H) ok1 q1 fun b y G2 H2 s2 ok2 r2 q2 => ?_
 cases a with
 | lst xs => cases b with
  | lst ys =>
   obtain ⟨p, vs, rfl, h1, h2⟩ := r1
   obtain ⟨p', ws, rfl, h1', h2'⟩ := r2
   have h1 := s2.g.seq h1
   have h2 := h2.mono s2.g
   cases hC : zll (xs.length + ys.length) with
   | false => simp only [zuM, hC, cond_false] at q2; exact q2.elim
   | true =>
    simp only [zuM, hC, cond_true] at q2
    have q3 : zdz X.K X.mg Q G H (xs ++ ys) := q2
    refine ⟨p, p', vs, ws, rfl, rfl, ok2.ext.seq h1, ok2.ext.seq h1', by rw [← h2.length, ← h2'.length]; exact of_decide_eq_true hC, fun l hl => ?_⟩
    exact q3 l _ G2 _ ((s1.trans s2).trans (.hid ok2.ext hl)) ((s1.trans s2).h.free hl) zau (ok2.ext.free hl) (h2.append h2')
  | _ => exact (show False from q2).elim
 | _ => cases b <;> exact (show False from q2).elim
end DL
end
section
set_option Elab.async false
set_option linter.all false
set_option maxRecDepth 100000
namespace DL
open PySem L2 PyProof.Rows
section
variable {prog : Program} {w : World} {A : Around} {E : Value → Shared → Prop} {s : Shared}
theorem items_int {ks : List Int} {vs : List Value} (h : ItemsAre (intKind prog w) ks vs) : ∀ v ∈ vs, ∃ i t, v = .int i t := by
 induction h with
 | nil => intro v hv; cases hv
 | cons q _ ih =>
  intro v hv
  rcases List.mem_cons.mp hv with rfl | hv
  ·cases v with
   | int i t => exact ⟨i, t, rfl⟩
   | _ => cases q
  ·exact ih v hv
theorem zkV {ks : List Int} {b : Addr} {Q : Bool → Shared → Prop} (hk : IsTupleKey (intKind prog w) s.heap ks b) (q : Q false s) : wpAny (model prog w) A (ofAClassStatement 8 (.ref b)) Q E s := by
 have ty := hk.typeIs
 obtain ⟨ob, its, m, g1, _, g2, g3⟩ := hk
 have hint := items_int g3
 unfold ofAClassStatement
 refine wpAny_bind (wpAny_typeOf ty ?_)
 refine wpAny_bind (wpAny_pure ?_)
 dsimp only
 rw [if_neg (by decide)]
 refine wpAny_bind (wpAny_seqItems g1 g2 ?_)
 dsimp only
 refine wpAny_bind ?_
 show wpAny _ _ (forIn its _ _) _ _ s
 rw [← Array.forIn_toList]
 refine wpAny_forIn_list _ (fun left r s1 => r.1 = none ∧ s1 = s ∧ ∀ v ∈ left, ∃ i t, v = Value.int i t) _ ?_ ?_ _ _ ⟨rfl, rfl, hint⟩
 ·rintro v left r s1 ⟨hr, rfl, all⟩
  obtain ⟨i, t, rfl⟩ := all v List.mem_cons_self
  refine wpAny_bind (wpAny_pure (a := false) ?_)
  rw [if_neg (by decide)]
  exact wpAny_pure ⟨rfl, rfl, fun u hu => all u (List.mem_cons_of_mem _ hu)⟩
 ·rintro ⟨r1, r2⟩ s1 ⟨hr, rfl, _⟩
  simp only at hr
  subst hr
  exact wpAny_pure q
theorem znp {ks : List Int} {b : Addr} {stored : List Value} {Q : Bool → Shared → Prop} (hk : IsTupleKey (intKind prog w) s.heap ks b) (hs : ∀ v ∈ stored, ∃ c ls, v = .ref c ∧ IsTupleKey (intKind prog w) s.heap ls c) (q : Q false s) : wpAny (model prog w) A (searchCouldBeSeen (.ref b) stored) Q E s := by
 unfold searchCouldBeSeen
 refine wpAny_bind ?_
 refine wpAny_forIn_list _ (fun left r s1 => r.1 = none ∧ s1 = s ∧ ∀ v ∈ left, ∃ c ls, v = Value.ref c ∧ IsTupleKey (intKind prog w) s.heap ls c) _ ?_ ?_ _ _ ⟨rfl, rfl, hs⟩
 ·rintro v left r s1 ⟨hr, rfl, all⟩
  obtain ⟨c, ls, rfl, hc⟩ := all v List.mem_cons_self
  have za4 : ∀ u ∈ left, ∃ c ls, u = Value.ref c ∧ IsTupleKey (intKind prog w) s1.heap ls c := fun u hu => all u (List.mem_cons_of_mem _ hu)
  dsimp only
  by_cases hv : (b == c || carriedByValue (.ref b) && carriedByValue (.ref c)) = true
  ·rw [if_pos hv]
   exact wpAny_pure ⟨rfl, rfl, za4⟩
  ·rw [if_neg hv]
   refine wpAny_bind (wpAny_eqIsQuiet_tuple hk ?_)
   rw [if_neg (by decide)]
   refine wpAny_bind (wpAny_eqIsQuiet_tuple hc ?_)
   rw [if_neg (by decide)]
   refine wpAny_bind (zkV hk ?_)
   rw [if_neg (by decide)]
   refine wpAny_bind (zkV hc ?_)
   rw [if_neg (by decide)]
   exact wpAny_pure ⟨rfl, rfl, za4⟩
 ·rintro ⟨r1, r2⟩ s1 ⟨hr, rfl, _⟩
  simp only at hr
  subst hr
  exact wpAny_pure q
theorem zro {ks : List Int} {b : Addr} {Q : Bool → Shared → Prop} (hk : IsTupleKey (intKind prog w) s.heap ks b) (q : Q true s) : wpAny (model prog w) A (hashByValue 8 (.ref b)) Q E s := by
 have ty := hk.typeIs
 obtain ⟨ob, its, m, g1, _, g2, g3⟩ := hk
 have hint := items_int g3
 unfold hashByValue
 refine wpAny_bind (wpAny_specialOf ty PySem.F.slot_tuple_hash.lookup ?_)
 dsimp only
 refine wpAny_bind (wpAny_seqItems g1 g2 ?_)
 refine wpAny_bind ?_
 show wpAny _ _ (forIn its _ _) _ _ s
 rw [← Array.forIn_toList]
 refine wpAny_forIn_list _ (fun left r s1 => r.1 = none ∧ s1 = s ∧ ∀ v ∈ left, ∃ i t, v = Value.int i t) _ ?_ ?_ _ _ ⟨rfl, rfl, hint⟩
 ·rintro v left r s1 ⟨hr, rfl, all⟩
  obtain ⟨i, t, rfl⟩ := all v List.mem_cons_self
  refine wpAny_bind (wpAny_pure (a := true) ?_)
  rw [if_neg (by decide)]
  exact wpAny_pure ⟨rfl, rfl, fun u hu => all u (List.mem_cons_of_mem _ hu)⟩
 ·rintro ⟨r1, r2⟩ s1 ⟨hr, rfl, _⟩
  simp only at hr
  subst hr
  exact wpAny_pure q
structure TSet (prog : Program) (w : World) (h : Heap) (a : Addr) (o : Obj) (es : Array (Int × Value)) (ep : Nat) (t : SetTable) (kss : List (List Int)) : Prop where
 get : h.get? a = some o
 ex : o.ExactSet
 dat : o.data = .set es ep t
 dm : t.dummies = #[]
 pl : t.place.size = es.size
 msk : (t.mask = 7 ∧ es.size ≤ 4) ∨ (t.mask = 31 ∧ es.size ≤ 18)
 n : es.size = kss.length
 el : ∀ e ∈ es.toList, ∃ c ls, e.2 = .ref c ∧ IsTupleKey (intKind prog w) h ls c ∧ ls ∈ kss
variable {h : Heap} {a : Addr} {o : Obj} {es : Array (Int × Value)} {ep : Nat} {t : SetTable} {kss : List (List Int)}
theorem zhc : ∀ (n : Nat) (p : SetTable.Probe), p.dummy = none → (SetT.iter t n p).dummy = none
 | 0, _, hp => hp
 | n + 1, p, hp => zhc n (t.advance p) (by rw [SetT.adv_dummy]; exact hp)
theorem zeo {h' : Heap} (sb : Heap.SameBut a h h') (g : h.get? a = some o) (dd : o.data = .set es ep t) {ls : List Int} {c : Addr} (hk : IsTupleKey (intKind prog w) h ls c) : IsTupleKey (intKind prog w) h' ls c := by
 obtain ⟨ob, its, m, g1, g2, g3, g4⟩ := hk
 have ne : c ≠ a := fun z => by
  subst z
  rw [g] at g1
  cases g1
  rw [dd] at g3
  cases g3
 exact ⟨ob, its, m, (sb.2 c ne).trans g1, g2, g3, g4⟩
theorem ziW {es' : Array (Int × Value)} {t' : SetTable} (g : h.get? a = some o) (dd : o.data = .set es ep t) : (h.update a (Obj.putSet es' t')).get? a = some { o with data := .set es' (ep + 1) t' } := by
 have := Heap.get?_update_self (Obj.putSet es' t') g (by rw [putSet_of es' t' dd]; rfl)
 rw [putSet_of es' t' dd] at this
 exact this
theorem zeA {α : Type} (xs : Array α) (p : Nat) (x : α) : (SetTable.insertAt xs p x).size = xs.size + 1 := by
 have := (SetTable.insertAt_perm xs p x).length_eq
 rw [Array.length_toList, Array.length_toList, Array.size_push] at this
 exact this
theorem ziX {α : Type} {xs : Array α} {p : Nat} {x y : α} (hy : y ∈ (SetTable.insertAt xs p x).toList) : y = x ∨ y ∈ xs.toList := by
 have := (SetTable.insertAt_perm xs p x).mem_iff.mp hy
 rw [Array.toList_push] at this
 rcases List.mem_append.mp this with z | z
 ·exact .inr z
 ·exact .inl (List.mem_singleton.mp z)
end
end DL
end
section
set_option Elab.async false
set_option linter.all false
set_option maxRecDepth 100000
namespace DL
open PySem L2 PyProof.Rows
section
variable {prog : Program} {w : World} {A : Around} {h h' : Heap} {it l z : Addr} {items : Array Value}
theorem zf3 (kp : ∀ b u, b ∉ [it] → h.get? b = some u → h'.get? b = some u) {i : Nat} (hi : h.IsListIter it l i) {ls : List Int} {c : Addr} (hk : IsTupleKey (intKind prog w) h ls c) : IsTupleKey (intKind prog w) h' ls c := by
 obtain ⟨ob, its, m, g1, g2, g3, g4⟩ := hk
 obtain ⟨oi, e1, e2, _⟩ := hi
 have ne : c ∉ [it] := fun q => by
  rw [List.mem_singleton] at q
  subst q
  rw [g1] at e1
  cases e1
  rw [g2] at e2
  exact absurd e2 (by decide)
 exact ⟨ob, its, m, kp c _ ne g1, g2, g3, g4⟩
abbrev zdB (led : Bool) : Obj := { cls := .type "set", dict := none, data := .set #[] 0 (.fresh 0 0 led) }
end
end DL
end
section
set_option Elab.async false
set_option linter.all false
set_option maxRecDepth 100000
namespace DL
open PySem L2 PyProof.Rows
section
variable {X : Cx} {E : XK}
def ztH (a : Addr) (n : Nat) : Heap → Prop := fun h => ∃ o es ep t, h.get? a = some o ∧ o.ExactSet ∧ o.data = .set es ep t ∧ SetTable.fits t es.size = true ∧ es.size = n
def zcv (K : PySem.W.Frag) (H : Hp) : List V → List (List Int) → Prop
 | [], [] => True
 | v :: vs, ks :: kss => (∃ b, v = .ref b ∧ SqT K H b (ks.map V.int)) ∧ zcv K H vs kss
 | _, _ => False
theorem zcv.length {K : PySem.W.Frag} {H : Hp} : ∀ {vs : List V} {kss : List (List Int)}, zcv K H vs kss → vs.length = kss.length
 | [], [], _ => rfl
 | _ :: _, _ :: _, ⟨_, t⟩ => by rw [List.length_cons, List.length_cons, zcv.length t]
 | [], _ :: _, h => h.elim
 | _ :: _, [], h => h.elim
theorem zkW : ∀ {ks : List Int} {us : List Value}, zbt (ks.map V.int) us → ItemsAre (intKind X.prog X.w) ks us
 | [], _, h => by cases h; exact .nil
 | k :: ks, _, h => by
  cases h with
  | cons q t =>
   obtain ⟨tk, rfl⟩ := q
   exact .cons (intKind_is _ _ _ _) (zkW t)
theorem znq {pins : List (Addr × Obj)} {σ : L2.St} {H : Hp} {s : Shared} (I : Inv X pins σ H s) : ∀ {vs : List V} {kss : List (List Int)} {us : List Value}, zcv X.K H vs kss → zbt vs us → ∀ j, j < us.length → ∃ b, us[j]? = some (.ref b) ∧ IsTupleKey (intKind X.prog X.w) s.heap (kss.getD j []) b
 | [], [], _, _, h, j, hj => by cases h; cases hj
 | v :: vs, ks :: kss, _, ⟨⟨b, e1, e2⟩, t⟩, h, j, hj => by
  cases h with
  | cons q r =>
   subst e1
   cases q
   cases j with
   | zero =>
    obtain ⟨its, rv, ⟨ob, g1, g2, n, g3⟩, _⟩ := I.tuple e2
    exact ⟨b, rfl, ob, its.toArray, n, g1, g2, g3, by rw [List.toList_toArray]; exact zkW rv⟩
   | succ j =>
    obtain ⟨c, c1, c2⟩ := znq I t r j (by simpa using hj)
    exact ⟨c, c1, c2⟩
 | [], _ :: _, _, h, _, _, _ => h.elim
 | _ :: _, [], _, h, _, _, _ => h.elim
def zuN : List V → Hp → VK → Prop := fun xs H Q => ∃ (a : Addr) (n : Nat), xs = [.ref a] ∧ H a = some (.ext (ztH a n)) ∧ n ≤ 1000 ∧ Q (.int n) H
theorem znr : zcP X (.builtin "len") zuN := by
 intro pins s σ H xs us Q I rs h
 obtain ⟨a, n, rfl, hq, hn, q⟩ := h
 obtain ⟨u, rfl, rx⟩ := zgE rs
 cases rx
 obtain ⟨⟨o, es, ep, t, g1, g2, g3, g4, g5⟩, _⟩ := (show zc6 X.prog X.w H s.heap a (.ext (ztH a n)) from I.hok a _ hq)
 exact call_len_set g1 g2 g3 g4 (by omega) ⟨.int n, H, I.tok _, ⟨s.toks + 1, by rw [g5]⟩, q⟩
def zbI : List D → Option (List (List Int))
 | [] => some []
 | .tup xs :: ds => match zex xs with
  | some ks => (zbI ds).map (ks :: ·)
  | none => none
 | _ => none
theorem ziY {K : PySem.W.Frag} {mg : Str → Option Value} {G : Hp} : ∀ {ds : List D} {kss : List (List Int)} {vs : List V}, zbI ds = some kss → Reps K mg G ds vs → zcv K G vs kss
 | [], _, _, h, r => by cases h; cases r; exact True.intro
 | .tup xs :: ds, _, _, h, ⟨v, t, e1, r1, r2⟩ => by
  subst e1
  cases hi : zex xs with
  | none => simp [zbI, hi] at h
  | some ks =>
   cases hd : zbI ds with
   | none => simp [zbI, hi, hd] at h
   | some kss' =>
    simp [zbI, hi, hd] at h
    subst h
    obtain ⟨a, ws, rfl, q1, q2⟩ := r1
    rw [zfT hi] at q2
    rw [Reps.of_ints q2] at q1
    exact ⟨⟨a, rfl, q1⟩, ziY hd r2⟩
 | .non :: _, _, _, h, _ => by simp [zbI] at h
 | .bl _ :: _, _, _, h, _ => by simp [zbI] at h
 | .int _ :: _, _, _, h, _ => by simp [zbI] at h
 | .str _ :: _, _, _, h, _ => by simp [zbI] at h
 | .ty _ :: _, _, _, h, _ => by simp [zbI] at h
 | .cls _ :: _, _, _, h, _ => by simp [zbI] at h
 | .lst _ :: _, _, _, h, _ => by simp [zbI] at h
 | .dct _ _ :: _, _, _, h, _ => by simp [zbI] at h
 | .exc _ _ :: _, _, _, h, _ => by simp [zbI] at h
theorem zcv.mono {K : PySem.W.Frag} {G H : Hp} (e : zaK G H) : ∀ {vs : List V} {kss : List (List Int)}, zcv K G vs kss → zcv K H vs kss
 | [], [], _ => True.intro
 | _ :: _, _ :: _, ⟨⟨b, e1, e2⟩, t⟩ => ⟨⟨b, e1, zaK.sqT e e2⟩, zcv.mono e t⟩
 | [], _ :: _, h => h.elim
 | _ :: _, [], h => h.elim
end
end DL
end
section
set_option Elab.async false
set_option linter.all false
set_option maxRecDepth 100000
namespace L2
open PySem PyProof.Rows
section
variable {prog : Program} {w : World} {A : Around} {E : Value → Shared → Prop} {s : Shared}
theorem zqj {it t : Addr} {k : Nat} {its : Array Value} {x : Value} {Q : Value → Shared → Prop} (st : s.heap.IsTupleIter it t k) (ht : s.heap.IsTuple t its) (hx : its[k]? = some x)
  (q : ∀ g, g.IsTupleIter it t (k + 1) → Heap.SameBut it s.heap g → Q x { s with heap := g }) : wpAny (model prog w) A (Builtin.SmallTypes.nextOf (.ref it)) Q E s := by
 obtain ⟨o, eo, co, d⟩ := id st
 obtain ⟨l, el, _, n, dl⟩ := ht
 unfold Builtin.SmallTypes.nextOf
 apply wpAny_bind
 refine wpAny_callSpecial?_slot (name := "__next__") st.typeIs F.slot_tuple_iterator_next ?_
 refine wpAny_call_entry F.slot_tuple_iterator_next st.typeIs F.entry_tuple_iterator_next ?_ (F.args_tuple_iterator_next_1 _)
 show wpAny _ _ (field (.ref it) 0 >>= _) _ _ s
 apply wpAny_bind
 refine wpAny_field eo d (x := .ref t) rfl ?_
 show wpAny _ _ (if (Value.ref t == .none) = true then _ else _) _ _ s
 have nn : ¬ (Value.ref t == .none) = true := Bool.false_ne_true
 rw [if_neg nn]
 show wpAny _ _ (field (.ref it) 1 >>= _) _ _ s
 apply wpAny_bind
 refine wpAny_field eo d (x := .int k 0) rfl ?_
 show wpAny _ _ (seqItems? (.ref t) >>= _) _ _ s
 apply wpAny_bind
 refine wpAny_seqItems el dl ?_
 simp only [hx, Int.toNat_natCast]
 apply wpAny_bind
 refine wpAny_setField eo d (by simp) (wpAny_pure ⟨x, rfl, wpAny_pure (q _ ⟨_, Heap.get?_update_self _ eo (Obj.isFreed_of_fields (Obj.data_mapFields d _)), (Obj.cls_mapFields ..).trans co, ?_⟩ (.update ..))⟩)
 rw [Obj.data_mapFields d]; simp [rawInt]
theorem zln {it t : Addr} {k : Nat} {its : Array Value} {Q : Value → Shared → Prop} (hh : A.handled = none) (st : s.heap.IsTupleIter it t k) (ht : s.heap.IsTuple t its) (hx : its[k]? = none)
  (q : ∀ g e, Heap.ExtBut it s.heap g → (∃ o, g.get? e = some o ∧ o.cls = .type "StopIteration") → E (.ref e) { s with heap := g }) : wpAny (model prog w) A (Builtin.SmallTypes.nextOf (.ref it)) Q E s := by
 obtain ⟨o, eo, co, d⟩ := id st
 obtain ⟨l, el, _, n, dl⟩ := ht
 unfold Builtin.SmallTypes.nextOf
 apply wpAny_bind
 refine wpAny_callSpecial?_slot (name := "__next__") st.typeIs F.slot_tuple_iterator_next ?_
 refine wpAny_call_entry F.slot_tuple_iterator_next st.typeIs F.entry_tuple_iterator_next ?_ (F.args_tuple_iterator_next_1 _)
 show wpAny _ _ (field (.ref it) 0 >>= _) _ _ s
 apply wpAny_bind
 refine wpAny_field eo d (x := .ref t) rfl ?_
 show wpAny _ _ (if (Value.ref t == .none) = true then _ else _) _ _ s
 have nn : ¬ (Value.ref t == .none) = true := Bool.false_ne_true
 rw [if_neg nn]
 show wpAny _ _ (field (.ref it) 1 >>= _) _ _ s
 apply wpAny_bind
 refine wpAny_field eo d (x := .int k 0) rfl ?_
 show wpAny _ _ (seqItems? (.ref t) >>= _) _ _ s
 apply wpAny_bind
 refine wpAny_seqItems el dl ?_
 simp only [hx, Int.toNat_natCast]
 apply wpAny_bind; apply wpAny_rule; apply wpAny_bind
 refine wpAny_setField eo d (by simp) ?_
 show wpAny _ _ (newExc (.type "StopIteration") [] >>= _) _ _ _
 apply wpAny_bind
 simp only [newExc, newTuple]
 apply wpAny_bind
 refine wpAny_newObj_type ?_ (by size_fits)
 apply wpAny_bind (m := firstArgMember _ _)
 refine wpAny_of_eq (a := Value.none) (by first | rfl | (simp only [firstArgMember]; rfl)) ?_
 refine wpAny_newObj_type ?_ (by size_fits)
 simp only [raiseNew]
 apply wpAny_bind
 refine wpAny_handled ?_
 first | rw [show A.in1.handled = none from hh] | rw [hh]
 exact wpAny_bind (wpAny_pure (wpAny_throw (q _ _ (((Heap.SameBut.update ..).extBut.push _).push _) ⟨_, Heap.get?_push_size _ rfl, rfl⟩)))
structure ZAt (h : Heap) (z TI TO i1 i2 t1 t2 : Addr) (k : Nat) (xs ys : Array Value) (f : Value) : Prop where
 z : IsZip h z TI TO f
 ti : IsPair h TI (.ref i1) (.ref i2)
 to : ∃ a b, IsPair h TO a b
 i1 : h.IsTupleIter i1 t1 k
 i2 : h.IsTupleIter i2 t2 k
 t1 : h.IsTuple t1 xs
 t2 : h.IsTuple t2 ys
theorem ZAt.next {z TI TO i1 i2 t1 t2 : Addr} {k : Nat} {xs ys : Array Value} {x y : Value} {Q : Value → Shared → Prop} (D : ZipApart z TI TO i1 i2 t1 t2) (Z : ZAt s.heap z TI TO i1 i2 t1 t2 k xs ys .none) (hx : xs[k]? = some x) (hy : ys[k]? = some y)
  (q : ∀ g, ZAt g z TI TO i1 i2 t1 t2 (k + 1) xs ys (rawInt s.heap.objs.size) → IsPair g s.heap.objs.size x y → g.objs.size = s.heap.objs.size + 1 → (∀ c o, c ≠ z → c ≠ TO → c ≠ i1 → c ≠ i2 → s.heap.get? c = some o → g.get? c = some o) → Q (.ref s.heap.objs.size) { s with heap := g }) :
  wpAny (model prog w) A (Builtin.«zip.__next__» ⟨[.ref z], []⟩) (fun fin s' => ∃ v, fin = .done (.ret v) ∧ Q v s') E s := by
 obtain ⟨a, b, hTO⟩ := Z.to
 show wpAny _ _ (field (.ref z) 2 >>= _) _ _ _
 apply wpAny_bind
 refine wpAny_field Z.z rfl (x := .bool false) rfl ?_
 show wpAny _ _ (field (.ref z) 3 >>= _) _ _ _
 apply wpAny_bind
 refine wpAny_field Z.z rfl (x := .ref TI) rfl ?_
 apply wpAny_bind
 refine wpAny_seqItems Z.ti rfl ?_
 show wpAny _ _ (Builtin.SmallTypes.ownedTupleIsFree (.ref z) >>= _) _ _ _
 apply wpAny_bind
 unfold Builtin.SmallTypes.ownedTupleIsFree
 apply wpAny_bind
 refine wpAny_field Z.z rfl (x := .none) rfl (wpAny_pure ?_)
 simp only [if_true]
 apply wpAny_bind; apply wpAny_rule; apply wpAny_bind
 refine wpAny_field Z.z rfl (x := .ref TO) rfl ?_
 apply wpAny_bind
 refine wpAny_setField_rec Z.z (by simp) fun g1 z1 s1 => ?_
 have z1 : IsZip g1 z TI TO .ellipsis := z1
 apply wpAny_bind
 simp only [List.zipIdx_cons, List.zipIdx_nil, List.forIn_cons, List.forIn_nil]
 apply wpAny_bind; apply wpAny_bind; apply wpAny_onRaise
 show wpAny _ _ (Builtin.SmallTypes.nextOf (.ref i1) >>= _) _ _ _
 apply wpAny_bind
 refine zqj (Z.i1.extBut s1.extBut D.i1z) (Z.t1.extBut s1.extBut D.l1z) hx fun g2 j2 s2 => wpAny_pure ?_
 have o2 : IsPair g2 TO a b := s2.extBut _ _ D.TOi1 (s1.extBut _ _ D.TOz hTO)
 apply wpAny_bind
 refine wpAny_seqItems o2 rfl ?_
 apply wpAny_bind
 refine wpAny_updateSeq_pair o2 fun g3 o3 s3 => ?_
 have o3 : IsPair g3 TO x b := o3
 apply wpAny_bind
 refine wpAny_letGo (wpAny_pure ?_)
 apply wpAny_bind; apply wpAny_bind; apply wpAny_onRaise
 show wpAny _ _ (Builtin.SmallTypes.nextOf (.ref i2) >>= _) _ _ _
 apply wpAny_bind
 have u3 : ∀ c o, c ≠ z → c ≠ TO → c ≠ i1 → s.heap.get? c = some o → g3.get? c = some o := fun c o n1 n2 n3 e => s3.extBut _ _ n2 (s2.extBut _ _ n3 (s1.extBut _ _ n1 e))
 refine zqj (Z.i2.at fun o e => u3 _ o D.i2z D.TOi2.symm D.i12.symm e) (Z.t2.at fun o e => u3 _ o D.l2z D.l2TO D.l2i1 e) hy fun g4 j4 s4 => wpAny_pure ?_
 have o4 : IsPair g4 TO x b := s4.extBut _ _ D.TOi2 o3
 apply wpAny_bind
 refine wpAny_seqItems o4 rfl ?_
 apply wpAny_bind
 refine wpAny_updateSeq_pair o4 fun g5 o5 s5 => ?_
 have o5 : IsPair g5 TO x y := o5
 apply wpAny_bind
 refine wpAny_letGo (wpAny_pure (wpAny_pure ?_))
 apply wpAny_bind
 refine wpAny_seqItems o5 rfl ?_
 apply wpAny_bind
 refine wpAny_newTuple ?_
 have sz : g5.objs.size = s.heap.objs.size := s5.1.trans (s4.1.trans (s3.1.trans (s2.1.trans s1.1)))
 have z5 : IsZip g5 z TI TO .ellipsis := s5.extBut _ _ D.TOz.symm (s4.extBut _ _ D.i2z.symm (s3.extBut _ _ D.TOz.symm (s2.extBut _ _ D.i1z.symm z1)))
 have u5 : ∀ c o, c ≠ z → c ≠ TO → c ≠ i1 → c ≠ i2 → s.heap.get? c = some o → g5.get? c = some o := fun c o n1 n2 n3 n4 e => s5.extBut _ _ n2 (s4.extBut _ _ n4 (u3 c o n1 n2 n3 e))
 have a5 : g5.IsTupleIter i1 t1 (k + 1) := j2.at fun o e => s5.extBut _ _ D.TOi1.symm (s4.extBut _ _ D.i12 (s3.extBut _ _ D.TOi1.symm e))
 have b5 : g5.IsTupleIter i2 t2 (k + 1) := j4.at fun o e => s5.extBut _ _ D.TOi2.symm e
 have lz : z < g5.objs.size := Heap.lt_size z5
 show wpAny _ _ (Builtin.SmallTypes.ownedTupleHandOut (.ref z) (.ref g5.objs.size) >>= _) _ _ _
 apply wpAny_bind
 unfold Builtin.SmallTypes.ownedTupleHandOut
 have z6 : IsZip (g5.push { cls := .type "tuple", data := .seq #[x, y] }) z TI TO .ellipsis := Heap.get?_push_of_some _ z5
 apply wpAny_bind
 refine wpAny_setField_rec z6 (by simp) fun g7 z7 s7 => ?_
 have z7 : IsZip g7 z TI TO (rawInt g5.objs.size) := z7
 refine wpAny_setField_rec z7 (by simp) fun g8 z8 s8 => ?_
 have z8 : IsZip g8 z TI TO (rawInt g5.objs.size) := z8
 have up : ∀ c o, c ≠ z → g5.get? c = some o → g8.get? c = some o := fun c o n e => s8.extBut _ _ n (s7.extBut _ _ n (Heap.get?_push_of_some _ e))
 have p8 : IsPair g8 g5.objs.size x y := s8.extBut _ _ (Nat.ne_of_gt lz) (s7.extBut _ _ (Nat.ne_of_gt lz) (Heap.get?_push_size _ rfl))
 have w8 : g8.objs.size = g5.objs.size + 1 := s8.1.trans (s7.1.trans (Heap.size_push ..))
 rw [sz] at z8 p8 w8
 refine wpAny_pure ⟨_, rfl, ?_⟩
 show Q (.ref g5.objs.size) _
 rw [sz]
 have nT : ∀ c o, s.heap.get? c = some o → c ≠ z → c ≠ TO → c ≠ i1 → c ≠ i2 → g8.get? c = some o := fun c o e n1 n2 n3 n4 => up c o n1 (u5 c o n1 n2 n3 n4 e)
 exact q g8 ⟨z8, nT _ _ Z.ti D.TIz D.TITO D.TIi1 D.TIi2, ⟨_, _, up _ _ D.TOz o5⟩, a5.at fun o e => up _ o D.i1z e, b5.at fun o e => up _ o D.i2z e, Z.t1.at fun o e => nT _ o e D.l1z D.l1TO D.l1i1 D.l1i2, Z.t2.at fun o e => nT _ o e D.l2z D.l2TO D.l2i1 D.l2i2⟩ p8 w8 fun c o n1 n2 n3 n4 e => nT c o e n1 n2 n3 n4
theorem ZAt.last {z TI TO i1 i2 t1 t2 : Addr} {k : Nat} {xs ys : Array Value} {Q : Fin → Shared → Prop} (hh : A.handled = none) (D : ZipApart z TI TO i1 i2 t1 t2) (Z : ZAt s.heap z TI TO i1 i2 t1 t2 k xs ys .none) (hx : xs[k]? = none)
  (q : ∀ g e, (∀ c o, c ≠ z → c ≠ TO → c ≠ i1 → c ≠ i2 → s.heap.get? c = some o → g.get? c = some o) → (∃ o, g.get? e = some o ∧ o.cls = .type "StopIteration") → E (.ref e) { s with heap := g }) :
  wpAny (model prog w) A (Builtin.«zip.__next__» ⟨[.ref z], []⟩) Q E s := by
 show wpAny _ _ (field (.ref z) 2 >>= _) _ _ _
 apply wpAny_bind
 refine wpAny_field Z.z rfl (x := .bool false) rfl ?_
 show wpAny _ _ (field (.ref z) 3 >>= _) _ _ _
 apply wpAny_bind
 refine wpAny_field Z.z rfl (x := .ref TI) rfl ?_
 apply wpAny_bind
 refine wpAny_seqItems Z.ti rfl ?_
 show wpAny _ _ (Builtin.SmallTypes.ownedTupleIsFree (.ref z) >>= _) _ _ _
 apply wpAny_bind
 unfold Builtin.SmallTypes.ownedTupleIsFree
 apply wpAny_bind
 refine wpAny_field Z.z rfl (x := .none) rfl (wpAny_pure ?_)
 simp only [if_true]
 apply wpAny_bind; apply wpAny_rule; apply wpAny_bind
 refine wpAny_field Z.z rfl (x := .ref TO) rfl ?_
 apply wpAny_bind
 refine wpAny_setField_rec Z.z (by simp) fun g1 z1 s1 => ?_
 have z1 : IsZip g1 z TI TO .ellipsis := z1
 apply wpAny_bind
 simp only [List.zipIdx_cons, List.zipIdx_nil, List.forIn_cons, List.forIn_nil]
 apply wpAny_bind; apply wpAny_bind; apply wpAny_onRaise
 show wpAny _ _ (Builtin.SmallTypes.nextOf (.ref i1) >>= _) _ _ _
 apply wpAny_bind
 refine zln hh (Z.i1.extBut s1.extBut D.i1z) (Z.t1.extBut s1.extBut D.l1z) hx fun g2 e s2 he => ?_
 obtain ⟨o, eo, co⟩ := he
 have z2 : IsZip g2 z TI TO .ellipsis := s2 _ _ D.i1z.symm z1
 have ez : e ≠ z := fun w => by subst w; rw [z2] at eo; cases eo; simp at co
 refine wpAny_setField_rec z2 (by simp) fun g3 _ s3 => ?_
 exact q g3 e (fun c o n1 _ n3 _ w => s3.extBut _ _ n1 (s2 _ _ n3 (s1.extBut _ _ n1 w))) ⟨o, s3.extBut _ _ ez eo, co⟩
theorem ztm {z TI TO i1 i2 t1 t2 : Addr} {k : Nat} {xs ys : Array Value} {x y : Value} {Q : Option Value → Shared → Prop} (D : ZipApart z TI TO i1 i2 t1 t2) (Z : ZAt s.heap z TI TO i1 i2 t1 t2 k xs ys .none) (hx : xs[k]? = some x) (hy : ys[k]? = some y)
  (q : ∀ g, ZAt g z TI TO i1 i2 t1 t2 (k + 1) xs ys (rawInt s.heap.objs.size) → IsPair g s.heap.objs.size x y → g.objs.size = s.heap.objs.size + 1 → (∀ c o, c ≠ z → c ≠ TO → c ≠ i1 → c ≠ i2 → s.heap.get? c = some o → g.get? c = some o) → Q (some (.ref s.heap.objs.size)) { s with heap := g }) :
  wpAny (model prog w) A (pyNext (.ref z)) Q E s := by
 have T : s.TypeIs (.ref z) "zip" := ⟨_, Z.z, rfl⟩
 unfold pyNext
 apply wpAny_bind; apply wpAny_attempt
 refine wpAny_callSpecial?_slot (name := "__next__") T F.slot_zip_next ?_
 refine wpAny_call_entry F.slot_zip_next T F.entry_zip_next ?_ (F.args_zip_next_1 _)
 exact Z.next D hx hy fun g a1 a2 a3 a4 => wpAny_pure (q g a1 a2 a3 a4)
theorem zrp {z TI TO i1 i2 t1 t2 : Addr} {k : Nat} {xs ys : Array Value} {Q : Option Value → Shared → Prop} (hh : A.handled = none) (D : ZipApart z TI TO i1 i2 t1 t2) (Z : ZAt s.heap z TI TO i1 i2 t1 t2 k xs ys .none) (hx : xs[k]? = none)
  (q : ∀ g, (∀ c o, c ≠ z → c ≠ TO → c ≠ i1 → c ≠ i2 → s.heap.get? c = some o → g.get? c = some o) → Q none { s with heap := g }) : wpAny (model prog w) A (pyNext (.ref z)) Q E s := by
 have T : s.TypeIs (.ref z) "zip" := ⟨_, Z.z, rfl⟩
 unfold pyNext
 apply wpAny_bind; apply wpAny_attempt
 refine wpAny_callSpecial?_slot (name := "__next__") T F.slot_zip_next ?_
 refine wpAny_call_entry F.slot_zip_next T F.entry_zip_next ?_ (F.args_zip_next_1 _)
 refine Z.last hh D hx fun g e hk he => ?_
 obtain ⟨o, ho, hc⟩ := he
 apply wpAny_bind
 exact wpAny_isInstance (T := "StopIteration") (b := true) ⟨o, ho, hc⟩ isSubtype_stop (wpAny_pure (q _ hk))
def ti0 (t : Addr) : Obj := { cls := .type "tuple_iterator", data := .fields #[.ref t, .int 0 0] }
def tp2 (a b : Value) : Obj := { cls := .type "tuple", data := .seq #[a, b] }
def zp0 (TI TO : Addr) : Obj := { cls := .type "zip", data := .fields #[.none, .bool false, .bool false, .ref TI, .ref TO] }
def zpH (h : Heap) (t1 t2 : Addr) : Heap :=
 ((((h.push (ti0 t1)).push (ti0 t2)).push (tp2 (.ref h.objs.size) (.ref (h.push (ti0 t1)).objs.size))).push (tp2 .none .none)).push (zp0 ((h.push (ti0 t1)).push (ti0 t2)).objs.size (((h.push (ti0 t1)).push (ti0 t2)).push (tp2 (.ref h.objs.size) (.ref (h.push (ti0 t1)).objs.size))).objs.size)
theorem zlo (t1 t2 : Addr) (xs ys : Array Value) : Meets (Builtin.«zip.__new__» ⟨[.type "zip", .ref t1, .ref t2], []⟩) (fun _ R s => s.heap.IsTuple t1 xs ∧ s.heap.IsTuple t2 ys ∧
  R (.ok (.ret (.ref ((((s.heap.push (ti0 t1)).push (ti0 t2)).push (tp2 (.ref s.heap.objs.size) (.ref (s.heap.push (ti0 t1)).objs.size))).push (tp2 .none .none)).objs.size))) { s with heap := zpH s.heap t1 t2 }) :=
 .of_wp fun prog w A R s h => by
  obtain ⟨hp, g, d, tk, os⟩ := s; obtain ⟨h1, h2, h⟩ := h
  have sub := sub_zip
  have L1 : Heap.IsTuple (Shared.heap ⟨hp, g, d, tk, os⟩) t1 xs := h1
  have L2 : Heap.IsTuple (Shared.heap ⟨hp.push { cls := .type "tuple_iterator", data := .fields #[.ref t1, .int 0 0] }, g, d, tk, os⟩) t2 ys := h2.at fun o e => Heap.get?_push_of_some _ e
  wp_walk using wpAny_pyIter_tuple L1, wpAny_pyIter_tuple L2
  exact ⟨_, rfl, h⟩
theorem zns {t1 t2 : Addr} {xs ys : Array Value} {Q : Value → Shared → Prop} (h1 : s.heap.IsTuple t1 xs) (h2 : s.heap.IsTuple t2 ys)
  (q : ∀ g, ZAt g (s.heap.objs.size + 4) (s.heap.objs.size + 2) (s.heap.objs.size + 3) s.heap.objs.size (s.heap.objs.size + 1) t1 t2 0 xs ys .none → (∀ c o, s.heap.get? c = some o → g.get? c = some o) → Q (.ref (s.heap.objs.size + 4)) { s with heap := g }) :
  wpAny (model prog w) A (call (.type "zip") [.ref t1, .ref t2]) Q E s := by
 refine callType_new F.called_zip (by decide) (F.typeCall_zip_2 _ _) (F.newCall_zip_2 _ _) (fun obj => F.args_object_init_3 obj _ _) F.entry_zip_new (zlo t1 t2 xs ys) ⟨h1, h2, ?_⟩
 have a1 : (s.heap.push (ti0 t1)).objs.size = s.heap.objs.size + 1 := Heap.size_push ..
 have a2 : ((s.heap.push (ti0 t1)).push (ti0 t2)).objs.size = s.heap.objs.size + 2 := by rw [Heap.size_push, a1]
 have a3 : (((s.heap.push (ti0 t1)).push (ti0 t2)).push (tp2 (.ref s.heap.objs.size) (.ref (s.heap.push (ti0 t1)).objs.size))).objs.size = s.heap.objs.size + 3 := by rw [Heap.size_push, a2]
 have a4 : ((((s.heap.push (ti0 t1)).push (ti0 t2)).push (tp2 (.ref s.heap.objs.size) (.ref (s.heap.push (ti0 t1)).objs.size))).push (tp2 .none .none)).objs.size = s.heap.objs.size + 4 := by rw [Heap.size_push, a3]
 have k : ∀ c o, s.heap.get? c = some o → (zpH s.heap t1 t2).get? c = some o := fun c o e => Heap.get?_push_of_some _ (Heap.get?_push_of_some _ (Heap.get?_push_of_some _ (Heap.get?_push_of_some _ (Heap.get?_push_of_some _ e))))
 have b5 : (zpH s.heap t1 t2).get? (s.heap.objs.size + 4) = some (zp0 (s.heap.objs.size + 2) (s.heap.objs.size + 3)) := by
  unfold zpH; rw [a2, a3]; exact Heap.get?_push_at a4.symm rfl
 have b4 : (zpH s.heap t1 t2).get? (s.heap.objs.size + 3) = some (tp2 .none .none) := Heap.get?_push_of_some _ (Heap.get?_push_at a3.symm rfl)
 have b3 : (zpH s.heap t1 t2).get? (s.heap.objs.size + 2) = some (tp2 (.ref s.heap.objs.size) (.ref (s.heap.objs.size + 1))) := Heap.get?_push_of_some _ (Heap.get?_push_of_some _ (by rw [a1]; exact Heap.get?_push_at a2.symm rfl))
 have b2 : (zpH s.heap t1 t2).get? (s.heap.objs.size + 1) = some (ti0 t2) := Heap.get?_push_of_some _ (Heap.get?_push_of_some _ (Heap.get?_push_of_some _ (Heap.get?_push_at a1.symm rfl)))
 have b1 : (zpH s.heap t1 t2).get? s.heap.objs.size = some (ti0 t1) := Heap.get?_push_of_some _ (Heap.get?_push_of_some _ (Heap.get?_push_of_some _ (Heap.get?_push_of_some _ (Heap.get?_push_size _ rfl))))
 show _ ∧ _
 rw [a4]
 exact ⟨⟨_, b5, rfl⟩, q _ ⟨b5, b3, ⟨_, _, b4⟩, ⟨_, b1, rfl, rfl⟩, ⟨_, b2, rfl, rfl⟩, h1.at fun o e => k _ o e, h2.at fun o e => k _ o e⟩ k⟩
end
section
variable {X : Cx} {pins : List (Addr × Obj)} {σ : St} {H : Hp} {s : Shared} {h' : Heap}
theorem Inv.turnedL {t' : Nat} {ch : List Addr} (I : Inv X pins σ H s) (k : ∀ b o, b ∉ ch → s.heap.get? b = some o → h'.get? b = some o) (f : ∀ b ∈ ch, zlF X pins H b) : Inv X pins σ H { s with heap := h', toks := t' } := by
 have nit : ∀ b u, H b = some u → b ∉ ch := fun b u e z => by rw [(f b z).1] at e; cases e
 refine I.step (g' := s.gens) (d' := s.drawn) (ch := ch) (fun b hb => ?_) (fun b o _ _ hc e _ => k b o hc e) (fun b o _ _ hc e _ => ⟨o.slots, k b o hc e⟩) (fun _ _ _ _ n => n) (fun b o hc e => ⟨o, k b o hc e⟩) (fun _ _ e => e) (fun _ _ _ e => e) (fun b ps e => ⟨#[], by rw [e]; simp⟩) (fun m hm => ?_) (fun b u e => ?_) I.bare
 ·obtain ⟨_, f1, _, f3, f4, f5⟩ := f b hb
  exact ⟨f3, f1, f4, f5⟩
 ·obtain ⟨o, es, ep, ho, r⟩ := hm
  exact ⟨o, es, ep, k _ o (fun z => (f _ z).2.1 rfl) ho, r⟩
 ·refine (I.hok b u e).stay (fun c v hc q => k c v ?_ q) (fun _ q => q) fun _ _ q => q
  rcases hc with z | z
  ·rw [z]; exact nit b u e
  ·exact nit c _ z
end
def Itz (K : PySem.W.Frag) (a b : Addr) : It :=
 ⟨fun i H => ∃ xs ys x y, SqT K H a xs ∧ SqT K H b ys ∧ xs[i]? = some x ∧ ys[i]? = some y,
  fun i H v H' => ∃ T x y, v = .ref T ∧ H T = none ∧ H' = upd H T (.tup [x, y]) ∧ (∀ xs, SqT K H a xs → xs[i]? = some x) ∧ ∀ ys, SqT K H b ys → ys[i]? = some y,
  fun i H => ∃ xs ys, SqT K H a xs ∧ SqT K H b ys ∧ xs.length ≤ i⟩
structure ZT (z TI TO i1 i2 a b : Addr) (k : Nat) (h : Heap) : Prop where
 z : IsZip h z TI TO .none
 ti : IsPair h TI (.ref i1) (.ref i2)
 to : ∃ u v, IsPair h TO u v
 i1 : h.IsTupleIter i1 a k
 i2 : h.IsTupleIter i2 b k
theorem zoS {P : Program} {w : World} {K : PySem.W.Frag} {es : List Expr} {ct : Nat} {ps : Pos} {z TI TO i1 i2 a b : Addr} (D : ZipApart z TI TO i1 i2 a b) : zrI P w K (.Tuple es ct ps) (Itz K a b) [z, TI, TO, i1, i2] z (ZT z TI TO i1 i2 a b) where
 mem := by simp
 obj := fun i h st c hc => by
  simp only [List.mem_cons, List.not_mem_nil, or_false] at hc
  rcases hc with rfl | rfl | rfl | rfl | rfl
  ·exact ⟨_, st.z, fun v q => by cases q⟩
  ·exact ⟨_, st.ti, fun v q => by cases q⟩
  ·obtain ⟨u, v, e⟩ := st.to
   exact ⟨_, e, fun v q => by cases q⟩
  ·obtain ⟨o, e, c, d⟩ := st.i1
   exact ⟨o, e, fun v q => by rw [d] at q; cases q⟩
  ·obtain ⟨o, e, c, d⟩ := st.i2
   exact ⟨o, e, fun v q => by rw [d] at q; cases q⟩
 keep := fun i h h' st k => by
  obtain ⟨u, v, e⟩ := st.to
  exact ⟨k _ (by simp) _ st.z, k _ (by simp) _ st.ti, ⟨u, v, k _ (by simp) _ e⟩, st.i1.at fun o e => k _ (by simp) o e, st.i2.at fun o e => k _ (by simp) o e⟩
 item := by
  intro X hP hw hK hc i pins s σ H E I hf st hg
  subst hP hw hK
  obtain ⟨xs, ys, x, y, h1, h2, hx, hy⟩ := hg
  obtain ⟨its, rv, p, _⟩ := I.tuple h1
  obtain ⟨jts, rw', p', _⟩ := I.tuple h2
  obtain ⟨u, hu, ru⟩ := rv.get hx
  obtain ⟨v, hv, rr⟩ := rw'.get hy
  have Z : ZAt s.heap z TI TO i1 i2 a b i its.toArray jts.toArray .none := ⟨st.z, st.ti, st.to, st.i1, st.i2, p, p'⟩
  refine ztm D Z (x := u) (y := v) (by simpa using hu) (by simpa using hv) fun g Zg pg sg kg => ⟨_, rfl, ?_⟩
  refine wpAny_letOwnedTupleGo_zip Zg.z fun g' zg sb => ?_
  have lz : z < s.heap.objs.size := Heap.lt_size st.z
  have I1 : Inv X pins σ (upd H s.heap.objs.size (.tup [x, y])) { s with heap := s.heap.push (tp2 u v), toks := s.toks } :=
   I.laid (fun _ _ q => Heap.get?_push_of_some _ q) (Nat.le_refl _) ⟨by show 2 ≤ sizeLine; decide, [u, v], .cons ru (.cons rr .nil), ⟨_, Heap.get?_push_size _ rfl, rfl, 0, rfl⟩⟩
  have fr : ∀ c ∈ [z, TI, TO, i1, i2], c ≠ s.heap.objs.size := fun c hc e => by
   simp only [List.mem_cons, List.not_mem_nil, or_false] at hc
   obtain ⟨u, v, eTO⟩ := st.to
   obtain ⟨o1, q1, _⟩ := st.i1
   obtain ⟨o2, q2, _⟩ := st.i2
   rcases hc with rfl | rfl | rfl | rfl | rfl
   ·exact Nat.ne_of_lt lz e
   ·exact Nat.ne_of_lt (Heap.lt_size st.ti) e
   ·exact Nat.ne_of_lt (Heap.lt_size eTO) e
   ·exact Nat.ne_of_lt (Heap.lt_size q1) e
   ·exact Nat.ne_of_lt (Heap.lt_size q2) e
  have I2 : Inv X pins σ (upd H s.heap.objs.size (.tup [x, y])) { s with heap := g', toks := s.toks } := by
   refine Inv.turnedL (s := { s with heap := s.heap.push (tp2 u v), toks := s.toks }) (h' := g') (t' := s.toks) (ch := [z, TI, TO, i1, i2]) I1 (fun c o hc e => ?_) fun c hc => ?_
   ·have cz : c ≠ z := fun q => hc (by simp [q])
    rcases Heap.get?_push_cases e with ⟨rfl, rfl⟩ | e
    ·exact sb.extBut _ _ cz pg
    ·exact sb.extBut _ _ cz (kg c o cz (fun q => hc (by simp [q])) (fun q => hc (by simp [q])) (fun q => hc (by simp [q])) e)
   ·exact ⟨by rw [zax (fr c hc)]; exact (hf c hc).1, (hf c hc).2⟩
  obtain ⟨u', v', eTO⟩ := Zg.to
  refine ⟨.ref s.heap.objs.size, _, I2, rfl, ⟨_, x, y, rfl, I.fresh, rfl, fun zs hz => by rw [I.tuple_inj hz h1]; exact hx, fun zs hz => by rw [I.tuple_inj hz h2]; exact hy⟩, ⟨zg, sb.extBut _ _ D.TIz Zg.ti, ⟨u', v', sb.extBut _ _ D.TOz eTO⟩, Zg.i1.at fun o e => sb.extBut _ _ D.i1z e, Zg.i2.at fun o e => sb.extBut _ _ D.i2z e⟩, fun c hc => by rw [zax (fr c hc)]; exact (hf c hc).1⟩
 done := by
  intro X hP hw hK hc i pins s σ H E I hf st hg
  subst hP hw hK
  obtain ⟨xs, ys, h1, h2, hx⟩ := hg
  obtain ⟨its, rv, p, _⟩ := I.tuple h1
  obtain ⟨jts, rw', p', _⟩ := I.tuple h2
  have Z : ZAt s.heap z TI TO i1 i2 a b i its.toArray jts.toArray .none := ⟨st.z, st.ti, st.to, st.i1, st.i2, p, p'⟩
  have hl := rv.length
  refine zrp (I.ok.hd hc) D Z (by simp; omega) fun g kg => ⟨rfl, I.turnedL (t' := s.toks) (ch := [z, TI, TO, i1, i2]) (fun c o hc e => ?_) hf⟩
  exact kg c o (fun q => hc (by simp [q])) (fun q => hc (by simp [q])) (fun q => hc (by simp [q])) (fun q => hc (by simp [q])) e
 self := fun _ _ _ _ _ st h => wpAny_pyIter_zip st.z h
end L2
end
section
set_option Elab.async false
set_option linter.all false
set_option maxRecDepth 100000
namespace DL
open PySem L2 PyProof.Rows
section
variable {X : Cx} {E : XK}
def zuO (K : PySem.W.Frag) (ta : TA) : TI := fun σ H R => ta σ H fun vs H1 => ∃ a b, vs = [.ref a, .ref b] ∧ (∃ xs, SqT K H1 a xs) ∧ (∃ ys, SqT K H1 b ys) ∧ R (Itz K a b) H1
theorem ztn {a b : Expr} {ta : TA} {p pos ps : Pos} {es : List Expr} {ct : Nat} (hg : Gl X "zip") (hm : X.mg "zip" = none) (ha : PA X [a, b] ta) (hs : starEach [a, b] X.env = [(false, eval a X.env), (false, eval b X.env)] := by rfl) (hs2 : starEach [b] X.env = [(false, eval b X.env)] := by rfl) :
  PI X (.Tuple es ct ps) (.Call (.Name "zip" p) [a, b] [] pos) (zuO X.K ta) := by
 intro pins s σ H R I h
 refine Call_ (zgS I hg hm boot_zip (PyProof.Rows.callWith_type1 (thn (ha pos pins s σ H _ I h) fun us s1 ⟨vs, H1, I1, r1, q1⟩ => ?_) (by rw [hs, hs2]) (by rw [hs2]; rfl)))
 obtain ⟨a, b, e, ⟨xs, hx⟩, ⟨ys, hy⟩, q⟩ := q1
 subst e
 cases r1 with
 | cons r rr =>
  cases rr with
  | cons r' rr =>
   cases rr
   cases r
   cases r'
   obtain ⟨its, _, p1, _⟩ := I1.tuple hx
   obtain ⟨jts, _, p2, _⟩ := I1.tuple hy
   have l1 : a < s1.heap.objs.size := by obtain ⟨o, e, _⟩ := p1; exact Heap.lt_size e
   have l2 : b < s1.heap.objs.size := by obtain ⟨o, e, _⟩ := p2; exact Heap.lt_size e
   refine zns p1 p2 fun g Z kg => ?_
   refine wpAny_pyIter_zip Z.z ?_
   refine ⟨_, [s1.heap.objs.size + 4, s1.heap.objs.size + 2, s1.heap.objs.size + 3, s1.heap.objs.size, s1.heap.objs.size + 1], _, _, H1, rfl, I1.kept (t' := s1.toks) kg, zoS (zipApart_new l1 l2), ⟨Z.z, Z.ti, Z.to, Z.i1, Z.i2⟩, fun c hc => ?_, q⟩
   have hc : s1.heap.objs.size ≤ c := by
    simp only [List.mem_cons, List.not_mem_nil, or_false] at hc
    rcases hc with rfl | rfl | rfl | rfl | rfl
    ·exact Nat.le_add_right _ _
    ·exact Nat.le_add_right _ _
    ·exact Nat.le_add_right _ _
    ·exact Nat.le_refl _
    ·exact Nat.le_add_right _ _
   exact I1.fpOk hc (I1.hok.fresh hc)
def zto (xs ys : List D) : List D := List.zipWith (fun x y => .tup [x, y]) xs ys
def znt : List D → R (List D)
 | [.tup xs, .tup ys] => bif xs.length == ys.length then .ok (zto xs ys) else .bad
 | _ => .bad
theorem zfN.zip {K : PySem.W.Frag} {mg : Str → Option Value} {G : Hp} {a b : Addr} {vs us : List V} {xs ys : List D} (h : SqT K G a vs) (h' : SqT K G b us) (r : Reps K mg G xs vs) (r' : Reps K mg G ys us) (hl : xs.length = ys.length) : zfN K mg (Itz K a b) G (zto xs ys) := by
 have ln : (zto xs ys).length = vs.length := by unfold zto; rw [List.length_zipWith, ← hl, Nat.min_self, r.length]
 refine ⟨fun H e => ⟨vs, us, zaK.sqT e h, zaK.sqT e h', by rw [ln]; exact Nat.le_refl _⟩, fun H i d e hd => ?_⟩
 obtain ⟨x, y, hx, hy, rfl⟩ : ∃ x y, xs[i]? = some x ∧ ys[i]? = some y ∧ d = .tup [x, y] := by
  unfold zto at hd
  rw [List.getElem?_zipWith] at hd
  cases ex : xs[i]? with
  | none => rw [ex] at hd; cases hd
  | some x =>
   cases ey : ys[i]? with
   | none => rw [ex, ey] at hd; cases hd
   | some y => rw [ex, ey] at hd; exact ⟨x, y, rfl, rfl, (Option.some.inj hd).symm⟩
 obtain ⟨v, hv, rv⟩ := r.get hx
 obtain ⟨u, hu, ru⟩ := r'.get hy
 refine ⟨⟨vs, us, v, u, zaK.sqT e h, zaK.sqT e h', hv, hu⟩, ?_⟩
 rintro _ H' ⟨T, v', u', rfl, hn, rfl, q1, q2⟩ G1 e1 e2
 have z1 := q1 _ (zaK.sqT e h)
 have z2 := q2 _ (zaK.sqT e h')
 rw [hv] at z1; cases z1
 rw [hu] at z2; cases z2
 have st := zbA.pub (o := .tup [v, u]) e2 hn
 exact ⟨upd G1 T (.tup [v, u]), st, T, [v, u], rfl, SqT.of zau, .cons (rv.mono (e1.trans st.g)) (.cons (ru.mono (e1.trans st.g)) rfl)⟩
theorem zrq {a b : Expr} {fs : DSt → R (List D)} {p pos ps : Pos} {es : List Expr} {ct : Nat} (hm : X.mg "zip" = none) (ha : DA X E [a, b] fs) (hg : Gl X "zip" := by rfl) (hs : starEach [a, b] X.env = [(false, eval a X.env), (false, eval b X.env)] := by rfl) (hs2 : starEach [b] X.env = [(false, eval b X.env)] := by rfl) :
  DI X E (.Tuple es ct ps) (.Call (.Name "zip" p) [a, b] [] pos) (zcU znt fs) := by
 refine PI.mono' (ztn hg hm ha hs hs2) fun σ H R ⟨G, σd, ok, q⟩ => ?_
 refine ⟨G, σd, ok, q.of_bind.mono (fun ds _ z vs G' H' s r => ?_) fun _ z => z⟩
 match ds, z, r with
 | [.tup xs, .tup ys], z, r =>
  obtain ⟨v, r1, rfl, ⟨a, as, rfl, h1, k1⟩, r2⟩ := r
  obtain ⟨v', r3, rfl, ⟨b, bs, rfl, h2, k2⟩, r4⟩ := r2
  cases r4
  cases hl : (xs.length == ys.length) with
  | false => simp only [znt, hl, cond_false] at z; exact z.elim
  | true =>
   simp only [znt, hl, cond_true] at z
   exact ⟨a, b, rfl, ⟨as, zaK.sqT s.e h1⟩, ⟨bs, zaK.sqT s.e h2⟩, z _ G' H' s (.zip h1 h2 k1 k2 (by simpa using hl))⟩
end
end DL
end
section
set_option Elab.async false
set_option linter.all false
set_option maxRecDepth 100000
namespace L2
open PySem PySem.Spec PyProof.Rows
def zcw : Int → List Int → Int
 | a, [] => a
 | a, b :: r => zcw (min a b) r
theorem ziZ : ∀ (r : List Int) (a : Int), zcw a r ≤ a ∧ (∀ b ∈ r, zcw a r ≤ b) ∧ (zcw a r = a ∨ zcw a r ∈ r)
 | [], a => ⟨Int.le_refl _, by simp, .inl rfl⟩
 | b :: r, a => by
  obtain ⟨h1, h2, h3⟩ := ziZ r (min a b)
  refine ⟨Int.le_trans h1 (Int.min_le_left _ _), fun c hc => ?_, ?_⟩
  ·rcases List.mem_cons.mp hc with rfl | hc
   ·exact Int.le_trans h1 (Int.min_le_right _ _)
   ·exact h2 c hc
  ·show zcw (min a b) r = a ∨ zcw (min a b) r ∈ b :: r
   rcases h3 with h3 | h3
   ·by_cases hab : a ≤ b
    ·left; rw [h3]; omega
    ·right; rw [h3, show min a b = b by omega]; exact List.mem_cons_self
   ·right; exact List.mem_cons_of_mem _ h3
theorem znu {a : Int} {r : List Int} {M : Int} (hm : M ∈ a :: r) (hl : ∀ b ∈ a :: r, M ≤ b) : zcw a r = M := by
 obtain ⟨h1, h2, h3⟩ := ziZ r a
 have u : zcw a r ≤ M := by
  rcases List.mem_cons.mp hm with rfl | hm
  ·exact h1
  ·exact h2 _ hm
 have v : M ≤ zcw a r := by
  rcases h3 with h3 | h3
  ·rw [h3]; exact hl _ List.mem_cons_self
  ·exact hl _ (List.mem_cons_of_mem _ h3)
 omega
variable {X : Cx}
theorem znv (hc : X.calm = true) : zcP X (.builtin "min") (fun xs H Q => ∃ (p : Addr) (a : Int) (r : List Int), xs = [.ref p] ∧ SqL X.K H p ((a :: r).map V.int) ∧ Q (.int (zcw a r)) H) := by
 intro pins s σ H xs us Q I r h
 obtain ⟨p, a, ns, rfl, hq, q⟩ := h
 obtain ⟨u, rfl, e⟩ := zgE r
 cases e
 obtain ⟨its, rv, pl, hz⟩ := I.list hq
 have hi := zlb rv
 obtain ⟨zs, e⟩ := hi.allInts.items
 have hl : s.heap.IsList p (intItems zs) := by rw [← e]; exact pl.isList
 have hn : (zs.toList.map (·.1)) = a :: ns := by
  have a1 := nums_intItems zs
  rw [← e] at a1
  rw [show its.toArray.toList = its from rfl, hi.numsOf] at a1
  exact a1.symm
 have hs : zs.size = ns.length + 1 := by
  have := congrArg List.length hn
  simpa using this
 refine min_intList (I.ok.hd hc) hl (by omega) fun v h' tk hv hk => ?_
 obtain ⟨t, rfl⟩ := intItems_at hv
 refine ⟨.int (zcw a ns), H, I.kept hk, ⟨t, ?_⟩, q⟩
 obtain ⟨b1, b2⟩ := argBest_lt (numAt zs) (zs.size - 1)
 have hle : zcw a ns = numAt zs (argBest (fun i j => decide (numAt zs i < numAt zs j)) (zs.size - 1)) := by
  refine znu ?_ fun b hb => ?_
  ·rw [numAt_eq, hn]; exact getD_mem (by rw [List.length_cons]; omega)
  ·obtain ⟨j, hj, rfl⟩ := mem_getD hb
   rw [← hn, ← numAt_eq]
   exact b2 j (by rw [List.length_cons] at hj; omega)
 rw [hle]
end L2
namespace DL
open PySem PySem.Spec PyProof.Rows L2
variable {K : PySem.W.Frag} {mg : Str → Option Value} {X : Cx} {e : Expr} {es : List Expr} {p pos : Pos}
def zoT : D → R D
 | .lst xs => match zex xs with
  | some (a :: r) => .ok (.int (zcw a r))
  | _ => .bad
 | _ => .bad
abbrev zrr := g1 zoT
theorem zrs : zfL K mg (fun xs H Q => ∃ (p : Addr) (a : Int) (r : List Int), xs = [.ref p] ∧ SqL K H p ((a :: r).map V.int) ∧ Q (.int (zcw a r)) H) zrr := cd1 fun G H d v Q e r q => by
 cases d with
 | lst xs =>
  obtain ⟨a, vs, rfl, h1, h2⟩ := r
  cases hn : zex xs with
  | none => simp only [zoT, hn] at q; exact q.elim
  | some ns =>
   cases ns with
   | nil => simp only [zoT, hn] at q; exact q.elim
   | cons n ns =>
    simp only [zoT, hn] at q
    rw [zfT hn] at h2
    rw [Reps.of_ints h2] at h1
    exact ⟨a, n, ns, rfl, e.seq h1, zaq.now q e rfl⟩
 | _ => exact (show False from q).elim
theorem zrt {E : XK} {fs : DSt → R (List D)} (hc : X.calm = true) (hm : X.mg "min" = none) (ha : DA X E (e :: es) fs) (hg : Gl X "min" := by rfl) (he : starEach (e :: es) X.env = (false, eval e X.env) :: starEach es X.env := by rfl) (hpl : (backTo pos (starEach es X.env)).any (·.1) = false := by rfl) : DE X E (.Call (.Name "min" p) (e :: es) [] pos) (zbB zrr fs) :=
 zg2 (znv hc) zrs hm PyProof.Rows.boot_min ha hg (by decide) (by decide) he hpl
end DL
end
section
set_option Elab.async false
set_option linter.all false
set_option maxRecDepth 100000
namespace SetT
open PySem PySem.SetTable
theorem go_ok2 {t : SetTable} (hd : t.dummies = #[]) (hashAt : Nat → Int) (h : Int) : ∀ (k n : Nat) (p : Probe), p.dummy = none → t.slot (iter t k p).j = .empty → (∀ m, m < k → t.slot (iter t m p).j ≠ .empty) → k < n →
  SetTable.probe.go t hashAt h n p = some (.empty (iter t k p).j none) ∨ ∃ j i m, m < k ∧ SetTable.probe.go t hashAt h n p = some (.candidate j i (iter t (m + 1) p)) ∧ t.slot j = .live i ∧ t.place[i]? = some j := by
 intro k
 induction k with
 | zero =>
  intro n p hp he _ hn
  obtain ⟨n, rfl⟩ : ∃ m, n = m + 1 := ⟨n - 1, by omega⟩
  have he : t.slot p.j = .empty := he
  left
  unfold SetTable.probe.go
  rw [he, hp]; rfl
 | succ k ih =>
  intro n p hp he hb hn
  obtain ⟨n, rfl⟩ : ∃ m, n = m + 1 := ⟨n - 1, by omega⟩
  rcases slot_cases hd p.j with e | ⟨i, e, hi⟩
  ·exact absurd e (hb 0 (by omega))
  ·by_cases hh : (hashAt i == h) = true
   ·refine .inr ⟨p.j, i, 0, by omega, ?_, e, hi⟩
    unfold SetTable.probe.go
    rw [e]
    simp only [hh, if_true]
    rfl
   ·rcases ih n (t.advance p) (by rw [adv_dummy]; exact hp) he (fun m hm => hb (m + 1) (by omega)) (by omega) with q | ⟨j, i', m, hm, q, q2, q3⟩
    ·left
     unfold SetTable.probe.go
     rw [e]
     simp only [hh, if_false]
     exact q
    ·refine .inr ⟨j, i', m + 1, by omega, ?_, q2, q3⟩
     unfold SetTable.probe.go
     rw [e]
     simp only [hh, if_false]
     exact q
theorem go_there {t : SetTable} (hd : t.dummies = #[]) (hashAt : Nat → Int) (h : Int) {i0 : Nat} (h0 : hashAt i0 = h) : ∀ (k n : Nat) (p : Probe), t.slot (iter t k p).j = .live i0 → (∀ m, m < k → t.slot (iter t m p).j ≠ .empty) → k < n →
  ∃ i m, m ≤ k ∧ SetTable.probe.go t hashAt h n p = some (.candidate (iter t m p).j i (iter t (m + 1) p)) ∧ t.slot (iter t m p).j = .live i ∧ t.place[i]? = some (iter t m p).j := by
 intro k
 induction k with
 | zero =>
  intro n p he _ hn
  obtain ⟨n, rfl⟩ : ∃ m, n = m + 1 := ⟨n - 1, by omega⟩
  have he : t.slot p.j = .live i0 := he
  refine ⟨i0, 0, by omega, ?_, he, ?_⟩
  ·unfold SetTable.probe.go
   rw [he]
   simp only [h0, beq_self_eq_true, if_true]
   rfl
  ·rcases slot_cases hd p.j with e | ⟨i, e, hi⟩
   ·rw [e] at he; cases he
   ·rw [e] at he; cases he; exact hi
 | succ k ih =>
  intro n p he hb hn
  obtain ⟨n, rfl⟩ : ∃ m, n = m + 1 := ⟨n - 1, by omega⟩
  rcases slot_cases hd p.j with e | ⟨i, e, hi⟩
  ·exact absurd e (hb 0 (by omega))
  ·by_cases hh : (hashAt i == h) = true
   ·refine ⟨i, 0, by omega, ?_, e, hi⟩
    unfold SetTable.probe.go
    rw [e]
    simp only [hh, if_true]
    rfl
   ·obtain ⟨i', m, hm, q, q2, q3⟩ := ih n (t.advance p) he (fun m hm => hb (m + 1) (by omega)) (by omega)
    refine ⟨i', m + 1, by omega, ?_, q2, q3⟩
    unfold SetTable.probe.go
    rw [e]
    simp only [hh, if_false]
    exact q
theorem znw {xs : Array Nat} (hs : xs.toList.Pairwise (· < ·)) {i k a b : Nat} (h : i < k) (ha : xs[i]? = some a) (hb : xs[k]? = some b) : a < b := by
 rw [← Array.getElem?_toList] at ha hb
 obtain ⟨h1, rfl⟩ := List.getElem?_eq_some_iff.mp ha
 obtain ⟨h2, rfl⟩ := List.getElem?_eq_some_iff.mp hb
 exact List.pairwise_iff_getElem.mp hs i k h1 h2 h
theorem zoU {xs : Array Nat} {j : Nat} (hs : xs.toList.Pairwise (· < ·)) : ∀ (n lo hi : Nat), hi - lo ≤ n → lo ≤ hi → hi ≤ xs.size → (∀ i v, i < lo → xs[i]? = some v → v < j) → (∀ i v, hi ≤ i → xs[i]? = some v → j ≤ v) →
  SetTable.below.go xs j n lo hi ≤ xs.size ∧ (∀ i v, i < SetTable.below.go xs j n lo hi → xs[i]? = some v → v < j) ∧ (∀ i v, SetTable.below.go xs j n lo hi ≤ i → xs[i]? = some v → j ≤ v) := by
 intro n
 induction n with
 | zero =>
  intro lo hi h1 h2 h3 h4 h5
  unfold SetTable.below.go
  exact ⟨by omega, h4, fun i v hi' => h5 i v (by omega)⟩
 | succ n ih =>
  intro lo hi h1 h2 h3 h4 h5
  unfold SetTable.below.go
  by_cases hl : lo < hi
  ·rw [if_pos hl]
   simp only
   have hm : (lo + hi) / 2 < xs.size := by omega
   have hg : xs[(lo + hi) / 2]? = some xs[(lo + hi) / 2] := Array.getElem?_eq_getElem hm
   have hd : xs.getD ((lo + hi) / 2) j = xs[(lo + hi) / 2] := by rw [Array.getD_eq_getD_getElem?, hg]; rfl
   rw [hd]
   by_cases hx : xs[(lo + hi) / 2] < j
   ·rw [if_pos hx]
    refine ih _ _ (by omega) (by omega) h3 (fun i v hi' hv => ?_) h5
    by_cases e : i = (lo + hi) / 2
    ·subst e; rw [hg] at hv; cases hv; exact hx
    ·exact Nat.lt_trans (znw hs (show i < (lo + hi) / 2 by omega) hv hg) hx
   ·rw [if_neg hx]
    refine ih _ _ (by omega) (by omega) (by omega) h4 (fun i v hi' hv => ?_)
    by_cases e : i = (lo + hi) / 2
    ·subst e; rw [hg] at hv; cases hv; omega
    ·have := znw hs (show (lo + hi) / 2 < i by omega) hg hv
     omega
  ·rw [if_neg hl]
   exact ⟨by omega, h4, fun i v hi' => h5 i v (by omega)⟩
theorem below_ok {xs : Array Nat} (j : Nat) (hs : xs.toList.Pairwise (· < ·)) : below xs j ≤ xs.size ∧ (∀ i v, i < below xs j → xs[i]? = some v → v < j) ∧ (∀ i v, below xs j ≤ i → xs[i]? = some v → j ≤ v) :=
 zoU hs xs.size 0 xs.size (by omega) (by omega) (by omega) (fun i v h => absurd h (by omega)) fun i v h hv => by
  have := (Array.getElem?_eq_some_iff.mp hv).1
  omega
theorem slot_live {t : SetTable} (hs : t.place.toList.Pairwise (· < ·)) {i j : Nat} (hp : t.place[i]? = some j) : t.slot j = .live i := by
 obtain ⟨b1, b2, b3⟩ := below_ok j hs
 have e : below t.place j = i := by
  by_cases h1 : i < below t.place j
  ·have := b2 i j h1 hp; omega
  ·by_cases h2 : below t.place j < i
   ·have hlt : below t.place j < t.place.size := by have := (Array.getElem?_eq_some_iff.mp hp).1; omega
    have hg : t.place[below t.place j]? = some t.place[below t.place j] := Array.getElem?_eq_getElem hlt
    have := b3 _ _ (Nat.le_refl _) hg
    have := znw hs h2 hg hp
    omega
   ·omega
 unfold slot
 simp only
 rw [e, hp, if_pos (beq_self_eq_true _)]
theorem put_srt {xs : Array Nat} {j : Nat} (hs : xs.toList.Pairwise (· < ·)) (hj : ∀ i : Nat, xs[i]? ≠ some j) : (insertAt xs (below xs j) j).toList.Pairwise (· < ·) := by
 obtain ⟨b1, b2, b3⟩ := below_ok j hs
 rw [toList_insertAt, List.pairwise_append]
 refine ⟨hs.sublist (List.take_sublist _ _), List.pairwise_cons.mpr ⟨fun x hx => ?_, hs.sublist (List.drop_sublist _ _)⟩, fun x hx y hy => ?_⟩
 ·obtain ⟨i, hi, rfl⟩ := List.getElem_of_mem hx
  have e : xs[below xs j + i]? = some (xs.toList.drop (below xs j))[i] := by
   rw [← Array.getElem?_toList, ← List.getElem?_drop, List.getElem?_eq_getElem hi]
  have := b3 _ _ (by omega) e
  have : (xs.toList.drop (below xs j))[i] ≠ j := fun z => hj _ (by rw [e, z])
  omega
 ·have hx' : x < j := by
   obtain ⟨i, hi, rfl⟩ := List.getElem_of_mem hx
   rw [List.length_take] at hi
   have e : xs[i]? = some (xs.toList.take (below xs j))[i] := by
    rw [← Array.getElem?_toList, List.getElem_take, List.getElem?_eq_getElem]
   exact b2 _ _ (by omega) e
  rcases List.mem_cons.mp hy with rfl | hy
  ·exact hx'
  ·obtain ⟨i, hi, rfl⟩ := List.getElem_of_mem hy
   have e : xs[below xs j + i]? = some (xs.toList.drop (below xs j))[i] := by
    rw [← Array.getElem?_toList, ← List.getElem?_drop, List.getElem?_eq_getElem hi]
   have := b3 _ _ (by omega) e
   omega
theorem zip_put {α β : Type} {as : Array α} {bs : Array β} {p : Nat} {x : α} {y : β} (hl : as.size = bs.size) (hp : p ≤ as.size) {z : α × β} : z ∈ (insertAt as p x).toList.zip (insertAt bs p y).toList ↔ z = (x, y) ∨ z ∈ as.toList.zip bs.toList := by
 rw [toList_insertAt, toList_insertAt, List.zip_append (by rw [List.length_take, List.length_take, Array.length_toList, Array.length_toList, hl]), List.zip_cons_cons, List.mem_append, List.mem_cons]
 have e : as.toList.zip bs.toList = (as.toList.take p).zip (bs.toList.take p) ++ (as.toList.drop p).zip (bs.toList.drop p) := by
  rw [← List.zip_append (by rw [List.length_take, List.length_take, Array.length_toList, Array.length_toList, hl]), List.take_append_drop, List.take_append_drop]
 rw [e, List.mem_append]
 constructor
 ·rintro (h | h | h)
  ·exact .inr (.inl h)
  ·exact .inl h
  ·exact .inr (.inr h)
 ·rintro (h | h | h)
  ·exact .inr (.inl h)
  ·exact .inl h
  ·exact .inr (.inr h)
theorem iter_mask {t t' : SetTable} (h : t'.mask = t.mask) : ∀ (k : Nat) (p : Probe), iter t' k p = iter t k p
 | 0, _ => rfl
 | k + 1, p => by
  show iter t' k (t'.advance p) = iter t k (t.advance p)
  have : t'.advance p = t.advance p := by unfold advance; rw [h]
  rw [this, iter_mask h k]
theorem start_mask {t t' : SetTable} (h : t'.mask = t.mask) (hh : Int) : t'.probeStart hh = t.probeStart hh := by unfold probeStart; rw [h]
theorem first_empty {t : SetTable} (p : Probe) {k : Nat} (h : t.slot (iter t k p).j = .empty) : ∃ k0, k0 ≤ k ∧ t.slot (iter t k0 p).j = .empty ∧ ∀ m, m < k0 → t.slot (iter t m p).j ≠ .empty := by
 induction k using Nat.strongRecOn with
 | _ k ih =>
  by_cases hx : ∃ m, m < k ∧ t.slot (iter t m p).j = .empty
  ·obtain ⟨m, h1, h2⟩ := hx
   obtain ⟨k0, a, b, c⟩ := ih m h1 h2
   exact ⟨k0, by omega, b, c⟩
  ·exact ⟨k, Nat.le_refl _, h, fun m hm e => hx ⟨m, hm, e⟩⟩
theorem relaid_found (t : SetTable) (hashes : Array Int) {n : Nat} (hn : hashes.size = n) (h : n ≤ 32) : ∃ t' order, t.relaid hashes 20 = some (t', order) ∧ t'.mask = 31 ∧ t'.dummies = #[] ∧ t'.place.size = n ∧ order.size = n ∧ (∀ k ∈ order.toList, k < n) ∧ t'.place.toList.Pairwise (· < ·) ∧
  ∀ c, c < n → ∃ (i j m : Nat), order[i]? = some c ∧ t'.place[i]? = some j ∧ m < 10 * turns t'.mask ∧ (iter t' m (t'.probeStart (hashes.getD c 0))).j = j ∧ ∀ m', m' < m → t'.slot (iter t' m' (t'.probeStart (hashes.getD c 0))).j ≠ .empty := by
 obtain ⟨t', order, r1, r2, r3, r4, r5, r6⟩ := zmj t hashes hn h
 refine ⟨t', order, r1, r2, r3, r4, r5, r6, ?_⟩
 have e0 : sizeAbove 20 - 1 = 31 := by decide
 unfold relaid at r1
 rw [e0] at r1
 unfold laid at r1
 cases hl : layClean 31 hashes with
 | none => rw [hl] at r1; cases r1
 | some o =>
  rw [hl] at r1
  have r1 := Option.some.inj r1
  have rt := (congrArg Prod.fst r1).symm
  have ro := (congrArg Prod.snd r1).symm
  simp only at rt ro
  have pl : t'.place = (((List.range 32).filterMap fun j => (o.getD j none).map (j, ·)).map (·.1)).toArray := by rw [rt]
  have srt : t'.place.toList.Pairwise (· < ·) := by
   rw [pl, List.toList_toArray]
   exact zml _ _ List.pairwise_lt_range
  refine ⟨srt, ?_⟩
  unfold layClean at hl
  rw [← Array.foldl_toList] at hl
  obtain ⟨⟨o', k'⟩, hl1, hl2⟩ := Option.map_eq_some_iff.mp hl
  have hl2 : o' = o := hl2
  subst hl2
  have m0 : ∀ P : Nat → Prop, P 31 → P t'.mask := fun P hP => by rw [r2]; exact hP
  obtain ⟨os, L⟩ := zio (t := t') (fun c => hashes.getD c 0) hashes.toList (Array.replicate 32 none) o' 0 k' (by rw [r2]; simp) (fun i hi => by
   rw [Nat.zero_add, Array.getD_eq_getD_getElem?, Array.getElem?_toList]
   rw [Array.length_toList] at hi
   rw [Array.getElem?_eq_getElem hi]; rfl) (fun c hc => absurd hc (by omega)) (by rw [r2]; exact hl1)
  rw [Nat.zero_add, Array.length_toList, hn] at L
  have tk : ∀ j, j ≤ t'.mask → (o'.getD j none).isSome = true → t'.slot j ≠ .empty := fun j hj hs => by
   obtain ⟨b, hb⟩ := Option.isSome_iff_exists.mp hs
   have := zpl (f := fun j => o'.getD j none) (l := List.range 32) (List.mem_range.mpr (by omega)) hb
   obtain ⟨i, hi, ei⟩ := List.getElem_of_mem this
   have : t'.place[i]? = some j := by
    rw [pl, List.getElem?_toArray, List.getElem?_map, List.getElem?_eq_getElem hi, ei]; rfl
   rw [slot_live srt this]
   exact fun z => by cases z
  intro c hc
  obtain ⟨j, j1, j2, m, m1, m2, m3⟩ := L c hc
  have := zpl (f := fun j => o'.getD j none) (l := List.range 32) (List.mem_range.mpr (by omega)) j2
  obtain ⟨i, hi, ei⟩ := List.getElem_of_mem this
  refine ⟨i, j, m, ?_, ?_, m1, m2, fun m' hm => tk _ (zhx _ _) (m3 m' hm)⟩
  ·rw [ro, List.getElem?_toArray, List.getElem?_map, List.getElem?_eq_getElem hi, ei]; rfl
  ·rw [pl, List.getElem?_toArray, List.getElem?_map, List.getElem?_eq_getElem hi, ei]; rfl
end SetT
namespace DL
open PySem L2 PyProof.Rows
section
variable {prog : Program} {w : World} {A : Around} {E : Value → Shared → Prop} {s : Shared}
structure zjw (prog : Program) (w : World) (h : Heap) (a : Addr) (o : Obj) (es : Array (Int × Value)) (ep : Nat) (t : SetTable) (kss : List (List Int)) : Prop where
 get : h.get? a = some o
 ex : o.ExactSet
 dat : o.data = .set es ep t
 dm : t.dummies = #[]
 pl : t.place.size = es.size
 msk : (t.mask = 7 ∧ es.size ≤ 4) ∨ (t.mask = 31 ∧ es.size ≤ 18)
 srt : t.place.toList.Pairwise (· < ·)
 n : es.size = kss.length
 el : ∀ e ∈ es.toList, ∃ c ls, e.2 = .ref c ∧ IsTupleKey (intKind prog w) h ls c ∧ ls ∈ kss
 all : ∀ ls ∈ kss, ∃ c j k, ((tupleKeyHash (intKind prog w) ls, Value.ref c), j) ∈ es.toList.zip t.place.toList ∧ IsTupleKey (intKind prog w) h ls c ∧ k < 10 * SetTable.turns t.mask ∧ (SetT.iter t k (t.probeStart (tupleKeyHash (intKind prog w) ls))).j = j ∧ ∀ m, m < k → t.slot (SetT.iter t m (t.probeStart (tupleKeyHash (intKind prog w) ls))).j ≠ .empty
variable {h : Heap} {a : Addr} {o : Obj} {es : Array (Int × Value)} {ep : Nat} {t : SetTable} {kss : List (List Int)}
theorem zjw.fits (S : zjw prog w h a o es ep t kss) : t.fits es.size = true := by
 unfold SetTable.fits SetTable.fill
 rw [S.pl, S.dm, Bool.and_eq_true, decide_eq_true_eq]
 refine ⟨beq_self_eq_true _, ?_⟩
 show es.size + 0 ≤ t.mask
 rcases S.msk with ⟨h1, h2⟩ | ⟨h1, h2⟩ <;> omega
theorem zjw.odd (S : zjw prog w h a o es ep t kss) : t.gaveWay = false := by
 unfold SetTable.gaveWay
 rcases S.msk with ⟨h1, h2⟩ | ⟨h1, h2⟩ <;> rw [h1] <;> rfl
theorem zoV {ks : List Int} {b : Addr} {Q : SetFound → Shared → Prop} (S : zjw prog w s.heap a o es ep t kss) (hk : IsTupleKey (intKind prog w) s.heap ks b) (hu : A.units < cLine) (hh : Int) {i0 j0 : Nat} {c0 : Addr} (z1 : es[i0]? = some (hh, .ref c0)) (z2 : t.place[i0]? = some j0) (z3 : IsTupleKey (intKind prog w) s.heap ks c0) (q : Q (.there none) s) :
  ∀ (k fuel : Nat) (stand : Option SetTable.Probe), (SetT.iter t k (stand.getD (t.probeStart hh))).j = j0 → (∀ m, m < k → t.slot (SetT.iter t m (stand.getD (t.probeStart hh))).j ≠ .empty) → k < 10 * SetTable.turns t.mask → k < fuel → wpAny (model prog w) A (setSearchFrom a (.ref b) hh true fuel stand) Q E s := by
 intro k
 induction k using Nat.strongRecOn with
 | _ k ih =>
  intro fuel stand he hb hk1 hk2
  obtain ⟨f, rfl⟩ : ∃ f, fuel = f + 1 := ⟨fuel - 1, by omega⟩
  have l0 := SetT.slot_live S.srt z2
  unfold setSearchFrom
  refine wpAny_bind (wpAny_setState_of S.get S.dat S.fits ?_)
  dsimp only
  rw [S.odd, if_neg (by decide)]
  have key2 : ∀ ha X, ha i0 = hh → t.probe ha hh (stand.getD (t.probeStart hh)) = X → ∃ i m, m ≤ k ∧ X = some (.candidate (SetT.iter t m (stand.getD (t.probeStart hh))).j i (SetT.iter t (m + 1) (stand.getD (t.probeStart hh)))) ∧ t.slot (SetT.iter t m (stand.getD (t.probeStart hh))).j = .live i ∧ t.place[i]? = some (SetT.iter t m (stand.getD (t.probeStart hh))).j := fun ha X h0 z => by
   subst z
   exact SetT.go_there S.dm ha hh h0 k (10 * SetTable.turns t.mask) (stand.getD (t.probeStart hh)) (by rw [he]; exact l0) hb hk1
  generalize hX : t.probe _ hh (stand.getD (t.probeStart hh)) = X
  obtain ⟨i, m, hm, rfl, hl, hp⟩ := key2 _ _ (by show (Option.map (fun x => x.fst) es[i0]?).getD 0 = hh; rw [z1]; rfl) hX
  dsimp only
  have hi : i < es.size := by
   have := (Array.getElem?_eq_some_iff.mp hp).1
   rw [S.pl] at this
   exact this
  have pre : ∀ {mm : Sem SetFound}, wpAny (model prog w) A mm Q E s → wpAny (model prog w) A (if (!t.led) = true then do
    let l ← searchCouldBeSeen (Value.ref b) (List.map (fun x => x.snd) (Array.filter (fun x => x.fst == hh) es).toList)
    if l = true then do
     unsupported "set:the-search-would-show-the-table"
     mm
    else mm
   else mm) Q E s := by
   intro mm hmm
   by_cases hled : (!t.led) = true
   ·rw [if_pos hled]
    refine wpAny_bind (znp hk (fun v hv => ?_) ?_)
    ·obtain ⟨x, hx, rfl⟩ := List.mem_map.mp hv
     rw [Array.toList_filter] at hx
     obtain ⟨c, ls, h1, h2, _⟩ := S.el x (List.mem_filter.mp hx).1
     exact ⟨c, ls, h1, h2⟩
    ·rw [if_neg (by decide)]
     exact hmm
   ·rw [if_neg hled]
    exact hmm
  refine pre ?_
  by_cases ei : i = i0
  ·subst ei
   rw [z1]
   dsimp only
   refine wpAny_bind (wpAny_holding (wpAny_eqBool_tuple hu z3 hk ?_))
   rw [decide_eq_true rfl]
   refine wpAny_bind (wpAny_setState_of S.get S.dat S.fits ?_)
   dsimp only
   rw [if_pos (by decide)]
   exact wpAny_pure q
  ·have hmk : m < k := by
    refine Nat.lt_of_le_of_ne hm fun z => ei ?_
    rw [z, he, l0] at hl
    cases hl; rfl
   obtain ⟨c, ls, h1, h2, h3⟩ := S.el es[i] (by rw [← Array.getElem_toList]; exact List.getElem_mem _)
   have eqn : es[i]? = some (es[i].1, Value.ref c) := by rw [Array.getElem?_eq_getElem hi, ← h1]
   rw [eqn]
   dsimp only
   refine wpAny_bind (wpAny_holding (wpAny_eqBool_tuple hu h2 hk ?_))
   by_cases ek : ls = ks
   ·rw [decide_eq_true ek]
    refine wpAny_bind (wpAny_setState_of S.get S.dat S.fits ?_)
    dsimp only
    rw [if_pos (by decide)]
    exact wpAny_pure q
   ·rw [decide_eq_false ek]
    refine wpAny_bind (wpAny_setState_of S.get S.dat S.fits ?_)
    dsimp only
    rw [if_neg (by decide), show t.sameMemory t.moves t.mask = some true from by unfold SetTable.sameMemory; rw [if_pos (beq_self_eq_true _)]]
    dsimp only
    rw [if_pos rfl, hl]
    dsimp only
    rw [eqn]
    dsimp only
    refine wpAny_bind (wpAny_isSame_ref_self ?_)
    refine wpAny_bind (wpAny_pure ?_)
    rw [if_pos rfl]
    dsimp only
    rw [if_neg (by decide)]
    have e3 : ∀ n, SetT.iter t (m + 1 + n) (stand.getD (t.probeStart hh)) = SetT.iter t n (SetT.iter t (m + 1) (stand.getD (t.probeStart hh))) := fun n => SetT.iter_add t (m + 1) n _
    refine ih (k - (m + 1)) (by omega) f (some _) ?_ (fun n hn => ?_) (by omega) (by omega)
    ·show (SetT.iter t (k - (m + 1)) (SetT.iter t (m + 1) (stand.getD (t.probeStart hh)))).j = j0
     rw [← e3, show m + 1 + (k - (m + 1)) = k by omega]; exact he
    ·show t.slot (SetT.iter t n (SetT.iter t (m + 1) (stand.getD (t.probeStart hh)))).j ≠ .empty
     rw [← e3]; exact hb _ (by omega)
theorem zlp {ks : List Int} {b : Addr} {Q : SetFound → Shared → Prop} (S : zjw prog w s.heap a o es ep t kss) (hk : IsTupleKey (intKind prog w) s.heap ks b) (hu : A.units < cLine) (hne : ks ∉ kss) (hh : Int) {j0 : Nat} (q : Q (.free j0 false) s) :
  ∀ (k fuel : Nat) (stand : Option SetTable.Probe), (stand.getD (t.probeStart hh)).dummy = none → (SetT.iter t k (stand.getD (t.probeStart hh))).j = j0 → t.slot j0 = .empty → (∀ m, m < k → t.slot (SetT.iter t m (stand.getD (t.probeStart hh))).j ≠ .empty) → k < 10 * SetTable.turns t.mask → k < fuel → wpAny (model prog w) A (setSearchFrom a (.ref b) hh true fuel stand) Q E s := by
 intro k
 induction k using Nat.strongRecOn with
 | _ k ih =>
  intro fuel stand hd hj he hb hk1 hk2
  obtain ⟨f, rfl⟩ : ∃ f, fuel = f + 1 := ⟨fuel - 1, by omega⟩
  unfold setSearchFrom
  refine wpAny_bind (wpAny_setState_of S.get S.dat S.fits ?_)
  dsimp only
  rw [S.odd, if_neg (by decide)]
  have key2 : ∀ ha X, t.probe ha hh (stand.getD (t.probeStart hh)) = X → X = some (.empty j0 none) ∨ ∃ j i m, m < k ∧ X = some (.candidate j i (SetT.iter t (m + 1) (stand.getD (t.probeStart hh)))) ∧ t.slot j = .live i ∧ t.place[i]? = some j := fun ha X z => by
   subst z
   have := SetT.go_ok2 S.dm ha hh k (10 * SetTable.turns t.mask) (stand.getD (t.probeStart hh)) hd (by rw [hj]; exact he) hb hk1
   rw [hj] at this
   exact this
  generalize hX : t.probe _ hh (stand.getD (t.probeStart hh)) = X
  rcases key2 _ _ hX with rfl | ⟨j, i, m, hm, rfl, hl, hp⟩
  ·exact wpAny_pure q
  ·dsimp only
   have hi : i < es.size := by
    have := (Array.getElem?_eq_some_iff.mp hp).1
    rw [S.pl] at this
    exact this
   have pre : ∀ {mm : Sem SetFound}, wpAny (model prog w) A mm Q E s → wpAny (model prog w) A (if (!t.led) = true then do
     let l ← searchCouldBeSeen (Value.ref b) (List.map (fun x => x.snd) (Array.filter (fun x => x.fst == hh) es).toList)
     if l = true then do
      unsupported "set:the-search-would-show-the-table"
      mm
     else mm
    else mm) Q E s := by
    intro mm hmm
    by_cases hled : (!t.led) = true
    ·rw [if_pos hled]
     refine wpAny_bind (znp hk (fun v hv => ?_) ?_)
     ·obtain ⟨x, hx, rfl⟩ := List.mem_map.mp hv
      rw [Array.toList_filter] at hx
      obtain ⟨c, ls, h1, h2, _⟩ := S.el x (List.mem_filter.mp hx).1
      exact ⟨c, ls, h1, h2⟩
     ·rw [if_neg (by decide)]
      exact hmm
    ·rw [if_neg hled]
     exact hmm
   refine pre ?_
   obtain ⟨c, ls, h1, h2, h3⟩ := S.el es[i] (by rw [← Array.getElem_toList]; exact List.getElem_mem _)
   have eqn : es[i]? = some (es[i].1, Value.ref c) := by rw [Array.getElem?_eq_getElem hi, ← h1]
   rw [eqn]
   dsimp only
   refine wpAny_bind (wpAny_holding (wpAny_eqBool_tuple hu h2 hk ?_))
   rw [decide_eq_false (fun z : ls = ks => hne (z ▸ h3))]
   refine wpAny_bind (wpAny_setState_of S.get S.dat S.fits ?_)
   dsimp only
   rw [if_neg (by decide), show t.sameMemory t.moves t.mask = some true from by unfold SetTable.sameMemory; rw [if_pos (beq_self_eq_true _)]]
   dsimp only
   rw [if_pos rfl, hl]
   dsimp only
   rw [eqn]
   dsimp only
   refine wpAny_bind (wpAny_isSame_ref_self ?_)
   refine wpAny_bind (wpAny_pure ?_)
   rw [if_pos rfl]
   dsimp only
   rw [if_neg (by decide)]
   have e3 : ∀ n, SetT.iter t (m + 1 + n) (stand.getD (t.probeStart hh)) = SetT.iter t n (SetT.iter t (m + 1) (stand.getD (t.probeStart hh))) := fun n => SetT.iter_add t (m + 1) n _
   refine ih (k - (m + 1)) (by omega) f (some _) (zhc _ _ hd) ?_ he (fun n hn => ?_) (by omega) (by omega)
   ·show (SetT.iter t (k - (m + 1)) (SetT.iter t (m + 1) (stand.getD (t.probeStart hh)))).j = j0
    rw [← e3, show m + 1 + (k - (m + 1)) = k by omega]; exact hj
   ·show t.slot (SetT.iter t n (SetT.iter t (m + 1) (stand.getD (t.probeStart hh)))).j ≠ .empty
    rw [← e3]; exact hb _ (by omega)
theorem ztp {ks : List Int} {b : Addr} {Q : Bool → Shared → Prop} (S : zjw prog w s.heap a o es ep t kss) (hk : IsTupleKey (intKind prog w) s.heap ks b) (hu : A.units < cLine) (hks : ks ∈ kss)
  (q : ∀ tk, Q false { s with toks := tk }) : wpAny (model prog w) A (setAdd a (.ref b)) Q E s := by
 unfold setAdd
 refine wpAny_holding (wpAny_bind (wpAny_pyHash_tuple hu hk ?_))
 obtain ⟨c0, j0, k, z1, z2, z3, z4, z5⟩ := S.all ks hks
 generalize tupleKeyHash (intKind prog w) ks = hh at z1 z4 z5
 unfold setAddHashed setAddHashedIn
 refine wpAny_holding (wpAny_bind (wpAny_setState_of S.get S.dat S.fits ?_))
 dsimp only
 rw [show byScan (.ref b) es = false from rfl, if_neg (by decide)]
 unfold setSearch
 obtain ⟨i0, hi, e⟩ := List.getElem_of_mem z1
 have hi1 : i0 < es.toList.length := by rw [List.length_zip] at hi; omega
 have hi2 : i0 < t.place.toList.length := by rw [List.length_zip] at hi; omega
 rw [List.getElem_zip] at e
 have e1 : es[i0]? = some (hh, .ref c0) := by rw [← Array.getElem?_toList, List.getElem?_eq_getElem hi1]; exact congrArg some (congrArg Prod.fst e)
 have e2 : t.place[i0]? = some j0 := by rw [← Array.getElem?_toList, List.getElem?_eq_getElem hi2]; exact congrArg some (congrArg Prod.snd e)
 refine wpAny_bind (zoV (s := { s with toks := s.toks + (ks.length + 1) }) S hk hu hh e1 e2 z2 ?_ k 100000 none z4 z5 z3 (by
  have : 10 * SetTable.turns t.mask ≤ 460 := by unfold SetTable.turns; rcases S.msk with ⟨h1, h2⟩ | ⟨h1, h2⟩ <;> omega
  omega))
 dsimp only
 exact wpAny_pure (q _)
theorem ztq {ks : List Int} {b : Addr} {Q : Bool → Shared → Prop} (S : zjw prog w s.heap a o es ep t kss) (hk : IsTupleKey (intKind prog w) s.heap ks b) (hu : A.units < cLine) (hne : ks ∉ kss) (hsz : kss.length ≤ 17)
  (q : ∀ h' o' es' ep' t' tk, Heap.SameBut a s.heap h' → zjw prog w h' a o' es' ep' t' (ks :: kss) → Q true { s with heap := h', toks := tk }) : wpAny (model prog w) A (setAdd a (.ref b)) Q E s := by
 unfold setAdd
 refine wpAny_holding (wpAny_bind (wpAny_pyHash_tuple hu hk ?_))
 obtain ⟨hh, hhe⟩ : ∃ hh, tupleKeyHash (intKind prog w) ks = hh := ⟨_, rfl⟩
 rw [hhe]
 unfold setAddHashed setAddHashedIn
 refine wpAny_holding (wpAny_bind (wpAny_setState_of S.get S.dat S.fits ?_))
 dsimp only
 rw [show byScan (.ref b) es = false from rfl, if_neg (by decide)]
 unfold setSearch
 obtain ⟨k', k1', k2'⟩ := SetT.meets_empty S.dm (S.msk.elim (fun h => .inl h.1) fun h => .inr h.1) (by rw [S.pl]; rcases S.msk with ⟨h1, h2⟩ | ⟨h1, h2⟩ <;> omega) hh
 obtain ⟨k, kk, k2, k3⟩ := SetT.first_empty (t.probeStart hh) k2'
 have k1 : k < 10 * SetTable.turns t.mask := by omega
 obtain ⟨j, hj⟩ : ∃ j, (SetT.iter t k (t.probeStart hh)).j = j := ⟨_, rfl⟩
 rw [hj] at k2
 refine wpAny_bind (zlp (s := { s with toks := s.toks + (ks.length + 1) }) (j0 := j) S hk hu hne hh ?_ k 100000 none rfl hj k2 k3 k1 (by
  have : 10 * SetTable.turns t.mask ≤ 460 := by unfold SetTable.turns; rcases S.msk with ⟨h1, h2⟩ | ⟨h1, h2⟩ <;> omega
  omega))
 dsimp only
 have p1 : (t.put j).1.mask = t.mask := rfl
 have p2 : (t.put j).1.dummies = #[] := by
  show (if SetTable.has t.dummies j then SetTable.eraseAt t.dummies (SetTable.below t.dummies j) else t.dummies) = #[]
  rw [S.dm, SetT.no_has]
  rfl
 have p3 : (t.put j).1.place.size = es.size + 1 := by
  show (SetTable.insertAt t.place _ j).size = _
  rw [zeA, S.pl]
 have nj : ∀ i : Nat, t.place[i]? ≠ some j := fun i e => by
  have := SetT.slot_live S.srt e
  rw [k2] at this; cases this
 have p4 : (t.put j).1.place.toList.Pairwise (· < ·) := SetT.put_srt S.srt nj
 have bl := (SetT.below_ok j S.srt).1
 have p5 : ∀ z, z ∈ (SetTable.insertAt es (t.put j).snd (hh, Value.ref b)).toList.zip (t.put j).1.place.toList ↔ z = ((hh, Value.ref b), j) ∨ z ∈ es.toList.zip t.place.toList := fun z => SetT.zip_put (as := es) (bs := t.place) (p := SetTable.below t.place j) S.pl.symm (by rw [← S.pl]; exact bl)
 have fin : wpAny (model prog w) A (do
   storeSet a (SetTable.insertAt es (t.put j).snd (hh, Value.ref b)) (t.put j).fst
   if (!false && (t.put j).fst.tooFull) = true then do
    setRelay a (SetTable.grown (es.size + 1))
    pure true
   else pure true) Q E { s with toks := s.toks + (ks.length + 1) } := by
  generalize (t.put j).fst = t1 at p1 p2 p3 p4 p5
  have zz := zeA es (t.put j).snd (hh, Value.ref b)
  have mm := fun y hy => ziX (xs := es) (p := (t.put j).snd) (x := (hh, Value.ref b)) (y := y) hy
  generalize SetTable.insertAt es (t.put j).snd (hh, Value.ref b) = es1 at zz mm p5
  have hn := S.n
  have h18 : es.size ≤ 17 := by omega
  refine wpAny_bind (wpAny_storeSet_of S.get S.dat ?_ (Nat.le_trans (show es1.size ≤ 1000 by omega) (by decide)))
  have g1 := ziW (es' := es1) (t' := t1) S.get S.dat
  have sb1 : Heap.SameBut a s.heap (s.heap.update a (Obj.putSet es1 t1)) := Heap.SameBut.update _ a _
  generalize s.heap.update a (Obj.putSet es1 t1) = h1 at g1 sb1
  have el1 : ∀ e ∈ es1.toList, ∃ c ls, e.2 = .ref c ∧ IsTupleKey (intKind prog w) h1 ls c ∧ ls ∈ ks :: kss := by
   intro e he
   rcases mm e he with rfl | he
   ·exact ⟨b, ks, rfl, zeo sb1 S.get S.dat hk, List.mem_cons_self⟩
   ·obtain ⟨c, ls, e1, e2, e3⟩ := S.el e he
    exact ⟨c, ls, e1, zeo sb1 S.get S.dat e2, List.mem_cons_of_mem _ e3⟩
  have fill1 : t1.fill = es.size + 1 := by
   unfold SetTable.fill
   rw [p2, p3]; rfl
  have full : t1.tooFull = decide ((es.size + 1) * 5 ≥ t.mask * 3) := by
   unfold SetTable.tooFull
   rw [fill1, p1]
  have taken : ∀ jj, t.slot jj ≠ .empty → t1.slot jj ≠ .empty := fun jj hx => by
   rcases SetT.slot_cases S.dm jj with e | ⟨i, e, hi⟩
   ·exact absurd e hx
   ·have hm : jj ∈ t1.place.toList := by
     have hi1 : i < t.place.toList.length := by have := (Array.getElem?_eq_some_iff.mp hi).1; simpa using this
     have hi2 : i < es.toList.length := by have := S.pl; simp at hi1 ⊢; omega
     have : (es.toList[i], t.place.toList[i]) ∈ es.toList.zip t.place.toList := by
      rw [← List.getElem_zip (h := by rw [List.length_zip]; omega)]; exact List.getElem_mem _
     have := (p5 _).mpr (.inr this)
     have := (List.of_mem_zip this).2
     rw [← Array.getElem?_toList, List.getElem?_eq_getElem hi1] at hi
     rw [Option.some.inj hi] at this
     exact this
    obtain ⟨i', hi', e'⟩ := List.getElem_of_mem hm
    rw [SetT.slot_live p4 (i := i') (j := jj) (by rw [← Array.getElem?_toList, List.getElem?_eq_getElem hi', e'])]
    exact fun z => by cases z
  have zpv : ∀ ls ∈ ks :: kss, ∃ c j k, ((tupleKeyHash (intKind prog w) ls, Value.ref c), j) ∈ es1.toList.zip t1.place.toList ∧ IsTupleKey (intKind prog w) h1 ls c ∧ k < 10 * SetTable.turns t1.mask ∧ (SetT.iter t1 k (t1.probeStart (tupleKeyHash (intKind prog w) ls))).j = j ∧ ∀ m, m < k → t1.slot (SetT.iter t1 m (t1.probeStart (tupleKeyHash (intKind prog w) ls))).j ≠ .empty := by
   intro ls hls
   rcases List.mem_cons.mp hls with rfl | hls
   ·refine ⟨b, j, k, (p5 _).mpr (.inl (by rw [hhe])), zeo sb1 S.get S.dat hk, by rw [p1]; exact k1, ?_, fun m hm => ?_⟩
    ·rw [SetT.iter_mask p1, SetT.start_mask p1, hhe]; exact hj
    ·rw [SetT.iter_mask p1, SetT.start_mask p1, hhe]; exact taken _ (k3 m hm)
   ·obtain ⟨c, j', k', y1, y2, y3, y4, y5⟩ := S.all ls hls
    refine ⟨c, j', k', (p5 _).mpr (.inr y1), zeo sb1 S.get S.dat y2, by rw [p1]; exact y3, ?_, fun m hm => ?_⟩
    ·rw [SetT.iter_mask p1, SetT.start_mask p1]; exact y4
    ·rw [SetT.iter_mask p1, SetT.start_mask p1]; exact taken _ (y5 m hm)
  by_cases hf : (es.size + 1) * 5 ≥ t.mask * 3
  ·have h7 : t.mask = 7 ∧ es.size = 4 := by rcases S.msk with ⟨x1, x2⟩ | ⟨x1, x2⟩ <;> omega
   rw [full, decide_eq_true hf, if_pos (by decide), h7.2]
   have gr : SetTable.grown (4 + 1) = 20 := by decide
   rw [gr]
   unfold setRelay
   refine wpAny_bind (wpAny_bind (wpAny_setState_of g1 rfl ?_ ?_))
   ·unfold SetTable.fits
    rw [fill1, p1, p3, zz, Bool.and_eq_true, decide_eq_true_eq]
    exact ⟨beq_self_eq_true _, by omega⟩
   ·dsimp only
    obtain ⟨t2, order, r1, r2, r3, r4, r5, r6, r7, r8⟩ := SetT.relaid_found t1 (Array.map (fun x => x.fst) es1) (n := 5) (by rw [Array.size_map]; omega) (by decide)
    have some2 : ∀ k ∈ order.toList, (es1[k]?).isSome = true := fun k hk => by
     have := r6 k hk
     rw [Array.getElem?_eq_getElem (by omega)]; rfl
    have z2 : (order.filterMap (es1[·]?)).size = 5 := by
     rw [← Array.length_toList, Array.toList_filterMap, SetT.fm_all _ _ some2, Array.length_toList, r5]
    have i2 : ∀ i : Nat, (order.filterMap (es1[·]?)).toList[i]? = (order.toList[i]?).bind (es1[·]?) := fun i => by
     rw [Array.toList_filterMap]; exact SetT.fm_get _ _ some2 i
    have m2 : ∀ e ∈ (order.filterMap (es1[·]?)).toList, e ∈ es1.toList := by
     intro e he
     rw [Array.toList_filterMap] at he
     obtain ⟨k, _, hk⟩ := List.mem_filterMap.mp he
     rw [← Array.getElem?_toList] at hk
     exact List.mem_of_getElem? hk
    rw [if_neg (by decide), r1]
    refine wpAny_bind (wpAny_of_eq (a := (order.filterMap (es1[·]?), t2)) ?_ ?_)
    ·show (if ((order.filterMap (es1[·]?)).size != es1.size) = true then _ else _) = _
     rw [if_neg (by rw [z2, zz, h7.2]; decide)]
    ·generalize order.filterMap (es1[·]?) = es2 at z2 m2 i2
     refine wpAny_storeSet_of g1 rfl ?_ (Nat.le_trans (show es2.size ≤ 1000 by omega) (by decide))
     have g2 := ziW (es' := es2) (t' := t2) g1 rfl
     have sb2 : Heap.SameBut a h1 (h1.update a (Obj.putSet es2 t2)) := Heap.SameBut.update _ a _
     generalize h1.update a (Obj.putSet es2 t2) = h2 at g2 sb2
     refine wpAny_pure (q h2 _ es2 (ep + 1 + 1) t2 _ (sb1.trans sb2) ⟨g2, S.ex, rfl, r3, by rw [r4, z2], .inr ⟨r2, by omega⟩, r7, by rw [z2, List.length_cons, ← hn, h7.2], fun e he => ?_, fun ls hls => ?_⟩)
     ·obtain ⟨c, ls, e1, e2, e3⟩ := el1 e (m2 e he)
      exact ⟨c, ls, e1, zeo sb2 g1 rfl e2, e3⟩
     ·obtain ⟨c, j1, _, y1, y2, _⟩ := zpv ls hls
      obtain ⟨i0, hi, e⟩ := List.getElem_of_mem y1
      have hi1 : i0 < es1.toList.length := by rw [List.length_zip] at hi; omega
      rw [List.getElem_zip] at e
      have e1 : es1[i0]? = some (tupleKeyHash (intKind prog w) ls, .ref c) := by rw [← Array.getElem?_toList, List.getElem?_eq_getElem hi1]; exact congrArg some (congrArg Prod.fst e)
      have eh : (Array.map (fun x => x.fst) es1).getD i0 0 = tupleKeyHash (intKind prog w) ls := by
       rw [Array.getD_eq_getD_getElem?, Array.getElem?_map, e1]; rfl
      obtain ⟨i, j2, m, o1, o2, o3, o4, o5⟩ := r8 i0 (by rw [Array.length_toList, zz, h7.2] at hi1; omega)
      rw [eh] at o4 o5
      refine ⟨c, j2, m, ?_, zeo sb2 g1 rfl y2, o3, o4, o5⟩
      have f1 : es2.toList[i]? = some (tupleKeyHash (intKind prog w) ls, .ref c) := by
       rw [i2, Array.getElem?_toList, o1]; exact e1
      have f2 : t2.place.toList[i]? = some j2 := by rw [Array.getElem?_toList]; exact o2
      refine List.mem_of_getElem? (i := i) ?_
      rw [List.getElem?_zip_eq_some]
      exact ⟨f1, f2⟩
  ·rw [full, decide_eq_false hf, if_neg (by decide)]
   refine wpAny_pure (q h1 _ es1 (ep + 1) t1 _ sb1 ⟨g1, S.ex, rfl, p2, by rw [p3, zz], ?_, p4, by rw [zz, hn, List.length_cons], el1, zpv⟩)
   rw [p1, zz]
   rcases S.msk with ⟨x1, x2⟩ | ⟨x1, x2⟩
   ·exact .inl ⟨x1, by omega⟩
   ·exact .inr ⟨x1, by omega⟩
 refine wpAny_bind (wpAny_setState_of (s := { s with toks := s.toks + (ks.length + 1) }) S.get S.dat S.fits ?_)
 dsimp only
 by_cases hpl : (t.put j).fst.plain = true
 ·rw [if_pos hpl]
  refine wpAny_bind (zro (s := { s with toks := s.toks + (ks.length + 1) }) hk ?_)
  exact fin
 ·rw [if_neg hpl]
  refine wpAny_bind (wpAny_pure ?_)
  exact fin
end
end DL
namespace DL
open PySem L2 PyProof.Rows
section
variable {prog : Program} {w : World} {A : Around} {h h' : Heap} {it l z : Addr} {items : Array Value}
theorem zjw.move (kp : ∀ b u, b ∉ [it] → h.get? b = some u → h'.get? b = some u) {i : Nat} (hi : h.IsListIter it l i) (hz : z ≠ it) {o : Obj} {es : Array (Int × Value)} {ep : Nat} {t : SetTable} {kss : List (List Int)} (S : zjw prog w h z o es ep t kss) : zjw prog w h' z o es ep t kss :=
 ⟨kp z _ (by simpa using hz) S.get, S.ex, S.dat, S.dm, S.pl, S.msk, S.srt, S.n, fun e he => by
  obtain ⟨c, ls, e1, e2, e3⟩ := S.el e he
  exact ⟨c, ls, e1, zf3 kp hi e2, e3⟩, fun ls hls => by
  obtain ⟨c, j, k, e1, e2, e3⟩ := S.all ls hls
  exact ⟨c, j, k, e1, zf3 kp hi e2, e3⟩⟩
def zhM (kss : List (List Int)) (ks : List Int) : List (List Int) := if ks ∈ kss then kss else ks :: kss
def zfB (keys : Nat → List Int) : Nat → List (List Int)
 | 0 => []
 | i + 1 => zhM (zfB keys i) (keys i)
theorem zru (kss : List (List Int)) (ks : List Int) : kss.length ≤ (zhM kss ks).length := by unfold zhM; split <;> simp
theorem znx (keys : Nat → List Int) : ∀ (n i : Nat), i ≤ n → (zfB keys i).length ≤ (zfB keys n).length
 | 0, i, h => by rw [show i = 0 by omega]; exact Nat.le_refl _
 | n + 1, i, h => by
  by_cases e : i = n + 1
  ·rw [e]; exact Nat.le_refl _
  ·exact Nat.le_trans (znx keys n i (by omega)) (zru _ _)
def ztr (prog : Program) (w : World) (h : Heap) (z : Addr) (keys : Nat → List Int) (i : Nat) : Prop := ∃ o es ep t, zjw prog w h z o es ep t (zfB keys i)
theorem zny {R : Result → Shared → Prop} (hh : A.handled = none) (hl : l ≠ it) (hz1 : z ≠ it) (hz2 : z ≠ l) (hu : A.units + 1 < cLine) (keys : Nat → List Int) (h4 : (zfB keys items.size).length ≤ 18) :
  ∀ (k i : Nat) (s : Shared), items.size - i = k → i ≤ items.size → (s.heap.IsListIter it l i ∧ s.heap.IsList l items) → ztr prog w s.heap z keys i → (∀ j, j < items.size → ∃ b, items[j]? = some (.ref b) ∧ IsTupleKey (intKind prog w) s.heap (keys j) b) →
   (∀ h2 tk, (∀ b u, b ≠ z → b ≠ it → s.heap.get? b = some u → h2.get? b = some u) → ztr prog w h2 z keys items.size → R (.ok (.ret .none)) { s with heap := h2, toks := tk }) →
   codeAny (model prog w) A (.builtin "set.update.loop" ⟨[.ref z, .ref it], []⟩) R s := by
 have W := Walks.list (prog := prog) (w := w) (A := A.in1) (by rw [Around.in1_handled]; exact hh) it l hl items
 intro k
 induction k with
 | zero =>
  intro i s hk hi st ⟨o, es, ep, t, S⟩ ht fin
  obtain rfl : i = items.size := by omega
  refine codeAny_builtin PyProof.Rows.F.entry_set_update_loop ?_
  rw [Around.under_plainId PyProof.Rows.F.plain_set_update_loop _]
  show wpAny _ A.in1 (pyNext (.ref it) >>= _) _ _ _
  refine wpAny_bind (W.done s _ _ st fun h2 tk kp => ?_)
  show wpAny _ A.in1 (ret Value.none) _ _ _
  exact wpAny_pure (fin h2 tk (fun b u _ b2 e => kp b u (by simpa using b2) e) ⟨o, es, ep, t, S.move kp st.1 hz1⟩)
 | succ k ih =>
  intro i s hk hi st ⟨o, es, ep, t, S⟩ ht fin
  have hlt : i < items.size := by omega
  refine codeAny_builtin PyProof.Rows.F.entry_set_update_loop ?_
  rw [Around.under_plainId PyProof.Rows.F.plain_set_update_loop _]
  show wpAny _ A.in1 (pyNext (.ref it) >>= _) _ _ _
  refine wpAny_bind (W.item i s _ _ hlt st fun v h1 tk hv st1 kp => ?_)
  obtain ⟨b, e1, e2⟩ := ht i hlt
  rw [hv] at e1
  cases e1
  have S1 := S.move (prog := prog) (w := w) kp st.1 hz1
  have ht1 : ∀ j, j < items.size → ∃ b, items[j]? = some (.ref b) ∧ IsTupleKey (intKind prog w) h1 (keys j) b := fun j hj => by
   obtain ⟨c, c1, c2⟩ := ht j hj
   exact ⟨c, c1, zf3 kp st.1 c2⟩
  show wpAny _ A.in1 (holding [Value.ref b] (setAdd z (.ref b)) >>= _) _ _ _
  have gz : z ∉ [it, l] := by
   rw [List.mem_cons, List.mem_singleton]
   rintro (q | q)
   ·exact hz1 q
   ·exact hz2 q
  by_cases hin : keys i ∈ zfB keys i
  ·refine wpAny_bind (wpAny_holding (ztp (s := { s with heap := h1, toks := tk }) S1 (zf3 kp st.1 e2) (by rw [Around.in1_units]; exact hu) hin fun tk2 => ?_))
   refine wpAny_pure ⟨plainId_quiet PyProof.Rows.F.plain_set_update_loop _, ih (i + 1) _ (by omega) hlt ?_ ⟨o, es, ep, t, ?_⟩ (fun j hj => ht1 j hj) fun h3 tk3 kp3 S3 => ?_⟩
   ·exact W.frame _ h1 h1 st1 fun b hb u e => e
   ·show zjw prog w _ z o es ep t (zhM (zfB keys i) (keys i))
    unfold zhM
    rw [if_pos hin]
    exact S1
   ·exact fin h3 tk3 (fun b u b1 b2 e => kp3 b u b1 b2 (kp b u (by simpa using b2) e)) S3
  ·have l3 : (zfB keys i).length ≤ 17 := by
    have := znx keys items.size (i + 1) hlt
    have e : (zfB keys (i + 1)).length = (zfB keys i).length + 1 := by
     show (zhM (zfB keys i) (keys i)).length = _
     unfold zhM
     rw [if_neg hin]; rfl
    omega
   refine wpAny_bind (wpAny_holding (ztq (s := { s with heap := h1, toks := tk }) S1 (zf3 kp st.1 e2) (by rw [Around.in1_units]; exact hu) hin l3 fun h2 o2 es2 ep2 t2 tk2 sb S2 => ?_))
   refine wpAny_pure ⟨plainId_quiet PyProof.Rows.F.plain_set_update_loop _, ih (i + 1) _ (by omega) hlt ?_ ⟨o2, es2, ep2, t2, ?_⟩ (fun j hj => ?_) fun h3 tk3 kp3 S3 => ?_⟩
   ·exact W.frame _ h1 h2 st1 fun b hb u e => (sb.2 b fun q => gz (q ▸ hb)).trans e
   ·show zjw prog w _ z o2 es2 ep2 t2 (zhM (zfB keys i) (keys i))
    unfold zhM
    rw [if_neg hin]
    exact S2
   ·obtain ⟨c, c1, c2⟩ := ht1 j hj
    exact ⟨c, c1, zeo sb S1.get S1.dat c2⟩
   ·exact fin h3 tk3 (fun b u b1 b2 e => kp3 b u b1 b2 ((sb.2 b b1).trans (kp b u (by simpa using b2) e))) S3
theorem zoW {led : Bool} {keys : Nat → List Int} (g : h.get? z = some (zdB led)) : ztr prog w h z keys 0 :=
 ⟨_, #[], 0, .fresh 0 0 led, g, ⟨rfl, rfl, rfl⟩, rfl, rfl, rfl, .inl ⟨rfl, by decide⟩, List.Pairwise.nil, rfl, (fun e he => by cases he), (fun ls hls => by cases hls)⟩
set_option maxHeartbeats 3200000 in
theorem znz {E : Value → Shared → Prop} {s : Shared} {Q : Value → Shared → Prop} (hh : A.handled = none) (hl : s.heap.IsList l items) (hu : A.units + 3 < cLine) (keys : Nat → List Int) (h4 : (zfB keys items.size).length ≤ 18)
  (ht : ∀ j, j < items.size → ∃ b, items[j]? = some (.ref b) ∧ IsTupleKey (intKind prog w) s.heap (keys j) b)
  (q : ∀ h2 tk, ztr prog w h2 s.heap.objs.size keys items.size → (∀ b u, s.heap.get? b = some u → h2.get? b = some u) → Q (.ref s.heap.objs.size) { s with heap := h2, toks := tk }) : wpAny (model prog w) A (call (.type "set") [.ref l]) Q E s := by
 obtain ⟨mr1, mr2, mr3⟩ := PySem.F.called_set.mro
 have ma := PySem.F.called_set.made
 have su := PySem.F.called_set.sub
 have no := PySem.F.called_set.notType
 have cc := PySem.F.called_set.canCreate
 have ct := PySem.F.typeCall_set_1 (.ref l)
 refine wpAny_call (codeAny_of_tree ?_)
 show wpAny _ _ (callAny (.type "set") _) _ _ _
 refine wpAny_pure ⟨Code.quiet_builtin _ (by decide +kernel), codeAny_builtin F.entry_type_call ?_⟩
 rw [Around.under_plain (weight_type_call_type "set" [.ref l] []) rfl]
 repeat (any_goals (first | assumption | wp_step))
 refine codeAny_mono (code_set_new_1 (.ref l) (E := E) (Q₁ := fun ob s1 => ∃ led : Bool, ob = .ref s.heap.objs.size ∧ s1 = { s with heap := s.heap.push (zdB led) }) fun led => ⟨led, rfl, rfl⟩) fun r s1 hr => ?_
 cases r with
 | error e => exact hr
 | ok fl =>
  cases fl with
  | ret ob =>
   obtain ⟨led, rfl, rfl⟩ := hr
   have gS : (s.heap.push (zdB led)).get? s.heap.objs.size = some (zdB led) := Heap.get?_push_size _ rfl
   have tS : Shared.TypeIs { s with heap := s.heap.push (zdB led) } (.ref s.heap.objs.size) "set" := ⟨_, gS, rfl⟩
   have il := PySem.F.called_set.init.lookup
   have ib := PySem.F.called_set.init.bind (.ref s.heap.objs.size)
   repeat (any_goals (first | assumption | wp_step))
   refine codeAny_mono (codeAny_call_builtin (R := wants (fun r s2 => r = .none ∧ ∃ h2 tk, s2 = { s with heap := h2, toks := tk } ∧ ztr prog w h2 s.heap.objs.size keys items.size ∧ (∀ b u, s.heap.get? b = some u → h2.get? b = some u)) E) PySem.F.called_set.init.plain PySem.F.entry_set_init (check_set_init_1 tS ?_)) fun r2 s2 hr2 => ?_
   ·obtain ⟨⟨c1, c2, c3, c4⟩, gl, cl, nl, dl⟩ := hl
    simp only at cl dl
    subst cl dl
    have gl1 : (s.heap.push (zdB led)).get? l = some { cls := .type "list", dict := c2, data := .seq items nl, slots := c4 } := Heap.get?_push_of_some _ gl
    have ls := PySem.F.sub_list_set
    have lf := PySem.F.sub_list_frozenset
    have nd : (Value.type "list" == Value.type "dict") = false := by decide
    have il1 : (s.heap.push (zdB led)).IsList l items := ⟨_, gl1, rfl, nl, rfl⟩
    unfold Builtin.«set.__init__» noKeywords Builtin.Frozenset.updateFrom
    generalize hPI : pyIter = PI
    wp_walk
    subst hPI
    refine wpAny_pyIter_list il1 ?_
    refine wpAny_bind (wpAny_runValue ?_)
    have lS : l < s.heap.objs.size := Heap.lt_size gl
    refine zny (A := A.in1.in1) (it := (s.heap.push (zdB led)).objs.size) (l := l) (z := s.heap.objs.size) (items := items) hh ?_ ?_ ?_ hu keys h4 items.size 0 _ (by omega) (Nat.zero_le _) ⟨⟨_, Heap.get?_push_size _ rfl, rfl, rfl⟩, il1.push _⟩ (zoW (led := led) (Heap.get?_push_of_some _ gS)) ?_ ?_
    ·rw [Heap.size_push]; exact Nat.ne_of_lt (Nat.lt_succ_of_lt lS)
    ·rw [Heap.size_push]; exact Nat.ne_of_lt (Nat.lt_succ_self _)
    ·exact Nat.ne_of_gt lS
    ·intro j hj
     obtain ⟨b, b1, b2⟩ := ht j hj
     obtain ⟨ob, its, m, g1, g2, g3, g4⟩ := b2
     exact ⟨b, b1, ob, its, m, Heap.get?_push_of_some _ (Heap.get?_push_of_some _ g1), g2, g3, g4⟩
    ·intro h2 tk kp S2
     show wpAny _ _ _ _ _ _
     refine wpAny_pure ?_
     show wpAny _ _ (ret Value.none) _ _ _
     refine wpAny_pure ⟨rfl, h2, tk, rfl, S2, fun b u e => ?_⟩
     have lb := Heap.lt_size e
     refine kp b u (Nat.ne_of_lt lb) ?_ (Heap.get?_push_of_some _ (Heap.get?_push_of_some _ e))
     rw [Heap.size_push]; exact Nat.ne_of_lt (Nat.lt_succ_of_lt lb)
   ·cases r2 with
    | error e => exact hr2
    | ok fl2 =>
     cases fl2 with
     | ret r =>
      obtain ⟨rfl, h2, tk, rfl, S2, k2⟩ := hr2
      repeat (any_goals (first | assumption | wp_step))
      exact q _ _ S2 k2
     | _ => exact hr2.elim
  | _ => exact hr.elim
end
end DL
namespace DL
open PySem L2 PyProof.Rows
section
variable {X : Cx} {E : XK}
def zf4 (kss : List (List Int)) : List (List Int) := zfB (fun j => kss.getD j []) kss.length
def zuP (K : PySem.W.Frag) : List V → Hp → VK → Prop := fun xs H Q => ∃ (p : Addr) (ys : List V) (kss : List (List Int)), xs = [.ref p] ∧ SqL K H p ys ∧ zcv K H ys kss ∧ (zf4 kss).length ≤ 18 ∧ ∀ a, H a = none → Q (.ref a) (upd H a (.ext (ztH a (zf4 kss).length)))
theorem znA {k : Nat} (hc : X.calm = true) (r : zfi k X.A) : zcP X (.type "set") (zuP X.K) := by
 intro pins s σ H xs us Q I rs h
 obtain ⟨p, ys, kss, rfl, hq, ht, h4, q⟩ := h
 obtain ⟨u, rfl, rx⟩ := zgE rs
 cases rx
 obtain ⟨its, rv, pl, hz⟩ := I.list hq
 have hlen : its.length = kss.length := by rw [← rv.length, ht.length]
 have hsz : its.toArray.size = kss.length := by rw [List.size_toArray, hlen]
 refine znz (I.ok.hd hc) pl.isList (by have := r.un; omega) (fun j => kss.getD j []) (by rw [hsz]; exact h4) (fun j hj => ?_) fun h2 tk S2 kp => ?_
 ·rw [List.size_toArray] at hj
  obtain ⟨b, b1, b2⟩ := znq I ht rv j hj
  exact ⟨b, by rw [List.getElem?_toArray]; exact b1, b2⟩
 ·obtain ⟨o, es, ep, t, S⟩ := S2
  have hn : es.size = (zf4 kss).length := by rw [S.n, hsz]; rfl
  refine ⟨.ref s.heap.objs.size, _, I.laid (t' := tk) (h' := h2) kp (Nat.le_refl _) (show zc6 X.prog X.w _ h2 _ (.ext (ztH s.heap.objs.size (zf4 kss).length)) from ⟨⟨o, es, ep, t, S.get, S.ex, S.dat, S.fits, hn⟩, ⟨o, S.get⟩, ?_⟩), rfl, q _ (I.hok.fresh (Nat.le_refl _))⟩
  rintro h1 h3 ⟨o, es, ep, t, g, r1⟩ kk
  exact ⟨o, es, ep, t, kk o g, r1⟩
def zdC : D → R D
 | .lst ds => match zbI ds with
  | some kss => bif Nat.ble (zf4 kss).length 18 then .ok (.int (zf4 kss).length) else .bad
  | none => .bad
 | _ => .bad
def zhN (f : DSt → R D) : DSt → R D := fun σ => (f σ).bind zdC
theorem zlq {k : Nat} (C : XC X E k) (hm1 : X.mg "len" = none) (hm2 : X.mg "set" = none) {e : Expr} {fe : DSt → R D} {p1 p2 pos pos2 : Pos} (hfe : DE X E e fe) (hg1 : Gl X "len" := by rfl) (hg2 : Gl X "set" := by rfl)
  (he1 : starEach [.Call (.Name "set" p2) [e] [] pos2] X.env = (false, eval (.Call (.Name "set" p2) [e] [] pos2) X.env) :: starEach [] X.env := by rfl) (hpl1 : (backTo pos (starEach [] X.env)).any (·.1) = false := by rfl)
  (he2 : starEach [e] X.env = (false, eval e X.env) :: starEach [] X.env := by rfl) (hpl2 : (backTo pos2 (starEach [] X.env)).any (·.1) = false := by rfl) :
  DE X E (.Call (.Name "len" p1) [.Call (.Name "set" p2) [e] [] pos2] [] pos) (zhN fe) := by
 refine PE.mono' (zjL znr hg1 hm1 PySem.boot_len (zlU (zfE (znA C.calm C.room) hg2 hm2 (by rfl) (zaa hfe zad he2) (by decide) (by decide) he2 hpl2) zph he1) (by decide) (by decide) he1 hpl1) fun σ H Q ⟨G, σd, ok, q⟩ => ?_
 refine ⟨G, σd, ok, (show RW ((zac fe zal) σd) _ _ from ?_)⟩
 unfold zac
 have q2 := q.of_bind
 cases hf : fe σd with
 | bad => rw [hf] at q2; exact q2.elim
 | err x => rw [hf] at q2; exact (show zaR X.K X.mg E G H x from q2)
 | ok d =>
  rw [hf] at q2
  have q3 : RW (zdC d) (zaq X.K X.mg Q G H) (zaR X.K X.mg E G H) := q2
  rintro ws G2 H2 s2 ⟨v, _, e1, r3, r4⟩
  subst e1
  cases r4
  cases d with
  | lst ds =>
   obtain ⟨b, vs, rfl, hb, hv⟩ := r3
   cases hs' : zbI ds with
   | none => simp only [zdC, hs'] at q3; exact q3.elim
   | some kss =>
    cases hC : Nat.ble (zf4 kss).length 18 with
    | false => simp only [zdC, hs', hC, cond_false] at q3; exact q3.elim
    | true =>
     simp only [zdC, hs', hC, cond_true] at q3
     rw [Nat.ble_eq] at hC
     refine ⟨b, vs, kss, rfl, s2.e.seq hb, (ziY hs' hv).mono s2.e, hC, fun a ha => ?_⟩
     have q4 : zaq X.K X.mg Q G H (.int (zf4 kss).length) := q3
     exact ⟨a, (zf4 kss).length, rfl, zau, by omega, q4 _ G2 _ (s2.trans (.hid s2.e ha)) rfl⟩
  | _ => exact (show False from q3).elim
end
end DL
end
section
set_option Elab.async false
set_option linter.all false
set_option maxRecDepth 100000
namespace L2
open PySem PySem.Spec PyProof.Rows
def off (H : Hp) (x : Addr) : Hp := fun b => if b = x then none else H b
end L2
end
section
set_option Elab.async false
set_option linter.all false
set_option maxRecDepth 100000
namespace L2
open PySem PySem.Spec PyProof.Rows
section
variable {X : Cx} {CX : CXT} {k : Nat} {f : Addr} {fd : FuncData} {ps : List Str} {sp : Sp} {dvs : List V} {ds : List Value} {x : Str} {p pos : Pos} {e : Expr} {es : List Expr} {t : TA}
theorem znB (i : Nat) (F : zgT X.prog X.w X.K X.mg X.base CX k f fd ps sp) (hr : zfi k X.A) (hk : PySem.W.keepIn X.K (.ref f) = true) (hb : za8 X.K fd ps ds) (hd : zbt dvs ds) (ha : PA X.nox (e :: es) t)
  (hN : X.N[i]? = some x) (hv : Vis X.env.scope x) (hdb : (x == ("__debug__" : Str)) = false) (hcd : (x == ("__classdict__" : Str)) = false) (he : starEach (e :: es) X.env = (false, eval e X.env) :: starEach es X.env) (hpl : (backTo pos (starEach es X.env)).any (·.1) = false)
  {pins : List (Addr × Obj)} {s : Shared} {σ : St} {H : Hp} {Q : VK} {E : XK} (I : Inv X pins σ H s) (hσ : σ[i]? = some (some (.ref f))) (h : zsz sp dvs t σ H Q E) :
  wpAny (model X.prog X.w) X.A (eval (.Call (.Name x p) (e :: es) [] pos) X.env) (EP X pins σ Q) (XP X CX pins σ E) s := by
 have hp : PE X.nox (.Name x p) (ztI i) := pv i hN hv hdb hcd
 refine wpAny_Call_Name_kw (wpAny_mono (hp pins s σ H (fun v H1 => v = .ref f ∧ H1 = H) (I.wish _) ⟨.ref f, hσ, rfl, rfl⟩) (fun u s0 ⟨v, H0, I0', r0, hv0⟩ => ?_) fun _ _ z => False.elim z)
 obtain ⟨rfl, rfl⟩ := hv0
 cases r0
 have I0 : Inv X pins σ H0 s0 := I0'.unwish
 refine PySem.W.callWith_K (h₀ := X.base) I0.ok.mod.kin hk (wpAny_mono (ha pos pins s0 σ H0 _ (I0.wish _) h) (fun us s1 ⟨vs, H1, I1', r, q⟩ => ?_) fun _ _ z => False.elim z) he hpl
 have I1 : Inv X pins σ H1 s1 := I1'.unwish
 refine ⟨I1.kIn, ?_⟩
 have r2 : zbt (vs ++ dvs) (us ++ ds) := r.append hd
 have hl : (us ++ ds).length = ps.length := by rw [← r2.length]; exact F.len _ _ _ _ q
 refine wpAny_call (codeAny_mono (F.run X.A X.stack s1 H1 ⟨us, []⟩ (us ++ ds) (vs ++ dvs) Q E hr I1.env0 (hb s1 us I1.kIn hl) r2 q) fun r s' hq => ?_)
 cases r with
 | error e => exact ⟨s1, H1, I1, hq⟩
 | ok fl =>
  cases fl with
  | ret u => exact I1.after hq
  | next => exact False.elim hq
  | brk => exact False.elim hq
  | cont => exact False.elim hq
end
end L2
namespace DL
open PySem L2 PyProof.Rows
section
variable {X : Cx} {E : XK} {k : Nat} {x : Str} {m : List D → R D} {p pos cpos : Pos} {e : Expr} {es : List Expr} {fs : DSt → R (List D)}
theorem zoX (F : zav X.prog X.w X.K X.mg X.base k x m) (hg : Gl X x := by rfl) (hd : (x == ("__debug__" : Str)) = false := by decide) : DE X E (.Name x pos) (eC (.cls x)) := by
 obtain ⟨fa, fd, ps, h1, h2, h3, h4⟩ := F.ex
 exact zcg h2 hg hd
def zoY (X : Cx) (k : Nat) (ms : List (Str × (List D → R D))) : Prop := ∀ n m, ms.lookup n = some m → zav X.prog X.w X.K X.mg X.base k n m
theorem zrv : zoY X k [] := fun n m h => by cases h
theorem zfC {n : Str} {m : List D → R D} {ms : List (Str × (List D → R D))} (F : zav X.prog X.w X.K X.mg X.base k n m) (h : zoY X k ms) : zoY X k ((n, m) :: ms) := fun n' m' e => by
 rw [List.lookup_cons] at e
 split at e
 ·rename_i hq
  rw [eq_of_beq hq]
  cases e
  exact F
 ·exact h n' m' e
def zeB (i : Nat) (ms : List (Str × (List D → R D))) (fs : DSt → R (List D)) : DSt → R D := fun σ => match σ[i]? with
 | some (some (.cls n)) => (match ms.lookup n with
  | some m => zmI m fs σ
  | none => .bad)
 | _ => .bad
theorem znC (i : Nat) {ms : List (Str × (List D → R D))} (hr : zfi k X.A) (Fs : zoY X k ms) (ha : DA X.nox E0 (e :: es) fs) (hN : X.N[i]? = some x := by rfl) (hv : Vis X.env.scope x := by first | exact Or.inl rfl | exact Or.inr (Or.inl rfl) | exact Or.inr (Or.inr rfl))
  (hdb : (x == ("__debug__" : Str)) = false := by decide) (hcd : (x == ("__classdict__" : Str)) = false := by decide) (he : starEach (e :: es) X.env = (false, eval e X.env) :: starEach es X.env := by rfl) (hpl : (backTo cpos (starEach es X.env)).any (·.1) = false := by rfl)
  (hs : swapsWith (.Call (.Name x p) (e :: es) [] cpos) none pos.line X.env = pure false := by rfl) : DSX X (.Expr (.Call (.Name x p) (e :: es) [] cpos) pos) (zmv (zeB i ms fs)) := fun G0 pins s σ H Dn E I ⟨G, σd, ok, s0, q⟩ => by
 have q : RW ((zeB i ms fs σd).bind fun _ => R.ok (.nx σd)) (zfn X.K X.mg G0 X.H₀ [] [] Dn G) (zaR X.K X.mg E G H) := q
 cases hi : σd[i]? with
 | none => unfold zeB at q; rw [hi] at q; exact q.elim
 | some od =>
  cases od with
  | none => unfold zeB at q; rw [hi] at q; exact q.elim
  | some d =>
   cases d with
   | cls n =>
    cases hm : ms.lookup n with
    | none => unfold zeB at q; rw [hi] at q; simp only [hm] at q; exact q.elim
    | some m =>
     unfold zeB at q
     rw [hi] at q
     simp only [hm] at q
     obtain ⟨fa, fd, ps, h1, h2, h3, h4⟩ := (Fs n m hm).ex
     obtain ⟨v, hv1, C, rfl, hC⟩ := ok.val i (.cls n) hi
     rw [h2] at hC
     cases hC
     exact wpAny_Expr_any (thn (znB (dvs := []) (ds := []) i h1 hr h3 h4 .nil ha hN hv hdb hcd he hpl I hv1 (zoJ (G0 := G0) (Q := fun _ H1 => Dn.nx σ H1) ok q fun d v G' H' s r z => (show zfn X.K X.mg G0 X.H₀ [] [] Dn G (.nx σd) from z) σ G' H' (.zero (ok.step s)) (s0.trans s) s.g)) fun v s1 ⟨y, H1, I1, r1, q1⟩ => ⟨σ, H1, I1, q1⟩) I.quiet hs
   | _ => unfold zeB at q; rw [hi] at q; exact q.elim
end
end DL
end
section
set_option Elab.async false
set_option linter.all false
set_option maxRecDepth 100000
namespace Mir
open PySem L2 DL
noncomputable def zcW : DSt → R Out := (zb8 (zqV (zbB (g2 zcu) (zac (zah 0) (zac (eC (.ty "int")) zal))) (ztC (zbB (g2 zcu) (zac (zah 0) (zac (eC (.ty "bool")) zal))))))
noncomputable def zbX : List D → R D := fnM 1 1 zcW
theorem zeC (a0 : D) : zbX [a0] = fin (zcW [some a0]) := zbn (b := zcW) rfl rfl
noncomputable def zbU : DSt → R Out := (zb8 (zqV (zbB zq4 (zac (zdk (eLC 1 [0] (zh4 (zah 0)) zaL zcQ (zaE zbX (zac (zah 0) zal)))) zal)) (eOp gNe (zah 0) (zfk (zac (eC (.int 0)) (zac (eC (.int 0)) (zac (eC (.int 0)) zal)))))))
noncomputable def za9 : List D → R D := fnM 1 1 zbU
theorem zdm (a0 : D) : za9 [a0] = fin (zbU [some a0]) := zbn (b := zbU) rfl rfl
noncomputable def zcK : DSt → R Bool := (zaB (eOp gNe (zah 1) (eC (.int 0))))
noncomputable def zd5 : DSt → R Out := (zaZ 1 (zah 2))
noncomputable def zd6 : DSt → R Out := (za0 (zaZ 0 (zah 1)) zd5)
noncomputable def zdD : DSt → R Out := (za0 (zaZ 2 (eOp zeW (zah 0) (zah 1))) zd6)
noncomputable def zf5 : DSt → R Out := (zb8 (zah 0))
noncomputable def zf6 : DSt → R Out := (za0 (zbm zcK zdD) zf5)
noncomputable def zf7 : DSt → R Out := (za0 (zaZ 1 (zbB zpu (zac (zah 1) zal))) zf6)
noncomputable def zeD : DSt → R Out := (za0 (zaZ 0 (zbB zpu (zac (zah 0) zal))) zf7)
noncomputable def zcx : List D → R D := fnM 2 3 zeD
theorem zi0 (a0 : D) (a1 : D) : zcx [a0, a1] = fin (zeD [some a0, some a1, none]) := zbn (b := zeD) rfl rfl
noncomputable def zf8 : DSt → R Out := (zb8 (zfk (zac (eOp zgH (eOp gIx (zah 0) (eC (.int 0))) (zah 1)) (zac (eOp zgH (eOp gIx (zah 0) (eC (.int 1))) (zah 1)) (zac (eOp zgH (eOp gIx (zah 0) (eC (.int 2))) (zah 1)) zal)))))
noncomputable def zf9 : DSt → R Out := (za0 (sIf (zaB (eOp gLt (zah 2) (eC (.int 0)))) (zaZ 1 (eUn zrO (zah 1))) zbu) zf8)
noncomputable def zga : DSt → R Out := (za0 (zaZ 2 (eOp gIx (zdk (eLC 1 [0] (zh4 (zah 0)) zaL (zaB (eOp gNe (zah 0) (eC (.int 0)))) (zah 0))) (eUn zrO (eC (.int 1))))) zf9)
noncomputable def zeE : DSt → R Out := (za0 (zaZ 1 (zaE zcx (zac (zaE zcx (zac (eOp gIx (zah 0) (eC (.int 0))) (zac (eOp gIx (zah 0) (eC (.int 1))) zal))) (zac (eOp gIx (zah 0) (eC (.int 2))) zal)))) zga)
noncomputable def zb9 : List D → R D := fnM 1 3 zeE
theorem zi1 (a0 : D) : zb9 [a0] = fin (zeE [some a0, none, none]) := zbn (b := zeE) rfl rfl
noncomputable def zca : DSt → R Out := (zb8 (eOp gEq (zaE zb9 (zac (zah 0) zal)) (zah 0)))
noncomputable def zcb : DSt → R Out := (za0 (sIf (zfx (zaB (zaE za9 (zac (zah 0) zal)))) (zb8 (eC (.bl false))) zbu) zca)
noncomputable def zbi : DSt → R Out := (za0 (sIf (eOr (zfx (zaB (zbB (g2 zcu) (zac (zah 0) (zac (eC (.ty "tuple")) zal))))) (zaB (eOp gNe (zbB ze3 (zac (zah 0) zal)) (eC (.int 3))))) (zb8 (eC (.bl false))) zbu) zcb)
noncomputable def zam : List D → R D := fnM 1 1 zbi
theorem zba (a0 : D) : zam [a0] = fin (zbi [some a0]) := zbn (b := zbi) rfl rfl
noncomputable def zuQ : DSt → R Out := (zb8 (eOp zc5 (eOp zc5 (eOp zel (eOp gIx (zah 0) (eC (.int 0))) (eOp gIx (zah 1) (eC (.int 0)))) (eOp zel (eOp gIx (zah 0) (eC (.int 1))) (eOp gIx (zah 1) (eC (.int 1))))) (eOp zel (eOp gIx (zah 0) (eC (.int 2))) (eOp gIx (zah 1) (eC (.int 2))))))
noncomputable def zoZ : List D → R D := fnM 2 2 zuQ
noncomputable def znD : DSt → R Out := (zb8 (eOp gEq (zaE zoZ (zac (zah 0) (zac (zah 1) zal))) (eC (.int 0))))
noncomputable def zcc : List D → R D := fnM 2 2 znD
noncomputable def znE : DSt → R Out := (zb8 (zfk (zac (zah 2) (zac (zah 3) (zac (zah 4) zal)))))
noncomputable def znF : DSt → R Out := (za0 (zaZ 4 (eOp gSub (eOp zel (eOp gIx (zah 0) (eC (.int 0))) (eOp gIx (zah 1) (eC (.int 1)))) (eOp zel (eOp gIx (zah 0) (eC (.int 1))) (eOp gIx (zah 1) (eC (.int 0)))))) znE)
noncomputable def znG : DSt → R Out := (za0 (zaZ 3 (eOp gSub (eOp zel (eOp gIx (zah 0) (eC (.int 2))) (eOp gIx (zah 1) (eC (.int 0)))) (eOp zel (eOp gIx (zah 0) (eC (.int 0))) (eOp gIx (zah 1) (eC (.int 2)))))) znF)
noncomputable def zrw : DSt → R Out := (za0 (zaZ 2 (eOp gSub (eOp zel (eOp gIx (zah 0) (eC (.int 1))) (eOp gIx (zah 1) (eC (.int 2)))) (eOp zel (eOp gIx (zah 0) (eC (.int 2))) (eOp gIx (zah 1) (eC (.int 1)))))) znG)
noncomputable def zhO : List D → R D := fnM 2 5 zrw
noncomputable def zeF : DSt → R Out := (zb8 (zaE zb9 (zac (zaE zhO (zac (zah 0) (zac (zah 1) zal))) zal)))
noncomputable def zfq : DSt → R Out := (za0 (sIf (zaB (eOp gEq (zah 0) (zah 1))) zuk zbu) zeF)
noncomputable def zbC : List D → R D := fnM 2 2 zfq
noncomputable def zi2 : DSt → R Out := (zb8 (zaE zbC (zac (zah 0) (zac (zah 1) zal))))
noncomputable def zaI : List D → R D := fnM 2 2 zi2
noncomputable def zhP : DSt → R Out := (zb8 (zbB zq4 (zac (zdk (eLC 1 [0] (zh4 (zah 1)) zaL zcQ (zaE zcc (zac (zah 0) (zac (zah 3) zal))))) zal)))
noncomputable def zhQ : DSt → R Out := (za0 (zaZ 2 (zaE zaI (zac (eOp gIx (zah 0) (eC (.int 0))) (zac (eOp gIx (zah 1) (eC (.int 0))) zal)))) zhP)
noncomputable def zhR : DSt → R Out := (za0 (sIf (zaB (eOp gEq (zbB ze3 (zac (zah 1) zal)) (eC (.int 0)))) (zb8 (eC (.bl true))) zbu) zhQ)
noncomputable def zjx : DSt → R Out := (za0 (zjX [] 1 (zdk (eLC 1 [0] (zh4 (zah 0)) zaL (zaB (eOp gNe (zah 0) (eOp gIx (zah 1) (eC (.int 0))))) (zah 0)))) zhR)
noncomputable def zbY : List D → R D := fnM 1 3 zjx
def zbZ : D := .int 12
noncomputable def zdE : DSt → R Out := (zb8 (eOp gEq (zhN (zah 0)) (zbB ze3 (zac (zah 0) zal))))
noncomputable def zcy : DSt → R Out := (za0 (sIf (zfx (zaB (zbB zq4 (zac (zdk (eLC 1 [0] (zh4 (zah 0)) zaL zcQ (zaE zam (zac (zah 0) zal)))) zal)))) (zb8 (eC (.bl false))) zbu) zdE)
noncomputable def zbb : DSt → R Out := (za0 (sIf (eOr (zfx (zaB (zbB (g2 zcu) (zac (zah 0) (zac (eC (.ty "list")) zal))))) (zfx (zaB (zg1 gLe gLe (eC (.int 1)) (zbB ze3 (zac (zah 0) zal)) (eC zbZ))))) (zb8 (eC (.bl false))) zbu) zcy)
noncomputable def zap : List D → R D := fnM 1 1 zbb
theorem zbD (a0 : D) : zap [a0] = fin (zbb [some a0]) := zbn (b := zbb) rfl rfl
noncomputable def zcd : DSt → R Out := (sIf (zfx (zaB (zaE zap (zac (zah 0) zal)))) (zhG "NoFloor") zbu)
noncomputable def zaJ : List D → R D := fnM 1 1 zcd
theorem zdF (a0 : D) : zaJ [a0] = fin (zcd [some a0]) := zbn (b := zcd) rfl rfl
noncomputable def zgJ : DSt → R Out := (sIf (zfx (zaB (zbB zuB (zac (zdk (eLC 1 [0] (zh4 (zah 4)) zaL zcQ (zaE zcc (zac (eOp gIx (zah 1) (zah 6)) (zac (zah 0) zal))))) zal)))) (zb8 (zah 5)) zbu)
noncomputable def zhS : DSt → R Out := (zb8 (eC .non))
noncomputable def zhT : DSt → R Out := (za0 (zje [] [5] zaL (zcU zqX (zac (eOp zc5 (zah 3) (eC (.int 1))) (zac (zbB ze3 (zac (zah 0) zal)) zal))) zgJ) zhS)
noncomputable def zjy : DSt → R Out := (za0 (zaZ 4 (zdk (zfl (zac (zaE zaI (zac (eOp gIx (zah 0) (zah 1)) (zac (eOp gIx (zah 0) (zah 2)) zal))) (zac (zaE zaI (zac (eOp gIx (zah 0) (zah 2)) (zac (eOp gIx (zah 0) (zah 3)) zal))) (zac (zaE zaI (zac (eOp gIx (zah 0) (zah 1)) (zac (eOp gIx (zah 0) (zah 3)) zal))) zal)))))) zhT)
noncomputable def zdg : List D → R D := fnM 4 6 zjy
noncomputable def zdh : DSt → R Out := (sIf (zaB (eOp zps (zah 5) (eC .non))) (zb8 (zfk (zac (zah 1) (zac (zah 2) (zac (zah 4) (zac (zah 5) zal)))))) zbu)
noncomputable def zdG : DSt → R Out := (za0 (zaZ 5 (zaE zdg (zac (zah 0) (zac (zah 1) (zac (zah 2) (zac (zah 4) zal)))))) zdh)
noncomputable def zdZ : DSt → R Out := (sIf (zfx (zaB (zaE zcc (zac (eOp gIx (zah 0) (zah 4)) (zac (zah 3) zal))))) zdG zbu)
noncomputable def zep : DSt → R Out := (zje [] [4] zaL (zcU zqX (zac (eOp zc5 (zah 2) (eC (.int 1))) (zac (zbB ze3 (zac (zah 0) zal)) zal))) zdZ)
noncomputable def zeY : DSt → R Out := (za0 (zaZ 3 (zaE zaI (zac (eOp gIx (zah 0) (zah 1)) (zac (eOp gIx (zah 0) (zah 2)) zal)))) zep)
noncomputable def zfr : DSt → R Out := (zje [] [2] zaL (zcU zqX (zac (eOp zc5 (zah 1) (eC (.int 1))) (zac (zbB ze3 (zac (zah 0) zal)) zal))) zeY)
noncomputable def zgb : DSt → R Out := (zb8 (eC .non))
noncomputable def zgc : DSt → R Out := (za0 (zje [] [1] zaL (zcU zit (zac (zbB ze3 (zac (zah 0) zal)) zal)) zfr) zgb)
noncomputable def zcj : DSt → R Out := (za0 (zmv (zaE zaJ (zac (zah 0) zal))) zgc)
noncomputable def zaD : List D → R D := fnM 1 6 zcj
theorem zfs (a0 : D) : zaD [a0] = fin (zcj [some a0, none, none, none, none, none]) := zbn (b := zcj) rfl rfl
noncomputable def znH : DSt → R Out := (zb8 (zbB zrr (zac (zdk (eLC 1 [0] (zcU zit (zac (zbB ze3 (zac (zah 0) zal)) zal)) zaL (zaB (zaE zbY (zac (eOp zc5 (eSl (zah 1) zfp (zdA (zah 0))) (eSl (zah 1) (zdA (eOp zc5 (zah 0) (eC (.int 1)))) zfp)) zal))) (zah 0))) zal)))
noncomputable def zeG : List D → R D := fnM 1 1 znH
noncomputable def zgK : DSt → R Out := (zb8 (zfk (zac (eC (.str "fan")) (zac (zaE zeG (zac (zah 0) zal)) zal))))
noncomputable def zgL : DSt → R Out := (za0 (sIf (zaB (zaE zbY (zac (zah 0) zal))) (zb8 (zfk (zac (eC (.str "line")) zal))) zbu) zgK)
noncomputable def zgM : DSt → R Out := (za0 (sIf (zaB (eOp zps (zah 1) (eC .non))) (zb8 (zfk (zac (eC (.str "frame")) (zac (zah 1) zal)))) zbu) zgL)
noncomputable def zcL : DSt → R Out := (za0 (zaZ 1 (zaE zaD (zac (zah 0) zal))) zgM)
noncomputable def za6 : List D → R D := fnM 1 2 zcL
theorem zgd (a0 : D) : za6 [a0] = fin (zcL [some a0, none]) := zbn (b := zcL) rfl rfl
noncomputable def zjz : DSt → R Out := (zrL [1] 1 (zaE zaI (zac (eOp gIx (zah 0) (zah 3)) (zac (eOp gIx (zah 0) (zah 2)) zal))))
noncomputable def zlr : DSt → R Out := (zje [1] [3] zaL (zcU zit (zac (zah 2) zal)) zjz)
noncomputable def znI : DSt → R Out := zuk
noncomputable def znJ : DSt → R Out := (za0 (zje [1] [2] zaL (zcU zit (zac (zbB ze3 (zac (zah 0) zal)) zal)) zlr) znI)
noncomputable def znK : DSt → R Out := (za0 (zq0 [] 1 (zfl zal)) znJ)
noncomputable def zhU : DSt → R Out := (za0 (sIf (zaB (eOp zps (zaE zaD (zac (zah 0) zal)) (eC .non))) (zhG "Endless") zbu) znK)
noncomputable def zdH : List D → R D := fnM 1 4 zhU
theorem zls (a0 : D) : zdH [a0] = fin (zhU [some a0, none, none, none]) := zbn (b := zhU) rfl rfl
noncomputable def zdI : DSt → R Out := (zb8 (eC (.int 0)))
noncomputable def zck : DSt → R Out := (za0 (sIf (zaB (eOp gLt (zah 1) (zbB ze3 (zac (zah 0) zal)))) (zb8 (eOp gIx (zah 0) (zah 1))) zbu) zdI)
noncomputable def zaS : List D → R D := fnM 2 2 zck
theorem zft (a0 : D) (a1 : D) : zaS [a0, a1] = fin (zck [some a0, some a1]) := zbn (b := zck) rfl rfl
noncomputable def zge : DSt → R Out := (zb8 (eOp zeW (eOp zel (zah 2) (zah 2)) (eC (.int 2147483629))))
noncomputable def zgf : DSt → R Out := (za0 (zaZ 2 (eOp zeW (eOp zc5 (eOp zc5 (eOp zel (zah 2) (zah 2)) (eOp zel (eC (.int 7919)) (zah 1))) (eC (.int 5))) (eC (.int 2147483587)))) zge)
noncomputable def zgg : DSt → R Out := (za0 (zaZ 2 (eOp zeW (eOp zel (eOp zc5 (eOp zc5 (eOp zc5 (eOp zeW (zah 0) (eC (.int 2147483647))) (eOp zel (eOp zel (eC (.int 48271)) (zah 1)) (zah 1))) (zah 1)) (eC (.int 1))) (eC (.int 69621))) (eC (.int 2147483629)))) zgf)
noncomputable def zeH : DSt → R Out := (za0 (sIf (zaB (eOp gGe (zah 0) (eOp zuv (eC (.int 10)) (eC (.int 18))))) (zb8 (eOp zeW (eOp zuw (zah 0) (eOp zel (eC (.int 20)) (zah 1))) (eC (.int 1048576)))) zbu) zgg)
noncomputable def zaG : List D → R D := fnM 2 3 zeH
theorem zi3 (a0 : D) (a1 : D) : zaG [a0, a1] = fin (zeH [some a0, some a1, none]) := zbn (b := zeH) rfl rfl
noncomputable def zdJ : DSt → R Bool := (zaB (eOp gNe (zah 3) (eC (.int 0))))
noncomputable def zdK : DSt → R Out := (zq1 [] [1, 3] (zdv 2) (zfk (zac (zah 3) (zac (eOp zeW (zah 1) (zah 3)) zal))))
noncomputable def zd7 : DSt → R Out := (zbm zdJ zdK)
noncomputable def ze5 : DSt → R Out := (za0 (zaZ 3 (zbB zpu (zac (zah 2) zal))) zd7)
noncomputable def zgh : DSt → R Out := (zb8 (zbB ziA (zac (zdk (eLC 1 [0] (zh4 (zah 0)) zaL zcQ (eOp zgH (zah 0) (zah 2)))) zal)))
noncomputable def zgi : DSt → R Out := (za0 (sIf (zaB (eOp gLt (eOp gIx (zah 4) (eUn zrO (eC (.int 1)))) (eC (.int 0)))) (zaZ 1 (eOp gSub (eC (.int 0)) (zah 1))) zbu) zgh)
noncomputable def zgj : DSt → R Out := (za0 (zjX [] 4 (zdk (eLC 1 [0] (zh4 (zah 0)) zaL (zaB (eOp gNe (zah 0) (eC (.int 0)))) (zah 0)))) zgi)
noncomputable def zgk : DSt → R Out := (za0 (zje [] [2] zaL (zh4 (zah 0)) ze5) zgj)
noncomputable def zeI : DSt → R Out := (za0 (zaZ 1 (eC (.int 0))) zgk)
noncomputable def zbh : List D → R D := fnM 1 5 zeI
theorem zi4 (a0 : D) : zbh [a0] = fin (zeI [some a0, none, none, none, none]) := zbn (b := zeI) rfl rfl
noncomputable def zdL : DSt → R Out := (zrL [3] 3 (eOp gIx (zdk (zfl (zac (eOp gSub (eOp zeW (zah 5) (eC (.int 7))) (eC (.int 3))) (zac (eOp gSub (eOp zeW (zah 5) (eC (.int 81))) (eC (.int 40))) (zac (eOp gSub (eOp zeW (zah 5) (eC (.int 1048576))) (eC (.int 524288))) zal))))) (eOp gIx (zdk (zfl (zac (eC (.int 0)) (zac (eC (.int 0)) (zac (eC (.int 1)) (zac (eC (.int 2)) zal)))))) (eOp zeW (zah 2) (eC (.int 4))))))
noncomputable def zbV : DSt → R Out := (za0 (zjX [3] 5 (zaE zaG (zac (zah 0) (zac (eOp zc5 (eOp zc5 (eOp zel (eC (.int 4)) (zah 1)) (eC (.int 1))) (zah 4)) zal)))) zdL)
noncomputable def zdM : DSt → R Out := (zb8 (zaE zbh (zac (zah 3) zal)))
noncomputable def zdN : DSt → R Out := (za0 (sIf (zaB (eOp gEq (zah 3) (zdk (zfl (zac (eC (.int 0)) (zac (eC (.int 0)) (zac (eC (.int 0)) zal))))))) (za0 (zth [3] 3 (eOp zeW (eOp zgH (zah 2) (eC (.int 16))) (eC (.int 3))) (eC (.int 1))) zbu) zbu) zdM)
noncomputable def ze6 : DSt → R Out := (za0 (sIf (zaB (eOp gEq (eOp zeW (eOp zgH (zah 2) (eC (.int 4))) (eC (.int 4))) (eC (.int 0)))) (zth [3] 3 (eC (.int 2)) (eC (.int 0))) zbu) zdN)
noncomputable def ze7 : DSt → R Out := (za0 (zje [3] [4] zaL (zcU zit (zac (eC (.int 3)) zal)) zbV) ze6)
noncomputable def ze8 : DSt → R Out := (za0 (zq0 [] 3 (zfl zal)) ze7)
noncomputable def zdW : DSt → R Out := (za0 (zaZ 2 (zaE zaG (zac (zah 0) (zac (eOp zel (eC (.int 4)) (zah 1)) zal)))) ze8)
noncomputable def zaV : List D → R D := fnM 2 6 zdW
theorem zhV (a0 : D) (a1 : D) : zaV [a0, a1] = fin (zdW [some a0, some a1, none, none, none, none]) := zbn (b := zdW) rfl rfl
noncomputable def zd8 : DSt → R Out := (zb8 (zaE zbh (zac (zah 4) zal)))
noncomputable def zd9 : DSt → R Out := (za0 (sIf (zaB (eOp gEq (zah 4) (zdk (zfl (zac (eC (.int 0)) (zac (eC (.int 0)) (zac (eC (.int 0)) zal))))))) (zb8 (zah 0)) zbu) zd8)
noncomputable def zcM : DSt → R Out := (za0 (zjX [] 4 (zdk (eLC 2 [0, 1] (zcU znt (zac (zah 0) (zac (zah 1) zal))) (zdv 2) zcQ (eOp zc5 (eOp zel (zah 4) (zah 0)) (eOp zel (zah 5) (zah 1)))))) zd9)
noncomputable def zbJ : List D → R D := fnM 4 5 zcM
theorem zgl (a0 : D) (a1 : D) (a2 : D) (a3 : D) : zbJ [a0, a1, a2, a3] = fin (zcM [some a0, some a1, some a2, some a3, none]) := zbn (b := zcM) rfl rfl
noncomputable def zcf : DSt → R Out := (sIf (zaB (eOp zlI (zah 8) (zah 6))) (zrL [6] 6 (zah 8)) zbu)
noncomputable def zdn : DSt → R Out := (za0 (sIf (eOr (ztB (zaB (eOp gLt (zah 3) (eC (.int 2)))) (zaB (eOp gNe (zah 7) (eOp zel (zah 4) (zah 3))))) (ztB (zaB (eOp gEq (zah 3) (eC (.int 2)))) (zaB (eOp gEq (eOp zeW (zah 7) (eC (.int 2))) (eC (.int 0)))))) (zjX [6] 8 (zaE zbJ (zac (eOp gIx (zah 5) (eC (.int 0))) (zac (eOp gIx (zah 5) (eC (.int 1))) (zac (eOp gSub (eOp zeW (zaE zaG (zac (zah 1) (zac (eOp zc5 (eC (.int 3)) (eOp zel (eC (.int 2)) (zah 7))) zal))) (eC (.int 7))) (eC (.int 3))) (zac (eOp gSub (eOp zeW (zaE zaG (zac (zah 1) (zac (eOp zc5 (eC (.int 4)) (eOp zel (eC (.int 2)) (zah 7))) zal))) (eC (.int 7))) (eC (.int 3))) zal)))))) zbu) zcf)
noncomputable def zbj : DSt → R Out := (za0 (zjX [6] 8 (eOp gIx (zah 5) (zah 7))) zdn)
noncomputable def zeJ : DSt → R Out := (zb8 (zah 6))
noncomputable def zeK : DSt → R Out := (za0 (zje [6] [7] zaL (zcU zit (zac (zah 2) zal)) zbj) zeJ)
noncomputable def zeL : DSt → R Out := (za0 (zq0 [] 6 (zfl zal)) zeK)
noncomputable def zeM : DSt → R Out := (za0 (zjX [] 5 (zdk (eLC 1 [0] (zcU zit (zac (eC (.int 12)) zal)) zaL zcQ (zaE zaV (zac (zah 1) (zac (zah 0) zal)))))) zeL)
noncomputable def zeN : DSt → R Out := (za0 (zaZ 4 (eOp zeW (zaE zaG (zac (zah 1) (zac (eC (.int 2)) zal))) (zah 2))) zeM)
noncomputable def zeO : DSt → R Out := (za0 (zaZ 3 (eOp zeW (zaE zaG (zac (zah 1) (zac (eC (.int 1)) zal))) (eC (.int 4)))) zeN)
noncomputable def zdi : DSt → R Out := (za0 (zaZ 2 (eOp zc5 (eC (.int 1)) (eOp zeW (zaE zaG (zac (zah 1) (zac (eC (.int 0)) zal))) (eC (.int 12))))) zeO)
noncomputable def zb0 : List D → R D := fnM 2 9 zdi
theorem zgN (a0 : D) (a1 : D) : zb0 [a0, a1] = fin (zdi [some a0, some a1, none, none, none, none, none, none, none]) := zbn (b := zdi) rfl rfl
noncomputable def zb1 : DSt → R Out := (zb8 (zqV (zbB (g2 zcu) (zac (zah 0) (zac (eC (.ty "int")) zal))) (ztC (zbB (g2 zcu) (zac (zah 0) (zac (eC (.ty "bool")) zal))))))
noncomputable def zaX : List D → R D := fnM 1 1 zb1
theorem zcR (a0 : D) : zaX [a0] = fin (zb1 [some a0]) := zbn (b := zb1) rfl rfl
noncomputable def ze9 : DSt → R Out := (zb8 (zqV (zbB (g2 zcu) (zac (zah 0) (zac (eC (.ty "ValueError")) zal))) (eOp gEq (zah 2) (zdk (eLC 1 [0] (zcU zit (zac (eC (.int 15)) zal)) zaL zcQ (eOp gEq (zah 0) (zah 2)))))))
noncomputable def zfa : DSt → R Out := (za0 (zaZ 2 (eOp zc5 (zah 2) (zdk (zfl (zac (zbB (g2 zcu) (zac (zah 0) (zac (eC (.cls "NoBow")) zal))) (zac (zbB (g2 zcu) (zac (zah 0) (zac (eC (.cls "NoRow")) zal))) zal)))))) ze9)
noncomputable def zfb : DSt → R Out := (za0 (zaZ 2 (eOp zc5 (zah 2) (zdk (zfl (zac (zbB (g2 zcu) (zac (zah 0) (zac (eC (.cls "NoValue")) zal))) (zac (zbB (g2 zcu) (zac (zah 0) (zac (eC (.cls "Unlike")) zal))) (zac (zbB (g2 zcu) (zac (zah 0) (zac (eC (.cls "NoRatio")) zal))) zal))))))) zfa)
noncomputable def zfc : DSt → R Out := (za0 (zaZ 2 (eOp zc5 (zah 2) (zdk (zfl (zac (zbB (g2 zcu) (zac (zah 0) (zac (eC (.cls "TooMany")) zal))) (zac (zbB (g2 zcu) (zac (zah 0) (zac (eC (.cls "NoChange")) zal))) (zac (zbB (g2 zcu) (zac (zah 0) (zac (eC (.cls "NoFrame")) zal))) zal))))))) zfb)
noncomputable def zfd : DSt → R Out := (za0 (zrL [2] 2 (zbB (g2 zcu) (zac (zah 0) (zac (eC (.cls "NoName")) zal)))) zfc)
noncomputable def zfe : DSt → R Out := (za0 (zq0 [] 2 (eCat (zah 2) (zdk (zfl (zac (zbB (g2 zcu) (zac (zah 0) (zac (eC (.cls "Endless")) zal))) (zac (zbB (g2 zcu) (zac (zah 0) (zac (eC (.cls "NoDeed")) zal))) (zac (zbB (g2 zcu) (zac (zah 0) (zac (eC (.cls "NoText")) zal))) zal))))))) zfd)
noncomputable def zdX : DSt → R Out := (za0 (zaZ 2 (zdk (zfl (zac (zbB (g2 zcu) (zac (zah 0) (zac (eC (.cls "NoPlace")) zal))) (zac (zbB (g2 zcu) (zac (zah 0) (zac (eC (.cls "Same")) zal))) (zac (zbB (g2 zcu) (zac (zah 0) (zac (eC (.cls "NoFloor")) zal))) zal)))))) zfe)
noncomputable def zcl : List D → R D := fnM 2 3 zdX
theorem zhW (a0 : D) (a1 : D) : zcl [a0, a1] = fin (zdX [some a0, some a1, none]) := zbn (b := zdX) rfl rfl
noncomputable def zcz : DSt → R Out := (zb8 (eOp gEq (zaE zbh (zac (zah 0) zal)) (zah 0)))
noncomputable def zbc : DSt → R Out := (za0 (sIf (eOr (zaB (eOp gNe (zdk (eLC 1 [0] (zh4 (zah 0)) zaL (zfx (zaB (zaE zaX (zac (zah 0) zal)))) (zah 0))) (zdk (zfl zal)))) (zaB (eOp gEq (zah 0) (zfk (zac (eC (.int 0)) (zac (eC (.int 0)) (zac (eC (.int 0)) zal))))))) (zb8 (eC (.bl false))) zbu) zcz)
noncomputable def zaN : DSt → R Out := (za0 (sIf (eOr (zfx (zaB (zbB (g2 zcu) (zac (zah 0) (zac (eC (.ty "tuple")) zal))))) (zaB (eOp gNe (zbB ze3 (zac (zah 0) zal)) (eC (.int 3))))) (zb8 (eC (.bl false))) zbu) zbc)
noncomputable def zaA : List D → R D := fnM 1 1 zaN
theorem za2 (a0 : D) : zaA [a0] = fin (zaN [some a0]) := zbn (b := zaN) rfl rfl
noncomputable def zaH : DSt → R Out := (sIf (eOr (zfx (zaB (zaE zaA (zac (eOp gIx (zah 0) (zah 1)) zal)))) (zaB (eOp gIn (eOp gIx (zah 0) (zah 1)) (eSl (zah 0) zfp (zdA (zah 1)))))) (zb8 (eC (.bl false))) zbu)
noncomputable def zcS : DSt → R Out := (zb8 (eC (.bl true)))
noncomputable def zea : DSt → R Out := (za0 (zje [] [1] zaL (zcU zit (zac (zbB ze3 (zac (zah 0) zal)) zal)) zaH) zcS)
noncomputable def zbK : DSt → R Out := (za0 (sIf (eOr (zfx (zaB (zbB (g2 zcu) (zac (zah 0) (zac (eC (.ty "list")) zal))))) (zfx (zaB (zg1 gLe gLe (eC (.int 1)) (zbB ze3 (zac (zah 0) zal)) (eC (.int 12)))))) (zb8 (eC (.bl false))) zbu) zea)
noncomputable def zaU : List D → R D := fnM 1 2 zbK
theorem zcA (a0 : D) : zaU [a0] = fin (zbK [some a0, none]) := zbn (b := zbK) rfl rfl
noncomputable def zeb : DSt → R Out := (zb8 (eOp gIx (zah 5) (eOp zeW (zaE zaG (zac (zah 1) (zac (eC (.int 2)) zal))) (eC (.int 13)))))
noncomputable def zec : DSt → R Out := (za0 (zaZ 5 (eOp zc5 (zah 5) (zdk (zfl (zac (eC .non) (zac (zfk (zac (zah 2) (zac (zah 3) (zac (zah 4) (zac (eC (.int 1)) zal))))) (zac (zfk (zac (eC (.bl true)) (zac (eC (.int 0)) (zac (eC (.int 1)) zal)))) (zac (zfk (zac (eC (.str "1")) (zac (eC (.int 0)) (zac (eC (.int 1)) zal)))) (zac (zfk (zac (eC (.int 0)) (zac (eC (.int 1)) (zac (eC (.bl false)) zal)))) (zac (zaE zaV (zac (zah 1) (zac (eC (.int 5)) zal))) zal)))))))))) zeb)
noncomputable def zed : DSt → R Out := (za0 (zaZ 5 (zdk (zfl (zac (zfk (zac (zah 2) (zac (zah 3) (zac (zah 4) zal)))) (zac (zaE zaV (zac (zah 1) (zac (eC (.int 4)) zal))) (zac (zfk (zac (eOp zel (eC (.int 2)) (zah 2)) (zac (eOp zel (eC (.int 2)) (zah 3)) (zac (eOp zel (eC (.int 2)) (zah 4)) zal)))) (zac (zfk (zac (eOp gSub (eC (.int 0)) (zah 2)) (zac (eOp gSub (eC (.int 0)) (zah 3)) (zac (eOp gSub (eC (.int 0)) (zah 4)) zal)))) (zac (zfk (zac (eC (.int 0)) (zac (eC (.int 0)) (zac (eC (.int 0)) zal)))) (zac (zdk (zfl (zac (zah 2) (zac (zah 3) (zac (zah 4) zal))))) (zac (zfk (zac (zah 2) (zac (zah 3) zal))) zal)))))))))) zec)
noncomputable def zcN : DSt → R Out := (za0 (zq1 [] [2, 3, 4] (zdv 3) (eOp gIx (zah 0) (eOp zeW (zaE zaG (zac (zah 1) (zac (eC (.int 1)) zal))) (zbB ze3 (zac (zah 0) zal))))) zed)
noncomputable def zbL : List D → R D := fnM 2 6 zcN
theorem zgm (a0 : D) (a1 : D) : zbL [a0, a1] = fin (zcN [some a0, some a1, none, none, none, none]) := zbn (b := zcN) rfl rfl
noncomputable def zcB : DSt → R Out := (zb8 (zqV (eOp zps (zah 2) (eC .non)) (zaE zcl (zac (zah 2) (zac (eC (.int 2)) zal)))))
noncomputable def zcC : DSt → R Out := (za0 (ztE 3 "ChalkError" (zmv (zeB 0 [("look_at", zaJ), ("frame_of", zaD), ("kind_of", za6), ("comes", zdH)] (zac (zah 1) zal))) (zaZ 2 (zah 3))) zcB)
noncomputable def zbv : DSt → R Out := (za0 (zaZ 2 (eC .non)) zcC)
noncomputable def zaw : List D → R D := fnM 2 4 zbv
theorem zd0 (a0 : D) (a1 : D) : zaw [a0, a1] = fin (zbv [some a0, some a1, none, none]) := zbn (b := zbv) rfl rfl
noncomputable def zcX : DSt → R Out := (sIf (zfx (zaB (zaE zaw (zac (zah 3) (zac (zah 0) zal))))) (zb8 (eC (.bl false))) zbu)
noncomputable def zdo : DSt → R Out := (zb8 (eC (.bl true)))
noncomputable def zdp : DSt → R Out := (za0 (zje [] [3] zaL (zh4 (zdk (zfl (zac (eC (.cls "look_at")) (zac (eC (.cls "frame_of")) (zac (eC (.cls "kind_of")) (zac (eC (.cls "comes")) zal))))))) zcX) zdo)
noncomputable def zdq : DSt → R Out := (za0 (sIf (zaB (zah 1)) (zb8 (eOp gIs (zaE zaJ (zac (zah 0) zal)) (eC .non))) zbu) zdp)
noncomputable def zdr : DSt → R Out := (za0 (sIf (eOr (zfx (zaB (zbB (g2 zcu) (zac (zah 2) (zac (eC (.ty "bool")) zal))))) (zaB (eOp gNe (zah 2) (zah 1)))) (zb8 (eC (.bl false))) zbu) zdq)
noncomputable def zds : DSt → R Out := (za0 (zaZ 2 (zaE zap (zac (zah 0) zal))) zdr)
noncomputable def zb5 : DSt → R Out := (za0 (zaZ 1 (zaE zaU (zac (zah 0) zal))) zds)
noncomputable def zao : List D → R D := fnM 1 4 zb5
theorem zeZ (a0 : D) : zao [a0] = fin (zb5 [some a0, none, none, none]) := zbn (b := zb5) rfl rfl
noncomputable def zcY : DSt → R Out := (sIf (eOr (zfx (zaB (zaE zao (zac (zah 6) zal)))) (zaB (eOp gNe (zah 6) (zah 5)))) (zb8 (eC (.bl false))) zbu)
noncomputable def zcZ : DSt → R Out := (za0 (zaZ 6 (zdk (zoF zoG (zac (zah 5) zal)))) zcY)
noncomputable def zcD : DSt → R Out := (za0 (zaZ 5 (eOp zc5 (eOp zc5 (eSl (zah 1) zfp (zdA (zah 3))) (zdk (zfl (zac (zaE zbL (zac (zah 1) (zac (zah 2) zal))) zal)))) (eSl (zah 1) (zdA (eOp zc5 (zah 3) (zah 4))) zfp))) zcZ)
noncomputable def zee : DSt → R Out := (zje [] [4] zaL (zcU zit (zac (eC (.int 2)) zal)) zcD)
noncomputable def zbM : DSt → R Out := (za0 (zaZ 3 (eOp zeW (zaE zaG (zac (zah 2) (zac (eC (.int 0)) zal))) (eOp zc5 (zbB ze3 (zac (zah 1) zal)) (eC (.int 1))))) zee)
noncomputable def zdO : DSt → R Out := (sIf (zfx (zaB (zaE zao (zac (zah 5) zal)))) (zb8 (eC (.bl false))) zbu)
noncomputable def zgn : DSt → R Out := (zb8 (zaE zao (zac (zah 1) zal)))
noncomputable def zgo : DSt → R Out := (za0 (zje [] [5] zaL (zh4 (zdk (zfl (zac (zah 7) (zac (eSl (zah 7) zfp (zdA (eC (.int 12)))) (zac (eSl (zah 7) zfp (zdA (eC (.int 1)))) (zac (zdk (zfl zal)) (zac (zbB ziA (zac (zah 1) zal)) (zac (eC .non) (zac (eC (.int 5)) (zac (eC (.dct [] [])) (zac (eC (.str "a")) (zac (eC (.bl true)) (zac (eOp gIx (zah 1) (eC (.int 0))) (zac (zdk (zfl (zac (zah 1) zal))) zal))))))))))))))) zdO) zgn)
noncomputable def zgp : DSt → R Out := (za0 (zjX [] 7 (zdk (eLC 1 [0] (zcU zit (zac (eC (.int 13)) zal)) zaL zcQ (zfk (zac (zah 0) (zac (eC (.int 1)) (zac (eC (.int 1)) zal))))))) zgo)
noncomputable def zgq : DSt → R Out := (za0 (zje [] [2] zaL (zh4 (eOp zc5 (eSl (zah 0) (zdA (eC (.int 2))) (zdA (eC (.int 32)))) (zdk (zfl (zac (eC (.int 1)) zal))))) zbM) zgp)
noncomputable def zeP : DSt → R Out := (za0 (zaZ 1 (zaE zb0 (zac (zaE zaS (zac (zah 0) (zac (eC (.int 0)) zal))) (zac (zaE zaS (zac (zah 0) (zac (eC (.int 1)) zal))) zal)))) zgq)
noncomputable def zeQ : List D → R D := fnM 1 8 zeP
theorem zi5 (a0 : D) : zeQ [a0] = fin (zeP [some a0, none, none, none, none, none, none, none]) := zbn (b := zeP) rfl rfl
end Mir
end
section
set_option Elab.async false
set_option linter.all false
set_option maxRecDepth 100000
open PySem L2 DL Mir
local macro_rules | `(tactic| walk_at "ev") => `(tactic| simp only [zey, zmJ, zmK, zmL, zmM, zj7, ziD, ziE, ziF, zpy, zmN, zmO, zmP, zpz, ziG, zj8, ziH, zg5, ziI, zj9, zmQ, ziJ, zka, ziK, zkb, ziL, zkc, ziM, zkd, zpB, zpC, zpD, zpE, zpF, zpG, zpI, zpJ, zke, zpK, zpL, zpM, zpN, zpO, zpP, zpQ, zhI, zhJ, ziN, zkf, zkg, zpR, zpS, zmR, zs8, zs9, zkh, zmS, zki, zmT, zmU, zmV, zpT, zpU, zkj, zkk, zmW, zpV, zpW, zhK, zrd, zre, zg6, zg7, zkl, ziO, zg8, zg9, zkn, zmX, zko, ziP, zkp, ziQ, ziR, zhL, zmY, zkq, zkr, zm0, zks, zm1, zm2, zm3, zm4, zkt, zm5, zha, zku, zfV, zkv, zm6, zkw, zpZ, zp1, zm7, zm8, zm9, zp2, zp3, zp4, zp5, zp6, zp7, zp8, zp9, zqa, zqb, zqc, zqd, zqe, znb, znc, zkA, zjq, zkB, zkC, zkD, zkE, zkF, zkG, zqf, znd, zne, znf, zng, znh, eq_self, decide_true, decide_false, Int.reduceEq, Int.reduceLT, Int.reduceLE, Int.reduceNeg, Int.reduceToNat, zqg, zni, znj, zqh, zfW, ze4, zfX, zhb, zfY, zfZ, zf0, zf1, zkH, ziU, zkI, zkJ, znl, znm, zkK, znn, zdf, zkP, zkL, zkM, zkN, zkO, ziV, zno, zfy, mask, zfm, List.contains_cons, List.contains_nil, Bool.or_false, Bool.false_or, Bool.true_or, Bool.or_true, Nat.reduceBEq, Nat.reduceAdd, Nat.zero_add, cond_true, cond_false, List.set_cons_zero, List.set_cons_succ, Bool.not_true, Bool.not_false, Bool.not_not, Bool.true_and, Bool.false_and, Bool.and_true, Bool.and_false])
local macro_rules | `(tactic| walk_at "side") => `(tactic| first | assumption | decide | omega | (refine zrf ?_ ?_ <;> omega) | (refine zrg ?_ ?_ ?_ <;> omega) | (refine znk ?_ ?_ <;> omega) | (simp only [List.length_cons, List.length_nil, List.length_append, List.length_map]; omega))
local macro_rules | `(tactic| walk_at "evd") => `(tactic| simp (disch := walk_at "side") only [zey, zmJ, zmK, zmL, zmM, zj7, ziD, ziE, ziF, zpy, zmN, zmO, zmP, zpz, ziG, zj8, ziH, zg5, ziI, zj9, zmQ, ziJ, zka, ziK, zkb, ziL, zkc, ziM, zkd, zpB, zpC, zpD, zpE, zpF, zpG, zpI, zpJ, zke, zpK, zpL, zpM, zpN, zpO, zpP, zpQ, zhI, zhJ, ziN, zkf, zkg, zpR, zpS, zmR, zs8, zs9, zkh, zmS, zki, zmT, zmU, zmV, zpT, zpU, zkj, zkk, zmW, zpV, zpW, zhK, zrd, zre, zg6, zg7, zkl, ziO, zg8, zg9, zkn, zmX, zko, ziP, zkp, ziQ, ziR, zhL, zmY, zkq, zkr, zm0, zks, zm1, zm2, zm3, zm4, zkt, zm5, zha, zku, zfV, zkv, zm6, zkw, zpZ, zp1, zm7, zm8, zm9, zp2, zp3, zp4, zp5, zp6, zp7, zp8, zp9, zqa, zqb, zqc, zqd, zqe, znb, znc, zkA, zjq, zkB, zkC, zkD, zkE, zkF, zkG, zqf, znd, zne, znf, zng, znh, eq_self, decide_true, decide_false, Int.reduceEq, Int.reduceLT, Int.reduceLE, Int.reduceNeg, Int.reduceToNat, zqg, zni, znj, zqh, zfW, ze4, zfX, zhb, zfY, zfZ, zf0, zf1, zkH, ziU, zkI, zkJ, znl, znm, zkK, znn, zdf, zkP, zkL, zkM, zkN, zkO, ziV, zno, zfy, mask, zfm, List.contains_cons, List.contains_nil, Bool.or_false, Bool.false_or, Bool.true_or, Bool.or_true, Nat.reduceBEq, Nat.reduceAdd, Nat.zero_add, cond_true, cond_false, List.set_cons_zero, List.set_cons_succ, Bool.not_true, Bool.not_false, Bool.not_not, Bool.true_and, Bool.false_and, Bool.and_true, Bool.and_false, zdd, zna, za1, zri, zrj, ziT, zrk, zjt, zoN, zoO, zmZ])
namespace LmP
open Mth
theorem zuR {n : Nat} {i : Int} (h : B n i) : i.natAbs ≤ 2 ^ n - 1 := by unfold B at h; omega
theorem zkX {n : Nat} {x y z : Int} (hx : B n x) (hy : B n y) (hz : B n z) (h : NZ x y z) (hn : n ≤ 9000) : zn5 (zdw x y z) = true := by
 refine zmB (n := n) ?_ (zct h).ne hn
 have := zqQ (zuR hx) (zuR hy) (zuR hz)
 have p : 0 < 2 ^ n := Nat.pow_pos (by decide)
 unfold B; omega
theorem zhd (a b : Int) : zcx [.int a, .int b] = .ok (.int ((Nat.gcd a.natAbs b.natAbs : Nat) : Int)) := by
 rw [zi0]
 unfold zeD zf7 zf6 zf5
 walk_at "ev"
 have loop : ∀ (n m : Nat) (z : Option D), ∃ z', zbm zcK zdD [some (.int (m : Int)), some (.int (n : Int)), z] = .ok (.nx [some (.int ((Nat.gcd m n : Nat) : Int)), some (.int 0), z']) := by
  intro n
  induction n using Nat.strongRecOn with
  | _ n ih =>
   intro m z
   by_cases hn : n = 0
   ·subst hn
    refine ⟨z, ?_⟩
    rw [zkT (by unfold zcK; walk_at "ev"; rfl), Nat.gcd_zero_right]; rfl
   ·have hlt : m % n < n := Nat.mod_lt _ (by omega)
    obtain ⟨z', h⟩ := ih (m % n) hlt n (some (.int ((m % n : Nat) : Int)))
    refine ⟨z', ?_⟩
    rw [zkS (σ' := [some (.int (n : Int)), some (.int ((m % n : Nat) : Int)), some (.int ((m % n : Nat) : Int))]) ?_ ?_, h, Mth.gcd_step]
    ·unfold zcK; walk_at "ev"
     simp [hn]
    ·unfold zdD zd6 zd5; walk_at "ev"
     rw [za1 _ _ (by omega)]
     walk_at "ev"
     rfl
 obtain ⟨z', h⟩ := loop b.natAbs a.natAbs none
 rw [h]
 walk_at "ev"
theorem zlt (i : Int) : zbX [.int i] = .ok (.bl true) := by
 rw [zeC]; unfold zcW; walk_at "ev"
theorem zqk (x y z : Int) : (!decide (x = 0 ∧ y = 0 ∧ z = 0)) = decide (NZ x y z) := by
 unfold NZ; by_cases h : x = 0 ∧ y = 0 ∧ z = 0 <;> simp [h]
theorem zeR (x y z : Int) : za9 [t3 x y z] = .ok (.bl (decide (NZ x y z))) := by
 rw [zdm]; unfold zbU; walk_at "ev"
 rw [zkU (g := fun _ => .bl true) (by simp) (fun d hd => ?_)]
 ·walk_at "ev"
  rw [show zq4 [.lst ([D.int x, D.int y, D.int z].map fun _ => D.bl true)] = .ok (.bl true) from rfl]
  walk_at "ev"
  rw [zqk]
 ·simp only [List.mem_cons, List.not_mem_nil, or_false] at hd
  rcases hd with rfl | rfl | rfl <;> (walk_at "ev"; exact zlt _)
theorem znL (x y z : Int) (h : NZ x y z) (σ : DSt) : opK gIx (zrb (lcK 1 [0] (.ok [.int x, .int y, .int z]) zaL (zaB (eOp gNe (zah 0) (eC (.int 0)))) (zah 0) σ)) (.ok (.int (-1))) = .ok (.int (zaO x y z)) := by
 rw [zcV (p := fun d => !eqD d (.int 0)) (g := id) (by simp) (fun d hd => ?_) (fun d hd _ => ?_)]
 ·walk_at "ev"
  unfold zaO
  by_cases hz : z = 0
  ·by_cases hy : y = 0
   ·have hx : x ≠ 0 := fun e => h ⟨e, hy, hz⟩
    subst hz; subst hy
    simp only [List.filter_cons, List.filter_nil, zez, hx, decide_false, decide_true, Bool.not_false, Bool.not_true, if_true, Bool.false_eq_true, if_false, List.map_cons, List.map_nil, id, ne_eq, not_true_eq_false]
    rfl
   ·subst hz
    by_cases hx : x = 0
    ·subst hx
     simp only [List.filter_cons, List.filter_nil, zez, hy, decide_false, decide_true, Bool.not_false, Bool.not_true, if_true, Bool.false_eq_true, if_false, List.map_cons, List.map_nil, id, ne_eq, not_true_eq_false, not_false_eq_true]
     rfl
    ·simp only [List.filter_cons, List.filter_nil, zez, hx, hy, decide_false, decide_true, Bool.not_false, Bool.not_true, if_true, Bool.false_eq_true, if_false, List.map_cons, List.map_nil, id, ne_eq, not_true_eq_false, not_false_eq_true]
     rfl
  ·have e : List.map id (List.filter (fun d => !eqD d (.int 0)) [.int x, .int y, .int z]) = List.map id (List.filter (fun d => !eqD d (.int 0)) [.int x, .int y]) ++ [D.int z] := by
    rw [show ([.int x, .int y, .int z] : List D) = [.int x, .int y] ++ [.int z] from rfl, List.filter_append, List.map_append]
    congr 1
    simp [zez, hz]
   rw [e, zoQ]
   simp [hz]
 ·simp only [List.mem_cons, List.not_mem_nil, or_false] at hd
  rcases hd with rfl | rfl | rfl <;> (walk_at "ev"; rw [zez])
 ·simp only [List.mem_cons, List.not_mem_nil, or_false] at hd
  rcases hd with rfl | rfl | rfl <;> (walk_at "ev"; rfl)
abbrev lowD (x y z : Int) : D := t3 (x.fdiv (zdw x y z)) (y.fdiv (zdw x y z)) (z.fdiv (zdw x y z))
theorem zhe (x y z : Int) : (zaO x y z < 0 ∧ zdw x y z = -((g3 x y z : Nat) : Int)) ∨ (¬ zaO x y z < 0 ∧ zdw x y z = ((g3 x y z : Nat) : Int)) := by
 unfold zdw
 by_cases h : zaO x y z < 0
 ·left; rw [if_pos h]; exact ⟨h, by omega⟩
 ·right; rw [if_neg h]; exact ⟨h, rfl⟩
theorem znM {n : Nat} {x y z : Int} (hx : B n x) (hy : B n y) (hz : B n z) (h : NZ x y z) (hn : n ≤ 9000) : zb9 [t3 x y z] = .ok (lowD x y z) := by
 have hd := zkX hx hy hz h hn
 rw [zi1]; unfold zeE zga zf9 zf8; walk_at "ev"
 rw [zhd]; walk_at "ev"
 rw [zhd]; walk_at "ev"
 rw [znL x y z h]; walk_at "ev"
 rw [Int.natAbs_natCast]
 rcases zhe x y z with ⟨hl, hs⟩ | ⟨hl, hs⟩
 ·rw [decide_eq_true hl]; walk_at "ev"
  rw [show -(((Nat.gcd (Nat.gcd x.natAbs y.natAbs) z.natAbs : Nat)) : Int) = zdw x y z from hs.symm, zde _ _ hd, zde _ _ hd, zde _ _ hd]
  walk_at "ev"
 ·rw [decide_eq_false hl]; walk_at "ev"
  rw [show (((Nat.gcd (Nat.gcd x.natAbs y.natAbs) z.natAbs : Nat)) : Int) = zdw x y z from hs.symm, zde _ _ hd, zde _ _ hd, zde _ _ hd]
  walk_at "ev"
theorem zhf {n : Nat} {x y z : Int} (hx : B n x) (hy : B n y) (hz : B n z) (h : NZ x y z) (hn : n ≤ 9000) : zam [t3 x y z] = .ok (.bl (decide (x.fdiv (zdw x y z) = x ∧ y.fdiv (zdw x y z) = y ∧ z.fdiv (zdw x y z) = z))) := by
 rw [zba]; unfold zbi zcb zca; walk_at "ev"
 rw [zeR, decide_eq_true h]; walk_at "ev"
 rw [znM hx hy hz h hn]; walk_at "ev"
theorem zlu : zam [t3 0 0 0] = .ok (.bl false) := by
 rw [zba]; unfold zbi zcb zca; walk_at "ev"
 rw [zeR]; rfl
end LmP
set_option Elab.async false
set_option linter.all false
set_option maxRecDepth 100000
open PySem L2 DL Mir
namespace LmA
open Mth LmP
theorem zef {i j : Int} (h : 0 < j) : 0 ≤ i % j ∧ i % j < j := ⟨Int.emod_nonneg _ (by omega), Int.emod_lt_of_pos _ h⟩
theorem zeq (i : Int) : zaX [.int i] = .ok (.bl true) := by
 rw [zcR]; unfold zb1; walk_at "ev"
end LmA
set_option Elab.async false
set_option linter.all false
set_option maxRecDepth 100000
open PySem L2 DL Mir
namespace LmD
open Mth LmP LmA
abbrev ptD (p : P3) : D := t3 p.1 p.2.1 p.2.2
structure BP (n : Nat) (p : P3) : Prop where
 x : B n p.1
 y : B n p.2.1
 z : B n p.2.2
theorem BP.mono {m n : Nat} {p : P3} (h : BP m p) (hn : m ≤ n) : BP n p := ⟨h.x.mono hn, h.y.mono hn, h.z.mono hn⟩
theorem BP.low {n : Nat} {p : P3} (h : BP n p) (hz : Nz p) : BP n (Mth.low p) := by
 obtain ⟨a, b, c⟩ := zqR hz
 exact ⟨Nat.lt_of_le_of_lt a h.x, Nat.lt_of_le_of_lt b h.y, Nat.lt_of_le_of_lt c h.z⟩
theorem zgr {n : Nat} {i : Int} (h : B n i) (hn : n ≤ 10000) : zjf i = true := zmA h (by omega)
theorem eqP (p q : P3) : (p.1 = q.1 ∧ p.2.1 = q.2.1 ∧ p.2.2 = q.2.2) ↔ p = q := ⟨fun ⟨a, b, c⟩ => Prod.ext a (Prod.ext b c), fun h => by subst h; exact ⟨rfl, rfl, rfl⟩⟩
theorem zts (p q : P3) : eqD (ptD p) (ptD q) = decide (p = q) := by
 rw [zkz, decide_eq_decide.mpr (eqP p q)]
theorem znN (n m : Nat) (s a : Option D) (za4 : DSt) : zbm (zaB (eOp gNe (zah 3) (eC (.int 0)))) (zq1 [] [1, 3] (zdv 2) (zfk (zac (zah 3) (zac (eOp zeW (zah 1) (zah 3)) zal)))) (s :: some (.int (m : Int)) :: a :: some (.int (n : Int)) :: za4) = .ok (.nx (s :: some (.int ((Nat.gcd m n : Nat) : Int)) :: a :: some (.int 0) :: za4)) := by
 induction n using Nat.strongRecOn generalizing m with
 | _ n ih =>
  by_cases hn : n = 0
  ·subst hn
   rw [zkT (by walk_at "ev"; rfl), Nat.gcd_zero_right]; rfl
  ·have hlt : m % n < n := Nat.mod_lt _ (by omega)
   have h := ih (m % n) hlt n
   rw [zkS (σ' := s :: some (.int (n : Int)) :: a :: some (.int ((m % n : Nat) : Int)) :: za4) ?_ ?_, h, Mth.gcd_step]
   ·walk_at "ev"
    rw [decide_eq_false (by omega)]; rfl
   ·walk_at "ev"
    rw [za1 _ _ (by omega)]
    walk_at "ev"
    rfl
theorem znO : ∀ (ns : List Int) (g : Nat) (s a r : Option D) (za4 : DSt), ∃ a' r', zgG [2] zaL (za0 (zaZ 3 (zbB zpu (zac (zah 2) zal))) (zbm (zaB (eOp gNe (zah 3) (eC (.int 0)))) (zq1 [] [1, 3] (zdv 2) (zfk (zac (zah 3) (zac (eOp zeW (zah 1) (zah 3)) zal)))))) (ns.map .int) (s :: some (.int (g : Int)) :: a :: r :: za4) = .ok (.nx (s :: some (.int ((ns.foldl (fun g n => Nat.gcd g n.natAbs) g : Nat) : Int)) :: a' :: r' :: za4))
 | [], g, s, a, r, za4 => ⟨a, r, rfl⟩
 | n :: ns, g, s, a, r, za4 => by
  obtain ⟨a', r', h⟩ := znO ns (Nat.gcd g n.natAbs) s (some (.int n)) (some (.int 0)) za4
  refine ⟨a', r', ?_⟩
  rw [List.map_cons, zdf]; walk_at "ev"
  rw [znN]; walk_at "ev"
  exact h
theorem zo0 (ns : List Int) (s a r : Option D) (za4 : DSt) : ∃ a' r', zgG [2] zaL (za0 (zaZ 3 (zbB zpu (zac (zah 2) zal))) (zbm (zaB (eOp gNe (zah 3) (eC (.int 0)))) (zq1 [] [1, 3] (zdv 2) (zfk (zac (zah 3) (zac (eOp zeW (zah 1) (zah 3)) zal)))))) (ns.map .int) (s :: some (.int 0) :: a :: r :: za4) = .ok (.nx (s :: some (.int ((ns.foldl (fun g n => Nat.gcd g n.natAbs) 0 : Nat) : Int)) :: a' :: r' :: za4)) := znO ns 0 s a r za4
theorem znP {ns : List Int} {s : Int} {σ : DSt} (hl : ns.length ≤ 1000) (h : zn5 s = true) {j : Nat} (hj : zah j σ = .ok (.int s)) : lcK 1 [0] (.ok (ns.map D.int)) zaL zcQ (eOp zgH (zah 0) (zah (j + 1))) σ = .ok ((ns.map fun n => n.fdiv s).map .int) := by
 rw [zkU (g := fun d => match d with | .int n => .int (n.fdiv s) | d => d) (by rw [List.length_map]; omega) (fun d hd => ?_)]
 ·rw [List.map_map, List.map_map]; rfl
 ·obtain ⟨n, _, rfl⟩ := List.mem_map.mp hd
  walk_at "ev"
  rw [hj]; walk_at "ev"
  exact zde _ _ h
theorem zi6 {n : Nat} {s : D} {x y z : Int} (hs : zqW s = .ok [.int x, .int y, .int z]) (hx : B n x) (hy : B n y) (hz : B n z) (h : NZ x y z) (hn : n ≤ 9000) : zbh [s] = .ok (lowD x y z) := by
 have hd := zkX hx hy hz h hn
 have sq : zoR (.ok s) = .ok ([x, y, z].map D.int) := hs
 rw [zi4]; unfold zeI zgk ze5 zd7 zdJ zdK; walk_at "ev"
 rw [sq]; walk_at "ev"
 obtain ⟨a', r', e⟩ := zo0 [x, y, z] (some s) none none [none]
 rw [e]; walk_at "ev"
 simp only [List.foldl_cons, List.foldl_nil, Nat.gcd_zero_left]
 unfold zgj zgi zgh; walk_at "ev"
 rw [sq]
 have l := znL x y z h [some s, some (.int (((x.natAbs.gcd y.natAbs).gcd z.natAbs : Nat) : Int)), a', r', none]
 have hc : ∀ (σ : DSt), ∀ d ∈ [D.int x, D.int y, D.int z], zaB (eOp gNe (zah 0) (eC (.int 0))) (some d :: σ) = .ok (!eqD d (.int 0)) := by
  intro σ d hd
  simp only [List.mem_cons, List.not_mem_nil, or_false] at hd
  rcases hd with rfl | rfl | rfl <;> (walk_at "ev"; rw [zez])
 rw [zcV (p := fun d => !eqD d (.int 0)) (g := id) (by simp) (hc _) (fun d hd _ => rfl), zhJ, zmO] at l
 rw [show ([x, y, z].map D.int) = [.int x, .int y, .int z] from rfl, zcV (p := fun d => !eqD d (.int 0)) (g := id) (by simp) (hc _) (fun d hd _ => rfl)]
 walk_at "ev"
 rw [l]; walk_at "ev"
 rcases zhe x y z with ⟨hl, hs'⟩ | ⟨hl, hs'⟩
 ·rw [decide_eq_true hl]; walk_at "ev"
  rw [show 0 - (((Nat.gcd (Nat.gcd x.natAbs y.natAbs) z.natAbs : Nat)) : Int) = zdw x y z from by rw [hs', Int.zero_sub]; rfl, sq, znP (j := 1) (by simp) hd rfl]; walk_at "ev"
  rfl
 ·rw [decide_eq_false hl]; walk_at "ev"
  rw [show (((Nat.gcd (Nat.gcd x.natAbs y.natAbs) z.natAbs : Nat)) : Int) = zdw x y z from hs'.symm, sq, znP (j := 1) (by simp) hd rfl]; walk_at "ev"
  rfl
theorem znQ {n : Nat} {p : P3} (h : BP n p) (hz : Nz p) (hn : n ≤ 9000) : zbh [ptD p] = .ok (ptD (low p)) := zi6 rfl h.x h.y h.z hz hn
theorem zi7 {n : Nat} {p : P3} (h : BP n p) (hz : Nz p) (hn : n ≤ 9000) : zbh [l3 p.1 p.2.1 p.2.2] = .ok (ptD (low p)) := zi6 rfl h.x h.y h.z hz hn
theorem zbw (c k : Int) (h0 : 0 ≤ k) (h1 : k ≤ 1000) : ∃ r, zaG [.int c, .int k] = .ok (.int r) ∧ 0 ≤ r ∧ r < 2147483629 := by
 rw [zi3]; unfold zeH; walk_at "evd"
 by_cases h : (10 : Int) ^ 18 ≤ c
 ·rw [decide_eq_true h]; walk_at "evd"
  have := zef (i := c / 2 ^ (20 * k).toNat) (j := 1048576) (by decide)
  exact ⟨_, rfl, by omega, by omega⟩
 ·rw [decide_eq_false h]; walk_at "ev"
  have m1 := zef (i := c) (j := 2147483647) (by decide)
  have kk : 0 ≤ 48271 * k * k ∧ 48271 * k * k ≤ 48271000 * 1000 := ⟨Int.mul_nonneg (by omega) h0, Int.mul_le_mul (by omega) h1 h0 (by decide)⟩
  unfold zgg; walk_at "evd"
  generalize 48271 * k * k = q at kk ⊢
  generalize c % 2147483647 = w at m1 ⊢
  have m2 := zef (i := (w + q + k + 1) * 69621) (j := 2147483629) (by decide)
  generalize (w + q + k + 1) * 69621 % 2147483629 = u at m2 ⊢
  unfold zgf; walk_at "evd"
  generalize u * u + 7919 * k + 5 = t
  have m3 := zef (i := t) (j := 2147483587) (by decide)
  generalize t % 2147483587 = v at m3 ⊢
  unfold zge; walk_at "evd"
  exact ⟨_, rfl, zef (by decide)⟩
end LmD
set_option Elab.async false
set_option linter.all false
set_option maxRecDepth 100000
open PySem L2 DL Mir
namespace LmE
open Mth LmP LmA LmD
theorem zkY (own : List Nat) (i : Nat) (fk fe : DSt → R D) (σ : DSt) : zth own i fk fe σ = ztG i (zek σ i) (fe (mask own σ)) (fk (mask own σ)) σ := rfl
theorem znR {i j : Nat} {ds : List D} {d : D} {σ : DSt} (hj : j < ds.length) : ztG i (.ok ds) (.ok d) (.ok (.int (j : Int))) σ = .ok (.nx (σ.set i (some (.lst (ds.set j d))))) := by
 show (match ixN ds.length (j : Int) with | some j => R.ok (Out.nx (σ.set i (some (.lst (ds.set j d))))) | none => .bad) = _
 have : ixN ds.length (j : Int) = some j := by
  unfold ixN; rw [if_pos (by omega), if_pos (by omega)]; rfl
 rw [this]
theorem b20 {i : Int} (h1 : -524288 ≤ i) (h2 : i ≤ 524288) : B 20 i := B.of (k := 524288) (by omega)
theorem zb2 (c : Int) (k : Nat) (hk : k ≤ 100) : ∃ p, zaV [.int c, .int (k : Int)] = .ok (ptD p) ∧ Nrm p ∧ BP 20 p := by
 rw [zhV]; unfold zdW; walk_at "evd"
 obtain ⟨w, ew, w0, w1⟩ := zbw c (4 * (k : Int)) (by omega) (by omega)
 rw [ew]; walk_at "ev"
 unfold ze8; walk_at "ev"
 unfold ze7; walk_at "evd"
 have turn : ∀ (j : Nat) (d : D) (σ : DSt), (zg4 0 3)[j]? = some d → (∃ ns : List Int, ns.length = j ∧ (∀ i ∈ ns, B 20 i) ∧ ∃ a b, σ = [some (.int c), some (.int (k : Int)), some (.int w), some (.lst (ns.map .int)), a, b]) → ∃ σ', (zbV (σ.set 4 (some d)) = .ok (.nx σ') ∨ zbV (σ.set 4 (some d)) = .ok (.ct σ')) ∧ ∃ ns : List Int, ns.length = j + 1 ∧ (∀ i ∈ ns, B 20 i) ∧ ∃ a b, σ' = [some (.int c), some (.int (k : Int)), some (.int w), some (.lst (ns.map .int)), a, b] := by
  rintro j d σ hd ⟨ns, hl, hb, a, b, rfl⟩
  have hj : j < 3 := by
   have := (List.getElem?_eq_some_iff.mp hd).1
   simpa [zg4] using this
  obtain rfl : d = .int (j : Int) := by
   unfold zg4 at hd
   rw [List.getElem?_map, List.getElem?_range hj] at hd
   simpa using hd.symm
  obtain ⟨r, er, r0, r1⟩ := zbw c (4 * (k : Int) + 1 + (j : Int)) (by omega) (by omega)
  unfold zbV; walk_at "evd"
  rw [er]; walk_at "ev"
  unfold zdL; walk_at "evd"
  have f1 := zef (i := r) (j := 7) (by decide)
  have f2 := zef (i := r) (j := 81) (by decide)
  have f3 := zef (i := r) (j := 1048576) (by decide)
  have f4 := zef (i := w) (j := 4) (by decide)
  obtain ⟨v, ev, bv⟩ : ∃ v : Int, opK gIx (.ok (.lst [.int (r % 7 - 3), .int (r % 81 - 40), .int (r % 1048576 - 524288)])) (gIx (.lst [.int 0, .int 0, .int 1, .int 2]) (.int (w % 4))) = .ok (.int v) ∧ B 20 v := by
   rcases (show w % 4 = 0 ∨ w % 4 = 1 ∨ w % 4 = 2 ∨ w % 4 = 3 by omega) with e | e | e | e <;> rw [e]
   ·exact ⟨_, rfl, b20 (by omega) (by omega)⟩
   ·exact ⟨_, rfl, b20 (by omega) (by omega)⟩
   ·exact ⟨_, rfl, b20 (by omega) (by omega)⟩
   ·exact ⟨_, rfl, b20 (by omega) (by omega)⟩
  rw [ev, zjt _ _ _ _ (by rw [List.length_map]; omega)]
  refine ⟨_, .inl rfl, ns ++ [v], by simp [hl], fun i hi => ?_, some (.int (j : Int)), some (.int r), ?_⟩
  ·rcases List.mem_append.mp hi with hi | hi
   ·exact hb i hi
   ·rw [List.mem_singleton.mp hi]; exact bv
  ·rw [List.map_append]; rfl
 obtain ⟨σ', e1, ns, hl, hb, a, b, rfl⟩ := zkR (i := 4) (fb := zbV) _ _ turn [some (.int c), some (.int (k : Int)), some (.int w), some (.lst []), none, none] ⟨[], rfl, by simp, _, _, rfl⟩
 rw [e1]; walk_at "ev"
 have hl : ns.length = 3 := hl
 match ns, hl with
 | [x, y, z], _ =>
  have bx := hb x (by simp)
  have bY := hb y (by simp)
  have bz := hb z (by simp)
  have tail : ∀ x y z : Int, B 20 x → B 20 y → B 20 z → ∃ p, fin (zdN [some (.int c), some (.int (k : Int)), some (.int w), some (l3 x y z), a, b]) = .ok (ptD p) ∧ Nrm p ∧ BP 20 p := by
   intro x y z bx bY bz
   have last : ∀ x y z : Int, B 20 x → B 20 y → B 20 z → NZ x y z → ∃ p, fin (zdM [some (.int c), some (.int (k : Int)), some (.int w), some (l3 x y z), a, b]) = .ok (ptD p) ∧ Nrm p ∧ BP 20 p := by
    intro x y z bx bY bz hz
    unfold zdM; walk_at "ev"
    rw [zi7 (p := (x, y, z)) ⟨bx, bY, bz⟩ hz (by decide)]; walk_at "ev"
    exact ⟨_, rfl, zhu (p := (x, y, z)) hz, BP.low (p := (x, y, z)) ⟨bx, bY, bz⟩ hz⟩
   unfold zdN; walk_at "evd"
   by_cases hz : x = 0 ∧ y = 0 ∧ z = 0
   ·rw [decide_eq_true hz]; walk_at "evd"
    rw [zkY]; walk_at "evd"
    have f := zef (i := w / 16) (j := 3) (by decide)
    obtain ⟨j, hj⟩ : ∃ j : Nat, w / 16 % 3 = (j : Int) := ⟨(w / 16 % 3).toNat, by omega⟩
    have hj3 : j < 3 := by omega
    rw [hj, znR (by simpa using hj3)]; walk_at "ev"
    obtain ⟨rfl, rfl, rfl⟩ := hz
    have b1 : B 20 1 := B.of (k := 1) (by decide)
    have b0 : B 20 0 := B.of (k := 0) (by decide)
    rcases (show j = 0 ∨ j = 1 ∨ j = 2 by omega) with rfl | rfl | rfl
    ·exact last 1 0 0 b1 b0 b0 (by decide)
    ·exact last 0 1 0 b0 b1 b0 (by decide)
    ·exact last 0 0 1 b0 b0 b1 (by decide)
   ·rw [decide_eq_false hz]; walk_at "ev"
    exact last x y z bx bY bz hz
  unfold ze6; walk_at "evd"
  by_cases hw : w / 4 % 4 = 0
  ·rw [decide_eq_true hw]; walk_at "evd"
   rw [zkY]; walk_at "ev"
   rw [show (2 : Int) = ((2 : Nat) : Int) from rfl, znR (by simp)]; walk_at "ev"
   exact tail x y 0 bx bY (B.of (k := 0) (by decide))
  ·rw [decide_eq_false hw]; walk_at "ev"
   exact tail x y z bx bY bz
end LmE
set_option Elab.async false
set_option linter.all false
set_option maxRecDepth 100000
open PySem L2 DL Mir
namespace Lk42
open Mth LmP LmA LmD LmE
theorem in2_pts (p : P3) (F : List P3) : in2 (ptD p) (F.map ptD) = true := by
 unfold in2
 rw [Bool.and_eq_true, List.all_eq_true]
 refine ⟨rfl, fun d hd => ?_⟩
 obtain ⟨q, _, rfl⟩ := List.mem_map.mp hd
 rfl
theorem inD_pts (p : P3) : ∀ F : List P3, inD (ptD p) (F.map ptD) = decide (p ∈ F)
 | [] => rfl
 | q :: F => by
  have ih := inD_pts p F
  unfold inD at ih ⊢
  rw [List.map_cons, List.any_cons, ih, zts]
  by_cases e : p = q
  ·subst e; simp
  ·have e' : ¬ q = p := fun z => e z.symm
   simp [e, e']
theorem nin_pts (p : P3) (F : List P3) : zlI (ptD p) (.lst (F.map ptD)) = .ok (.bl (!decide (p ∈ F))) := by
 rw [zrn (in2_pts p F), inD_pts]
theorem eSl_to (fe f : DSt → R D) (σ : DSt) (ds : List D) (n : Nat) (h1 : fe σ = .ok (.lst ds)) (h2 : f σ = .ok (.int (n : Int))) : eSl fe zfp (zdA f) σ = .ok (.lst (ds.take n)) := by
 unfold eSl zfp zdA
 rw [h1, h2]
 show R.ok (D.lst (zlH ds none (some (n : Int)))) = _
 unfold zlH
 rw [HT.sIx_none, HT.sIx_nat, List.drop_zero, Nat.sub_zero, ← List.take_eq_take_min]
theorem gAdd_ll {xs ys : List D} (h : xs.length + ys.length ≤ 1000000) : zc5 (.lst xs) (.lst ys) = .ok (.lst (xs ++ ys)) := by
 show (bif zll (xs.length + ys.length) then _ else _) = _
 rw [show zll (xs.length + ys.length) = true from decide_eq_true (Nat.le_trans h (by decide))]; rfl
end Lk42
set_option Elab.async false
set_option linter.all false
set_option maxRecDepth 100000
open PySem L2 DL Mir
namespace LmB
open Mth LmP LmA LmD
theorem zhX (bs : List Bool) : zq4 [.lst (bs.map D.bl)] = .ok (.bl (bs.all id)) := by
 show zpv (.lst (bs.map D.bl)) = _
 simp only [zpv, ziz]
theorem lc_mapP {α : Type} {xs : List α} {f : α → D} {e : DSt → R D} {σ : DSt} {g : α → D} (hl : xs.length ≤ 1000000) (h : ∀ a ∈ xs, e (some (f a) :: σ) = .ok (g a)) : lcK 1 [0] (.ok (xs.map f)) zaL zcQ e σ = .ok (xs.map g) := by
 have go : ∀ xs : List α, (∀ a ∈ xs, e (some (f a) :: σ) = .ok (g a)) → lcD [0] zaL zcQ e (List.replicate 1 none ++ σ) (xs.map f) = .ok (xs.map g) := by
  intro xs
  induction xs with
  | nil => intro _; rfl
  | cons d ds ih =>
   intro h
   show (e (some (f d) :: σ)).bind (fun y => (lcD [0] zaL zcQ e (List.replicate 1 none ++ σ) (ds.map f)).bind fun ys => .ok (y :: ys)) = _
   rw [h d List.mem_cons_self, ih fun d' hd => h d' (List.mem_cons_of_mem _ hd)]; rfl
 show (bif most (xs.map f).length then _ else _) = _
 rw [zjv (by rw [List.length_map]; exact hl), go xs h]; rfl
structure Pts (n : Nat) (ps : List P3) : Prop where
 nrm : ∀ p ∈ ps, Nrm p
 bd : ∀ p ∈ ps, BP n p
end LmB
set_option Elab.async false
set_option linter.all false
set_option maxRecDepth 100000
open PySem L2 DL Mir
set_option Elab.async false
set_option linter.all false
set_option maxRecDepth 100000
open PySem L2 DL Mir
namespace LmH
open Mth LmP LmA LmD LmB LmE
theorem zdP {n : Nat} {p : P3} (hp : BP n p) (h : Nrm p) (hn : n ≤ 9000) : zam [ptD p] = .ok (.bl true) := by
 rw [zhf hp.x hp.y hp.z h.nz hn, show zdw p.1 p.2.1 p.2.2 = 1 from h.one, zdT, zdT, zdT]
 simp
def key (p : P3) : List Int := [p.1, p.2.1, p.2.2]
theorem zrx {p q : P3} (h : key p = key q) : p = q := by
 simp only [key, List.cons.injEq, and_true] at h
 exact Prod.ext h.1 (Prod.ext h.2.1 h.2.2)
theorem zkZ : ∀ ps : List P3, zbI (ps.map ptD) = some (ps.map key)
 | [] => rfl
 | p :: ps => by
  have ih := zkZ ps
  rw [List.map_cons, List.map_cons]
  unfold zbI
  rw [ih]; rfl
theorem B.tms {m n : Nat} {k : Int} {p : P3} (hk : B m k) (hp : BP n p) : BP (m + n) (Mth.tms k p) := ⟨hk.mul hp.x, hk.mul hp.y, hk.mul hp.z⟩
end LmH
set_option Elab.async false
set_option linter.all false
set_option maxRecDepth 100000
open PySem L2 DL Mir
namespace LmI
open Mth LmP LmA LmD LmB LmE LmH
theorem zuS {a b c d f g x y z : D} {e : DSt → R D} {σ : DSt} (h1 : e (some a :: some b :: σ) = .ok x) (h2 : e (some c :: some d :: σ) = .ok y) (h3 : e (some f :: some g :: σ) = .ok z) : lcK 2 [0, 1] (.ok [.tup [a, b], .tup [c, d], .tup [f, g]]) (zdv 2) zcQ e σ = .ok [x, y, z] := by
 have t : lcD [0, 1] (zdv 2) zcQ e (List.replicate 2 none ++ σ) [.tup [a, b], .tup [c, d], .tup [f, g]] = (e (some a :: some b :: σ)).bind (fun y1 => ((e (some c :: some d :: σ)).bind fun y2 => ((e (some f :: some g :: σ)).bind fun y3 => (R.ok ([] : List D)).bind fun ys => .ok (y3 :: ys)).bind fun ys => .ok (y2 :: ys)).bind fun ys => .ok (y1 :: ys)) := rfl
 show (bif most 3 then (lcD [0, 1] (zdv 2) zcQ e (List.replicate 2 none ++ σ) [.tup [a, b], .tup [c, d], .tup [f, g]]).noerr else .bad) = _
 rw [t, h1, h2, h3]; rfl
theorem b3 {i : Int} (h : -3 ≤ i ∧ i ≤ 3) : B 3 i := B.of (k := 3) (by omega)
theorem lin {m n : Nat} {s t x y : Int} (hs : B 3 s) (ht : B 3 t) (hx : B n x) (hy : B n y) : B (n + 4) (s * x + t * y) := ((hs.mul hx).add (ht.mul hy)).mono (by omega)
theorem znS {p q : P3} {s t : Int} (hp : Nrm p) (bp : BP 20 p) (bq : BP 20 q) (hs : -3 ≤ s ∧ s ≤ 3) (ht : -3 ≤ t ∧ t ≤ 3) : ∃ r, zbJ [ptD p, ptD q, .int s, .int t] = .ok (ptD r) ∧ Nrm r ∧ BP 24 r := by
 have one : ∀ x y : Int, B 20 x → B 20 y → eOp zc5 (eOp zel (zah 4) (zah 0)) (eOp zel (zah 5) (zah 1)) [some (.int x), some (.int y), some (ptD p), some (ptD q), some (.int s), some (.int t), none] = .ok (.int (s * x + t * y)) := fun x y hx hy => by
  walk_at "ev"
  rw [zdd _ _ (zgr (b3 hs) (by decide)) (zgr hx (by decide)), zdd _ _ (zgr (b3 ht) (by decide)) (zgr hy (by decide))]; walk_at "ev"
 have bS : BP 24 (s * p.1 + t * q.1, s * p.2.1 + t * q.2.1, s * p.2.2 + t * q.2.2) := ⟨lin (m := 0) (b3 hs) (b3 ht) bp.x bq.x, lin (m := 0) (b3 hs) (b3 ht) bp.y bq.y, lin (m := 0) (b3 hs) (b3 ht) bp.z bq.z⟩
 rw [zgl]; unfold zcM; walk_at "ev"
 rw [show znt [ptD p, ptD q] = .ok [.tup [.int p.1, .int q.1], .tup [.int p.2.1, .int q.2.1], .tup [.int p.2.2, .int q.2.2]] from rfl, zuS (one _ _ bp.x bq.x) (one _ _ bp.y bq.y) (one _ _ bp.z bq.z)]; walk_at "ev"
 unfold zd9; walk_at "ev"
 by_cases hz : s * p.1 + t * q.1 = 0 ∧ s * p.2.1 + t * q.2.1 = 0 ∧ s * p.2.2 + t * q.2.2 = 0
 ·rw [decide_eq_true hz]; walk_at "ev"
  exact ⟨p, rfl, hp, bp.mono (by decide)⟩
 ·rw [decide_eq_false hz]; walk_at "ev"
  unfold zd8; walk_at "ev"
  rw [show (D.lst [.int (s * p.1 + t * q.1), .int (s * p.2.1 + t * q.2.1), .int (s * p.2.2 + t * q.2.2)]) = l3 (s * p.1 + t * q.1) (s * p.2.1 + t * q.2.1) (s * p.2.2 + t * q.2.2) from rfl, zi7 (p := (s * p.1 + t * q.1, s * p.2.1 + t * q.2.1, s * p.2.2 + t * q.2.2)) bS hz (by decide)]; walk_at "ev"
  exact ⟨_, rfl, zhu (p := (s * p.1 + t * q.1, s * p.2.1 + t * q.2.1, s * p.2.2 + t * q.2.2)) hz, bS.low hz⟩
theorem Pts.snoc {n : Nat} {ps : List P3} {r : P3} (h : Pts n ps) (hr : Nrm r) (br : BP n r) : Pts n (ps ++ [r]) :=
 ⟨fun p hp => (List.mem_append.mp hp).elim (h.nrm p) fun z => by rw [List.mem_singleton.mp z]; exact hr, fun p hp => (List.mem_append.mp hp).elim (h.bd p) fun z => by rw [List.mem_singleton.mp z]; exact br⟩
theorem zql {ps : List P3} {r : P3} {x0 x1 x2 x3 x4 x5 x7 : Option D} (h : Pts 24 ps) (nd : ps.Nodup) (hl : ps.length ≤ 12) (hr : Nrm r) (br : BP 24 r) :
  ∃ qs, zcf [x0, x1, x2, x3, x4, x5, some (.lst (ps.map ptD)), x7, some (ptD r)] = .ok (.nx [x0, x1, x2, x3, x4, x5, some (.lst (qs.map ptD)), x7, some (ptD r)]) ∧ Pts 24 qs ∧ qs.Nodup ∧ 1 ≤ qs.length ∧ qs.length ≤ ps.length + 1 := by
 unfold zcf; walk_at "ev"
 rw [Lk42.nin_pts]; walk_at "ev"
 by_cases hm : r ∈ ps
 ·rw [decide_eq_true hm]; walk_at "ev"
  exact ⟨ps, rfl, h, nd, List.length_pos_of_mem hm, by omega⟩
 ·rw [decide_eq_false hm]; walk_at "ev"
  rw [zjt _ _ _ _ (by rw [List.length_map]; omega)]; walk_at "ev"
  refine ⟨ps ++ [r], by rw [List.map_append]; rfl, Pts.snoc h hr br, ?_, by simp, by simp⟩
  rw [List.nodup_append]
  refine ⟨nd, by simp, fun a ha b hb e => hm ?_⟩
  rw [← List.mem_singleton.mp hb, ← e]; exact ha
theorem zo1 (c : Int) : ∃ f : Nat → P3, ∀ k : Nat, k ≤ 100 → zaV [.int c, .int (k : Int)] = .ok (ptD (f k)) ∧ Nrm (f k) ∧ BP 20 (f k) :=
 ⟨fun k => if h : k ≤ 100 then Classical.choose (zb2 c k h) else (0, 0, 1), fun k h => by
  have e : (if h : k ≤ 100 then Classical.choose (zb2 c k h) else (0, 0, 1)) = Classical.choose (zb2 c k h) := dif_pos h
  have z := Classical.choose_spec (zb2 c k h)
  rw [← e] at z
  exact z⟩
theorem mix7 (h k : Int) (h0 : 0 ≤ k) (h1 : k ≤ 1000) : ∃ r, zaG [.int h, .int k] = .ok (.int r) ∧ -3 ≤ r % 7 - 3 ∧ r % 7 - 3 ≤ 3 := by
 obtain ⟨r, e, _, _⟩ := zbw h k h0 h1
 exact ⟨r, e, by omega, by omega⟩
theorem zlv {h way off c n : Int} {f : Nat → P3} {ps : List P3} {k : Nat} {x8 : Option D} (hf : ∀ k : Nat, k ≤ 100 → zaV [.int c, .int (k : Int)] = .ok (ptD (f k)) ∧ Nrm (f k) ∧ BP 20 (f k)) (hk : k < 12) (hw : way = 0 ∨ way = 1 ∨ way = 2 ∨ way = 3) (ho : 0 ≤ off ∧ off < 12) (hp : Pts 24 ps) (nd : ps.Nodup) (hl : ps.length ≤ 12) :
  ∃ qs y8, zbj [some (.int c), some (.int h), some (.int n), some (.int way), some (.int off), some (.lst ((List.range 12).map fun k => ptD (f k))), some (.lst (ps.map ptD)), some (.int (k : Int)), x8] = .ok (.nx [some (.int c), some (.int h), some (.int n), some (.int way), some (.int off), some (.lst ((List.range 12).map fun k => ptD (f k))), some (.lst (qs.map ptD)), some (.int (k : Int)), y8]) ∧ Pts 24 qs ∧ qs.Nodup ∧ 1 ≤ qs.length ∧ qs.length ≤ ps.length + 1 := by
 have at_ : ∀ j : Nat, j < 12 → gIx (.lst ((List.range 12).map fun k => ptD (f k))) (.int (j : Int)) = .ok (ptD (f j)) := fun j hj => zen (by rw [List.getElem?_map, List.getElem?_range hj]; rfl)
 have at0 : gIx (.lst ((List.range 12).map fun k => ptD (f k))) (.int 0) = .ok (ptD (f 0)) := at_ 0 (by decide)
 have at1 : gIx (.lst ((List.range 12).map fun k => ptD (f k))) (.int 1) = .ok (ptD (f 1)) := at_ 1 (by decide)
 obtain ⟨_, nk, bk⟩ := hf k (by omega)
 obtain ⟨_, n0, b0⟩ := hf 0 (by decide)
 obtain ⟨_, n1, b1⟩ := hf 1 (by decide)
 obtain ⟨u, eu, u0, u1⟩ := mix7 h (3 + 2 * (k : Int)) (by omega) (by omega)
 obtain ⟨v, ev, v0, v1⟩ := mix7 h (4 + 2 * (k : Int)) (by omega) (by omega)
 obtain ⟨r, er, nr, br⟩ := znS n0 b0 b1 ⟨u0, u1⟩ ⟨v0, v1⟩
 obtain ⟨qs, e1, a1, a2, a3, a4⟩ := zql (r := f k) (x0 := some (.int c)) (x1 := some (.int h)) (x2 := some (.int n)) (x3 := some (.int way)) (x4 := some (.int off)) (x5 := some (.lst ((List.range 12).map fun k => ptD (f k)))) (x7 := some (.int (k : Int))) hp nd hl nk (BP.mono (n := 24) bk (by decide))
 obtain ⟨qt, e2, c1, c2, c3, c4⟩ := zql (r := r) (x0 := some (.int c)) (x1 := some (.int h)) (x2 := some (.int n)) (x3 := some (.int way)) (x4 := some (.int off)) (x5 := some (.lst ((List.range 12).map fun k => ptD (f k)))) (x7 := some (.int (k : Int))) hp nd hl nr br
 unfold zbj; walk_at "ev"
 rw [at_ k hk]; walk_at "ev"
 unfold zdn; walk_at "ev"
 have m2 : zjf 2 = true := by decide
 have mk : zjf (k : Int) = true := zgr (n := 4) (B.of (k := 12) (by omega)) (by decide)
 have mo : zjf off = true := zgr (n := 4) (B.of (k := 12) (by omega)) (by decide)
 rcases hw with rfl | rfl | rfl | rfl
 ·walk_at "ev"
  rw [zdd off 0 mo (by decide)]; walk_at "ev"
  by_cases hq : (k : Int) = off * 0
  ·rw [decide_eq_true hq]
   walk_at "ev"
   exact ⟨qs, _, e1, a1, a2, a3, a4⟩
  ·rw [decide_eq_false hq]
   walk_at "ev"
   rw [at0, at1, zdd 2 (k : Int) m2 mk]; walk_at "ev"
   rw [eu, ev]; walk_at "ev"
   rw [za1 u 7 (by decide), za1 v 7 (by decide)]; walk_at "ev"
   rw [er]; walk_at "ev"
   exact ⟨qt, _, e2, c1, c2, c3, c4⟩
 ·walk_at "ev"
  rw [zdd off 1 mo (by decide)]; walk_at "ev"
  by_cases hq : (k : Int) = off * 1
  ·rw [decide_eq_true hq]
   walk_at "ev"
   exact ⟨qs, _, e1, a1, a2, a3, a4⟩
  ·rw [decide_eq_false hq]
   walk_at "ev"
   rw [at0, at1, zdd 2 (k : Int) m2 mk]; walk_at "ev"
   rw [eu, ev]; walk_at "ev"
   rw [za1 u 7 (by decide), za1 v 7 (by decide)]; walk_at "ev"
   rw [er]; walk_at "ev"
   exact ⟨qt, _, e2, c1, c2, c3, c4⟩
 ·walk_at "ev"
  rw [za1 (k : Int) 2 (by decide)]; walk_at "ev"
  by_cases hq : (k : Int) % 2 = 0
  ·rw [decide_eq_true hq]
   walk_at "ev"
   rw [at0, at1, zdd 2 (k : Int) m2 mk]; walk_at "ev"
   rw [eu, ev]; walk_at "ev"
   rw [za1 u 7 (by decide), za1 v 7 (by decide)]; walk_at "ev"
   rw [er]; walk_at "ev"
   exact ⟨qt, _, e2, c1, c2, c3, c4⟩
  ·rw [decide_eq_false hq]
   walk_at "ev"
   exact ⟨qs, _, e1, a1, a2, a3, a4⟩
 ·walk_at "ev"
  exact ⟨qs, _, e1, a1, a2, a3, a4⟩
theorem zo2 (c h : Int) : ∃ ps, zb0 [.int c, .int h] = .ok (.lst (ps.map ptD)) ∧ Pts 24 ps ∧ ps.Nodup ∧ 1 ≤ ps.length ∧ ps.length ≤ 12 := by
 obtain ⟨r0, e0, p0, _⟩ := zbw h 0 (by decide) (by decide)
 obtain ⟨r1, e1, p1, _⟩ := zbw h 1 (by decide) (by decide)
 obtain ⟨r2, e2, p2, _⟩ := zbw h 2 (by decide) (by decide)
 obtain ⟨f, hf⟩ := zo1 c
 obtain ⟨n, hn⟩ : ∃ n : Nat, 1 + r0 % 12 = (n : Int) := ⟨(1 + r0 % 12).toNat, by omega⟩
 have n1 : 1 ≤ n ∧ n ≤ 12 := by omega
 have nn : (0 : Int) < n := by omega
 have off0 := Int.emod_nonneg r2 (show (n : Int) ≠ 0 by omega)
 have off1 := Int.emod_lt_of_pos r2 nn
 have turn : ∀ (k : Nat) (d : D) (σ : DSt), (zg4 0 n)[k]? = some d → (∃ ps a b, σ = [some (.int c), some (.int h), some (.int (n : Int)), some (.int (r1 % 4)), some (.int (r2 % n)), some (.lst ((List.range 12).map fun k => ptD (f k))), some (.lst (ps.map ptD)), a, b] ∧ Pts 24 ps ∧ ps.Nodup ∧ (1 ≤ k → 1 ≤ ps.length) ∧ ps.length ≤ k) → ∃ σ', (zbj (σ.set 7 (some d)) = .ok (.nx σ') ∨ zbj (σ.set 7 (some d)) = .ok (.ct σ')) ∧ ∃ ps a b, σ' = [some (.int c), some (.int h), some (.int (n : Int)), some (.int (r1 % 4)), some (.int (r2 % n)), some (.lst ((List.range 12).map fun k => ptD (f k))), some (.lst (ps.map ptD)), a, b] ∧ Pts 24 ps ∧ ps.Nodup ∧ (1 ≤ k + 1 → 1 ≤ ps.length) ∧ ps.length ≤ k + 1 := by
  rintro k d σ hd ⟨ps, a, b, rfl, h1, h2, h3, h4⟩
  have hk : k < n := by
   have := (List.getElem?_eq_some_iff.mp hd).1
   simpa [zg4] using this
  obtain rfl : d = .int (k : Int) := by
   unfold zg4 at hd
   rw [List.getElem?_map, List.getElem?_range hk] at hd
   have := Option.some.inj hd
   rw [← this]; simp
  obtain ⟨qs, y8, e, a1, a2, a3, a4⟩ := zlv (h := h) (way := r1 % 4) (off := r2 % n) (c := c) (n := n) (x8 := b) hf (show k < 12 by omega) (by omega) ⟨off0, by omega⟩ h1 h2 (by omega)
  exact ⟨_, .inl e, qs, _, _, rfl, a1, a2, fun _ => a3, by omega⟩
 rw [zgN]; unfold zdi; walk_at "ev"
 rw [e0]; walk_at "ev"
 rw [za1 _ _ (by decide)]; walk_at "ev"
 rw [hn]
 unfold zeO; walk_at "ev"
 rw [e1]; walk_at "ev"
 rw [za1 _ _ (by decide)]; walk_at "ev"
 unfold zeN; walk_at "ev"
 rw [e2]; walk_at "ev"
 rw [za1 _ _ nn]; walk_at "ev"
 unfold zeM; walk_at "ev"
 rw [show zit [.int 12] = .ok ((List.range 12).map fun k : Nat => D.int (k : Int)) from rfl, lc_mapP (g := fun k => ptD (f k)) (by simp) (fun a ha => by walk_at "ev"; exact (hf a (by have := List.mem_range.mp ha; omega)).1)]; walk_at "ev"
 unfold zeL; walk_at "ev"
 unfold zeK; walk_at "ev"
 rw [ziT _ (znk (by omega) (by omega)), Int.toNat_natCast]; walk_at "ev"
 obtain ⟨σ', e, ps, a, b, rfl, h1, h2, h3, h4⟩ := zkR (i := 7) (fb := zbj) (fun k σ => ∃ ps a b, σ = [some (.int c), some (.int h), some (.int (n : Int)), some (.int (r1 % 4)), some (.int (r2 % n)), some (.lst ((List.range 12).map fun k => ptD (f k))), some (.lst (ps.map ptD)), a, b] ∧ Pts 24 ps ∧ ps.Nodup ∧ (1 ≤ k → 1 ≤ ps.length) ∧ ps.length ≤ k) _ turn [some (.int c), some (.int h), some (.int (n : Int)), some (.int (r1 % 4)), some (.int (r2 % n)), some (.lst ((List.range 12).map fun k => ptD (f k))), some (.lst []), none, none] ⟨[], none, none, rfl, ⟨by simp, by simp⟩, by simp, by omega, by simp⟩
 rw [e]; walk_at "ev"
 unfold zeJ; walk_at "ev"
 have ln : (zg4 0 n).length = n := by simp [zg4]
 rw [ln] at h3 h4
 exact ⟨ps, rfl, h1, h2, h3 n1.1, by omega⟩
end LmI
set_option Elab.async false
set_option linter.all false
set_option maxRecDepth 100000
open PySem L2 DL Mir
namespace LmJ
open Mth LmP LmA LmD LmB LmE LmH LmI
def pk (ps : List P3) (k : Nat) : P3 := ps.getD k (0, 0, 1)
theorem zhg {ps : List P3} {k : Nat} (h : k < ps.length) : ps[k]? = some (pk ps k) := by simp [pk, h]
end LmJ
set_option Elab.async false
set_option linter.all false
set_option maxRecDepth 100000
open PySem L2 DL Mir
set_option Elab.async false
set_option linter.all false
set_option maxRecDepth 100000
open PySem L2 DL Mir
namespace Lk44
open Mth LmP LmA LmD LmB LmE LmH
def cell (ns : List Int) (k : Nat) : Int := ns.getD k 0
theorem cell_ok (ns : List Int) (k : Nat) : zaS [.lst (ns.map .int), .int (k : Int)] = .ok (.int (cell ns k)) := by
 rw [zft]; unfold zck zdI; walk_at "ev"
 rw [List.length_map]
 by_cases h : k < ns.length
 ·rw [decide_eq_true (by omega)]; walk_at "ev"
  rw [zen (d := .int ns[k]) (by simp [h])]; walk_at "ev"
  simp [cell, h]
 ·rw [decide_eq_false (by omega)]; walk_at "ev"
  simp [cell, h]
end Lk44
set_option Elab.async false
set_option linter.all false
set_option maxRecDepth 100000
open PySem L2 DL Mir
set_option Elab.async false
set_option linter.all false
set_option maxRecDepth 100000
open PySem L2 DL Mir
namespace Lk12
open Mth LmP LmA LmD LmB LmE LmH LmI LmJ
theorem ne_same {d : D} (h : zdx 9 d = true) : gNe d d = .ok (.bl false) := by
 rw [zky (by unfold zlG; rw [h]; rfl), zhC 9 _ h]; rfl
end Lk12
set_option Elab.async false
set_option linter.all false
set_option maxRecDepth 100000
open PySem L2 DL Mir
set_option Elab.async false
set_option linter.all false
set_option maxRecDepth 100000
open PySem L2 DL Mir
namespace Lk02
open Mth LmP LmA LmD LmB
def wh : D → Bool
 | .int _ => true
 | _ => false
def Pl (d : D) : Prop := (zj6 d).isSome = true
theorem ze0 (d : D) (h : Pl d) : zbX [d] = .ok (.bl (wh d)) := by
 rw [zeC]; unfold zcW
 cases d with
 | cls c => cases h
 | ty c => cases h
 | exc c as => cases h
 | _ => rfl
structure Odd3 (a b c : D) : Prop where
 pa : Pl a
 pb : Pl b
 pc : Pl c
 no : (wh a && wh b && wh c) = false
theorem znT {a b c : D} (h : Odd3 a b c) : za9 [.tup [a, b, c]] = .ok (.bl false) := by
 rw [zdm]; unfold zbU; walk_at "ev"
 rw [zkU (g := fun d => .bl (wh d)) (by simp) (fun d hd => ?_)]
 ·walk_at "ev"
  rw [show [a, b, c].map (fun d => D.bl (wh d)) = ([wh a, wh b, wh c] : List Bool).map D.bl from rfl, zhX, show ([wh a, wh b, wh c] : List Bool).all id = (wh a && wh b && wh c) by simp [Bool.and_assoc], h.no]; walk_at "ev"
 ·simp only [List.mem_cons, List.not_mem_nil, or_false] at hd
  rcases hd with rfl | rfl | rfl <;> walk_at "ev"
  ·exact ze0 _ h.pa
  ·exact ze0 _ h.pb
  ·exact ze0 _ h.pc
theorem is_place_odd {a b c : D} (h : Odd3 a b c) : zam [.tup [a, b, c]] = .ok (.bl false) := by
 rw [zba]; unfold zbi zcb zca; walk_at "ev"
 rw [znT h]; walk_at "ev"
theorem list_no (ds : List D) : zam [.lst ds] = .ok (.bl false) := by
 rw [zba]; unfold zbi zcb zca; walk_at "ev"
end Lk02
set_option Elab.async false
set_option linter.all false
set_option maxRecDepth 100000
open PySem L2 DL Mir
namespace LmQ
open Mth LmP LmA LmD LmB LmE LmH LmI LmJ
theorem zjA (keys : Nat → List Int) : ∀ (n : Nat) (ks : List Int), ks ∈ zfB keys n ↔ ∃ j, j < n ∧ keys j = ks
 | 0, ks => ⟨(fun h => by cases h), (fun ⟨j, h, _⟩ => absurd h (by omega))⟩
 | n + 1, ks => by
  show ks ∈ zhM (zfB keys n) (keys n) ↔ _
  have ih := zjA keys n
  have e : ks ∈ zhM (zfB keys n) (keys n) ↔ ks ∈ zfB keys n ∨ ks = keys n := by
   unfold zhM
   split
   ·rename_i hin
    exact ⟨.inl, fun h => h.elim id fun z => by rw [z]; exact hin⟩
   ·rw [List.mem_cons]; exact ⟨fun h => h.elim .inr .inl, fun h => h.elim .inr .inl⟩
  rw [e, ih]
  constructor
  ·rintro (⟨j, h1, h2⟩ | h)
   ·exact ⟨j, by omega, h2⟩
   ·exact ⟨n, by omega, h.symm⟩
  ·rintro ⟨j, h1, h2⟩
   by_cases z : j = n
   ·subst z; exact .inr h2.symm
   ·exact .inl ⟨j, by omega, h2⟩
theorem znU (keys : Nat → List Int) : ∀ n : Nat, (zfB keys n).length ≤ n
 | 0 => Nat.le_refl _
 | n + 1 => by
  have := znU keys n
  show (zhM (zfB keys n) (keys n)).length ≤ _
  unfold zhM; split
  ·omega
  ·rw [List.length_cons]; omega
theorem znV (keys : Nat → List Int) : ∀ n : Nat, (∀ i j, i < j → j < n → keys i ≠ keys j) → (zfB keys n).length = n
 | 0, _ => rfl
 | n + 1, h => by
  have ih := znV keys n fun i j h1 h2 => h i j h1 (by omega)
  show (zhM (zfB keys n) (keys n)).length = _
  unfold zhM
  rw [if_neg, List.length_cons, ih]
  rw [zjA]
  rintro ⟨j, h1, h2⟩
  exact h j n h1 (by omega) h2
theorem znW (keys : Nat → List Int) : ∀ (n i j : Nat), i < j → j < n → keys i = keys j → (zfB keys n).length < n
 | 0, i, j, _, h, _ => absurd h (by omega)
 | n + 1, i, j, h1, h2, h3 => by
  have l := znU keys n
  show (zhM (zfB keys n) (keys n)).length < _
  by_cases z : j = n
  ·subst z
   unfold zhM
   rw [if_pos ((zjA keys j _).mpr ⟨i, h1, h3⟩)]; omega
  ·have := znW keys n i j h1 (by omega) h3
   unfold zhM; split
   ·omega
   ·rw [List.length_cons]; omega
theorem zo3 {ps : List P3} {k : Nat} (h : k < ps.length) : (ps.map key).getD k [] = key (pk ps k) := by
 rw [List.getD_eq_getElem?_getD, List.getElem?_map, zhg h]; rfl
theorem zry {ps : List P3} (nd : ps.Nodup) : (zf4 (ps.map key)).length = ps.length := by
 unfold zf4
 rw [znV, List.length_map]
 intro i j h1 h2
 rw [List.length_map] at h2
 rw [zo3 (by omega), zo3 h2]
 intro e
 have e := zrx e
 have a1 := zhg (ps := ps) (k := i) (by omega)
 have a2 := zhg h2
 rw [e, ← a2] at a1
 exact absurd ((List.getElem?_inj (by omega) nd).mp a1) (by omega)
theorem zo4 {ps : List P3} {i j : Nat} (h1 : i < j) (h2 : j < ps.length) (e : pk ps i = pk ps j) : (zf4 (ps.map key)).length < ps.length := by
 unfold zf4
 rw [List.length_map]
 exact znW _ _ i j h1 h2 (by rw [zo3 (by omega), zo3 h2, e])
theorem zi8 (f : DSt → R D) (σ : DSt) : zhN f σ = (f σ).bind zdC := rfl
theorem zlw {ps : List P3} (h4 : (zf4 (ps.map key)).length ≤ 18) : zdC (.lst (ps.map ptD)) = .ok (.int (zf4 (ps.map key)).length) := by
 show (match zbI (ps.map ptD) with | some kss => (bif Nat.ble (zf4 kss).length 18 then R.ok (D.int (zf4 kss).length) else .bad) | none => .bad) = _
 rw [zkZ]
 show (bif Nat.ble (zf4 (ps.map key)).length 18 then R.ok (D.int (zf4 (ps.map key)).length) else .bad) = _
 rw [show Nat.ble (zf4 (ps.map key)).length 18 = true from by rw [Nat.ble_eq]; omega]; rfl
theorem zrz (kss : List (List Int)) : (zf4 kss).length ≤ kss.length := znU _ _
theorem zlx {n : Nat} {ps : List P3} (h : Pts n ps) (hn : n ≤ 1000) (h1 : 1 ≤ ps.length) (h12 : ps.length ≤ 12) : zap [.lst (ps.map ptD)] = .ok (.bl (decide (((zf4 (ps.map key)).length : Int) = (ps.length : Int)))) := by
 rw [zbD]; unfold zbb; walk_at "ev"
 rw [show zbZ = .int 12 from rfl]; walk_at "ev"
 rw [List.length_map, show (decide (1 ≤ (ps.length : Int)) && decide ((ps.length : Int) ≤ 12)) = true from by rw [decide_eq_true (by omega), decide_eq_true (by omega)]; rfl]; walk_at "ev"
 unfold zcy; walk_at "ev"
 rw [lc_mapP (g := fun _ => .bl true) (by omega) (fun p hp => ?_)]
 ·walk_at "ev"
  rw [show ps.map (fun _ => D.bl true) = (ps.map fun _ => true).map D.bl from by rw [List.map_map]; rfl, zhX, show (ps.map fun _ => true).all id = true from by rw [List.all_map, List.all_eq_true]; intro _ _; rfl]; walk_at "ev"
  unfold zdE; walk_at "ev"
  rw [zi8]; walk_at "ev"
  rw [show (R.ok (D.lst (ps.map ptD))).bind zdC = .ok (.int (zf4 (ps.map key)).length) from zlw (by have := zrz (ps.map key); rw [List.length_map] at this; omega), List.length_map]; walk_at "ev"
 ·walk_at "ev"
  exact zdP (h.bd p hp) (h.nrm p hp) (by omega)
open Classical in
theorem zo5 {ds : List D} (h1 : 1 ≤ ds.length) (h12 : ds.length ≤ 12) (hp : ∀ d ∈ ds, ∃ b, zam [d] = .ok (.bl b)) {w : D} (hw : w ∈ ds) (hn : zam [w] = .ok (.bl false)) : zap [.lst ds] = .ok (.bl false) := by
 rw [zbD]; unfold zbb; walk_at "ev"
 rw [show zbZ = .int 12 from rfl]; walk_at "ev"
 rw [show (decide (1 ≤ (ds.length : Int)) && decide ((ds.length : Int) ≤ 12)) = true from by rw [decide_eq_true (by omega), decide_eq_true (by omega)]; rfl]; walk_at "ev"
 unfold zcy; walk_at "ev"
 rw [zkU (g := fun d => .bl (decide (zam [d] = .ok (.bl true)))) (by omega) (fun d hd => ?_)]
 ·walk_at "ev"
  rw [show ds.map (fun d => D.bl (decide (zam [d] = .ok (.bl true)))) = (ds.map fun d => decide (zam [d] = .ok (.bl true))).map D.bl from by rw [List.map_map]; rfl, zhX, show (ds.map fun d => decide (zam [d] = .ok (.bl true))).all id = false from ?_]; · walk_at "ev"
  rw [List.all_map]
  refine List.all_eq_false.mpr ⟨w, hw, ?_⟩
  show ¬ (id (decide (zam [w] = .ok (.bl true))) = true)
  rw [hn]; simp
 ·walk_at "ev"
  obtain ⟨b, e⟩ := hp d hd
  rw [e]
  cases b <;> simp
end LmQ
set_option Elab.async false
set_option linter.all false
set_option maxRecDepth 100000
open PySem L2 DL Mir
namespace Lk45
open Mth LmP LmA LmD LmB LmE LmH LmI LmJ LmQ
theorem no_0 : zam [.tup [.int 0, .int 0, .int 0]] = .ok (.bl false) := zlu
theorem no_o {d : D} (h : d = .non ∨ d = .str "a") : zam [d] = .ok (.bl false) := by
 rcases h with rfl | rfl <;> (rw [zba]; unfold zbi; rfl)
theorem no_l (ds : List D) : zam [.lst ds] = .ok (.bl false) := Lk02.list_no ds
theorem no_2 (x y : D) : zam [.tup [x, y]] = .ok (.bl false) := by
 rw [zba]; unfold zbi; rfl
theorem no_4 (x y z u : D) : zam [.tup [x, y, z, u]] = .ok (.bl false) := by
 rw [zba]; unfold zbi; rfl
theorem zqm {w : D} (hw : w = .bl true ∨ w = .str "1") (y z : Int) : zam [.tup [w, .int y, .int z]] = .ok (.bl false) := by
 rcases hw with rfl | rfl <;> exact Lk02.is_place_odd ⟨rfl, rfl, rfl, rfl⟩
theorem ztt {ps : List P3} (h : ¬ ps.Nodup) : ∃ i j, i < j ∧ j < ps.length ∧ pk ps i = pk ps j := by
 apply Classical.byContradiction
 intro z
 apply h
 refine List.pairwise_iff_getElem.mpr fun i j hi hj hij e => z ⟨i, j, hij, hj, ?_⟩
 have a1 := zhg hi
 have a2 := zhg hj
 rw [List.getElem?_eq_getElem hi] at a1
 rw [List.getElem?_eq_getElem hj] at a2
 rw [← Option.some.inj a1, ← Option.some.inj a2, e]
end Lk45
set_option Elab.async false
set_option linter.all false
set_option maxRecDepth 100000
open PySem L2 DL Mir
namespace LmL
open Mth LmP LmA LmD LmB LmE LmH LmI LmJ
theorem eSl_from (fe f : DSt → R D) (σ : DSt) (ds : List D) (n : Nat) (h1 : fe σ = .ok (.lst ds)) (h2 : f σ = .ok (.int (n : Int))) : eSl fe (zdA f) zfp σ = .ok (.lst (ds.drop n)) := by
 unfold eSl zfp zdA
 rw [h1, h2]
 show R.ok (D.lst (zlH ds (some (n : Int)) none)) = _
 unfold zlH
 rw [HT.sIx_none, HT.sIx_nat]
 congr 2
 by_cases h : n ≤ ds.length
 ·rw [Nat.min_eq_left h, List.take_of_length_le (by rw [List.length_drop]; omega)]
 ·rw [Nat.min_eq_right (by omega), List.drop_of_length_le (by omega), List.drop_of_length_le (by omega)]; simp
end LmL
set_option Elab.async false
set_option linter.all false
set_option maxRecDepth 100000
open PySem L2 DL Mir
namespace Lk11
open Mth LmP LmA LmD LmB LmE LmH LmI LmJ LmQ Lk45
abbrev nf : D := .exc "NoFloor" []
theorem zuT : zcl [.exc "NoFloor" [], .int 2] = .ok (.bl true) := by
 rw [zhW]; unfold zdX zfe zfd zfc zfb zfa ze9; walk_at "ev"
 simp only [zbF (show zer "NoFloor" "NoPlace" = some false by decide +kernel), zbF (show zer "NoFloor" "Same" = some false by decide +kernel), zbF (show zer "NoFloor" "NoFloor" = some true by decide +kernel), zbF (show zer "NoFloor" "Endless" = some false by decide +kernel), zbF (show zer "NoFloor" "NoDeed" = some false by decide +kernel), zbF (show zer "NoFloor" "NoText" = some false by decide +kernel), zbF (show zer "NoFloor" "NoName" = some false by decide +kernel), zbF (show zer "NoFloor" "TooMany" = some false by decide +kernel), zbF (show zer "NoFloor" "NoChange" = some false by decide +kernel), zbF (show zer "NoFloor" "NoFrame" = some false by decide +kernel), zbF (show zer "NoFloor" "NoValue" = some false by decide +kernel), zbF (show zer "NoFloor" "Unlike" = some false by decide +kernel), zbF (show zer "NoFloor" "NoRatio" = some false by decide +kernel), zbF (show zer "NoFloor" "NoBow" = some false by decide +kernel), zbF (show zer "NoFloor" "NoRow" = some false by decide +kernel)]
 walk_at "ev"
 rfl
theorem zo6 {p : P3} (hp : Nrm p) (bp : BP 24 p) {k : Int} (hk : k = 2 ∨ k = -1) : zam [ptD (tms k p)] = .ok (.bl false) := by
 have k0 : k ≠ 0 := by omega
 have k1 : k ≠ 1 := by omega
 have bk : B 4 k := B.of (k := 2) (by omega)
 have bt : BP 28 (tms k p) := B.tms bk bp
 have nz := zme k0 hp.nz
 have e : low (tms k p) = p := by rw [zgX k0 hp.nz, hp.low]
 show zam [t3 (tms k p).1 (tms k p).2.1 (tms k p).2.2] = _
 rw [zhf bt.x bt.y bt.z nz (by decide), decide_eq_false]
 rintro ⟨h1, h2, h3⟩
 have q : low (tms k p) = tms k p := Prod.ext h1 (Prod.ext h2 h3)
 rw [e] at q
 have z : ∀ x : Int, x = k * x → x = 0 := fun x hx => by
  have : (k - 1) * x = 0 := by rw [Int.sub_mul, ← hx]; omega
  exact (Int.mul_eq_zero.mp this).resolve_left (by omega)
 exact hp.nz ⟨z _ (congrArg Prod.fst q), z _ (congrArg (fun p : P3 => p.2.1) q), z _ (congrArg (fun p : P3 => p.2.2) q)⟩
theorem zk0 {d : D} (h : zap [d] = .ok (.bl false)) : zaJ [d] = .err nf := by
 rw [zdF]; unfold zcd; walk_at "ev"
 rw [h]; walk_at "ev"
theorem zo7 {d : D} (h : zap [d] = .ok (.bl true)) : zaJ [d] = .ok .non := by
 rw [zdF]; unfold zcd; walk_at "ev"
 rw [h]; walk_at "ev"
theorem zgs {d : D} (h : zap [d] = .ok (.bl false)) : zaD [d] = .err nf := by
 rw [zfs]; unfold zcj; walk_at "ev"
 rw [zk0 h]; walk_at "ev"
theorem zo8 {d : D} (h : zap [d] = .ok (.bl false)) : za6 [d] = .err nf := by
 rw [zgd]; unfold zcL; walk_at "ev"
 rw [zgs h]; walk_at "ev"
theorem znX {d : D} (h : zap [d] = .ok (.bl false)) : zdH [d] = .err nf := by
 rw [zls]; unfold zhU; walk_at "ev"
 rw [zgs h]; rfl
theorem zdY {n : Str} {d : D} (e : ∀ x2 x3 : Option D, zeB 0 [("look_at", zaJ), ("frame_of", zaD), ("kind_of", za6), ("comes", zdH)] (zac (zah 1) zal) [some (.cls n), some d, x2, x3] = .err nf) : zaw [.cls n, d] = .ok (.bl true) := by
 rw [zd0]; unfold zbv; walk_at "ev"
 unfold zcC; walk_at "ev"
 rw [e]; walk_at "ev"
 rw [zoP _ _ _ _ _ _ (show zer "NoFloor" "ChalkError" = some true by decide +kernel)]; walk_at "ev"
 unfold zcB; walk_at "ev"
 rw [zuT]; walk_at "ev"
theorem zfD {d : D} {b : Bool} (h1 : zaU [d] = .ok (.bl b)) (h2 : zap [d] = .ok (.bl b)) : zao [d] = .ok (.bl true) := by
 rw [zeZ]; unfold zb5; walk_at "ev"
 rw [h1]; walk_at "ev"
 unfold zds; walk_at "ev"
 rw [h2]; walk_at "ev"
 unfold zdr; walk_at "ev"
 rw [show (!(b == b)) = false from by cases b <;> rfl]; walk_at "ev"
 unfold zdq; walk_at "ev"
 cases b with
 | true =>
  walk_at "ev"
  rw [zo7 h2]; walk_at "ev"
 | false =>
  walk_at "ev"
  unfold zdp; walk_at "ev"
  have r1 : zaw [.cls "look_at", d] = .ok (.bl true) := zdY fun _ _ => zk0 h2
  have r2 : zaw [.cls "frame_of", d] = .ok (.bl true) := zdY fun _ _ => zgs h2
  have r3 : zaw [.cls "kind_of", d] = .ok (.bl true) := zdY fun _ _ => zo8 h2
  have r4 : zaw [.cls "comes", d] = .ok (.bl true) := zdY fun _ _ => znX h2
  unfold zcX; walk_at "ev"
  rw [r1]; walk_at "ev"
  rw [r2]; walk_at "ev"
  rw [r3]; walk_at "ev"
  rw [r4]; walk_at "ev"
  unfold zdo; walk_at "ev"
theorem lp_3 {n : Nat} {p : P3} (h : BP n p) (hn : n ≤ 9000) (hz : Nz p) : zaA [ptD p] = .ok (.bl (decide (low p = p))) := by
 have hl := znQ h hz hn
 have ne0 : ¬ (p.1 = 0 ∧ p.2.1 = 0 ∧ p.2.2 = 0) := fun z => by
  have := zqk p.1 p.2.1 p.2.2
  rw [decide_eq_true z, decide_eq_true hz] at this
  cases this
 have el : lcK 1 [0] (.ok [.int p.1, .int p.2.1, .int p.2.2]) zaL (zfx (zaB (zaE zaX (zac (zah 0) zal)))) (zah 0) [some (ptD p)] = .ok [] := by
  rw [zcV (p := fun _ => false) (g := id) (by simp) (fun d hd => ?_) (fun d hd h => by cases h)]
  ·rfl
  ·simp only [List.mem_cons, List.not_mem_nil, or_false] at hd
   rcases hd with rfl | rfl | rfl <;> (walk_at "ev"; rw [zeq]; walk_at "ev")
 rw [za2]; unfold zaN
 rw [zey, zhK, show (eOr (zfx (zaB (zbB (g2 zcu) (zac (zah 0) (zac (eC (.ty "tuple")) zal))))) (zaB (eOp gNe (zbB ze3 (zac (zah 0) zal)) (eC (.int 3))))) [some (ptD p)] = .ok false from rfl, zre]; walk_at "ev"
 unfold zbc; walk_at "ev"
 rw [el]; walk_at "ev"
 rw [show gNe (.lst []) (.lst []) = .ok (.bl false) from rfl]; walk_at "ev"
 rw [decide_eq_false ne0]; walk_at "ev"
 unfold zcz; walk_at "ev"
 rw [hl]; walk_at "ev"
 congr 2
 exact decide_eq_decide.mpr (eqP (low p) p)
theorem zrA {n : Nat} {p : P3} (h : BP n p) (hn : n ≤ 9000) (hp : Nrm p) : zaA [ptD p] = .ok (.bl true) := by
 rw [lp_3 h hn hp.nz, hp.low, decide_eq_true rfl]
structure Bad (w : D) : Prop where
 pl : zam [w] = .ok (.bl false)
 lp : zaA [w] = .ok (.bl false)
theorem zo9 {w : D} (h : (eOr (zfx (zaB (zbB (g2 zcu) (zac (zah 0) (zac (eC (.ty "tuple")) zal))))) (zaB (eOp gNe (zbB ze3 (zac (zah 0) zal)) (eC (.int 3))))) [some w] = .ok true) : zaA [w] = .ok (.bl false) := by
 rw [za2]; unfold zaN
 rw [zey, zhK, h, zrd]; walk_at "ev"
theorem zuU : Bad (.tup [.int 0, .int 0, .int 0]) := ⟨no_0, by
 rw [za2]; unfold zaN zbc; walk_at "ev"
 have el : ∀ σ, lcK 1 [0] (.ok [D.int 0, .int 0, .int 0]) zaL (zfx (zaB (zaE zaX (zac (zah 0) zal)))) (zah 0) σ = .ok [] := fun σ => by
  rw [zcV (p := fun _ => false) (g := id) (by simp) (fun d hd => ?_) (fun d hd h => by cases h)]
  ·rfl
  ·simp only [List.mem_cons, List.not_mem_nil, or_false] at hd
   rcases hd with rfl | rfl | rfl <;> (walk_at "ev"; rw [zeq]; walk_at "ev")
 rw [el]; walk_at "ev"
 rw [show gNe (.lst []) (.lst []) = .ok (.bl false) from rfl]; walk_at "ev"
 rw [show decide (True ∧ True ∧ True) = true from by decide]; walk_at "ev"⟩
theorem zuV : Bad .non := ⟨no_o (.inl rfl), zo9 rfl⟩
theorem ztu (ds : List D) : Bad (.lst ds) := ⟨no_l ds, zo9 rfl⟩
theorem zuW (x y : D) : Bad (.tup [x, y]) := ⟨no_2 x y, zo9 rfl⟩
theorem zuX (x y z u : D) : Bad (.tup [x, y, z, u]) := ⟨no_4 x y z u, zo9 rfl⟩
theorem ztv {p : P3} (hp : Nrm p) (bp : BP 24 p) {k : Int} (hk : k = 2 ∨ k = -1) : Bad (ptD (tms k p)) := by
 have k0 : k ≠ 0 := by omega
 have bk : B 4 k := B.of (k := 2) (by omega)
 have bt : BP 28 (tms k p) := B.tms bk bp
 have nz := zme k0 hp.nz
 have e : low (tms k p) = p := by rw [zgX k0 hp.nz, hp.low]
 refine ⟨zo6 hp bp hk, ?_⟩
 rw [lp_3 bt (by decide) nz, decide_eq_false]
 intro q
 rw [e] at q
 have z : ∀ x : Int, x = k * x → x = 0 := fun x hx => by
  have : (k - 1) * x = 0 := by rw [Int.sub_mul, ← hx]; omega
  exact (Int.mul_eq_zero.mp this).resolve_left (by omega)
 exact hp.nz ⟨z _ (congrArg Prod.fst q), z _ (congrArg (fun p : P3 => p.2.1) q), z _ (congrArg (fun p : P3 => p.2.2) q)⟩
theorem zrB {a b c : D} (h : (a = .bl true ∧ b = .int 0 ∧ c = .int 1) ∨ (a = .str "1" ∧ b = .int 0 ∧ c = .int 1) ∨ (a = .int 0 ∧ b = .int 1 ∧ c = .bl false)) : Bad (.tup [a, b, c]) := by
 have el : ∀ σ : DSt, ∃ x xs, lcK 1 [0] (.ok [a, b, c]) zaL (zfx (zaB (zaE zaX (zac (zah 0) zal)))) (zah 0) σ = .ok (x :: xs) ∧ gNe (.lst (x :: xs)) (.lst []) = .ok (.bl true) := fun σ => by
  have wb : ∀ b, zaX [.bl b] = .ok (.bl false) := fun b => by rw [zcR]; unfold zb1; rfl
  have ws : ∀ s, zaX [.str s] = .ok (.bl false) := fun b => by rw [zcR]; unfold zb1; rfl
  rw [zcV (p := fun d => match d with | .int _ => false | _ => true) (g := id) (by simp) (fun d hd => ?_) (fun d hd h => rfl)]
  ·rcases h with ⟨rfl, rfl, rfl⟩ | ⟨rfl, rfl, rfl⟩ | ⟨rfl, rfl, rfl⟩ <;> exact ⟨_, _, rfl, rfl⟩
  ·simp only [List.mem_cons, List.not_mem_nil, or_false] at hd
   rcases h with ⟨rfl, rfl, rfl⟩ | ⟨rfl, rfl, rfl⟩ | ⟨rfl, rfl, rfl⟩ <;> rcases hd with rfl | rfl | rfl <;> (walk_at "ev"; first | rw [zeq] | rw [wb] | rw [ws]) <;> walk_at "ev"
 refine ⟨?_, ?_⟩
 ·rcases h with ⟨rfl, rfl, rfl⟩ | ⟨rfl, rfl, rfl⟩ | ⟨rfl, rfl, rfl⟩
  ·exact zqm (.inl rfl) 0 1
  ·exact zqm (.inr rfl) 0 1
  ·exact Lk02.is_place_odd ⟨rfl, rfl, rfl, rfl⟩
 ·rw [za2]; unfold zaN zbc; walk_at "ev"
  obtain ⟨x, xs, e1, e2⟩ := el [some (.tup [a, b, c])]
  rw [e1]; walk_at "ev"
  rw [e2]; walk_at "ev"
theorem zuY {ds : List D} {k : Nat} {p : P3} {qs : List P3} (hk : ds[k]? = some (ptD p)) (hp : Nrm p) (bp : BP 24 p) (hq : ds.take k = qs.map ptD) : zaH [some (.lst ds), some (.int (k : Int))] = bif decide (p ∈ qs) then .ok (.rt (.bl false)) else .ok (.nx [some (.lst ds), some (.int (k : Int))]) := by
 unfold zaH; walk_at "ev"
 rw [zen hk]; walk_at "ev"
 rw [zrA bp (by decide) hp]; walk_at "ev"
 rw [zen hk, Lk42.eSl_to _ _ _ ds k rfl rfl, hq]; walk_at "ev"
 rw [show gIn (ptD p) (.lst (qs.map ptD)) = .ok (.bl (decide (p ∈ qs))) from by
  show (bif in2 (ptD p) (qs.map ptD) then R.ok (D.bl (inD (ptD p) (qs.map ptD))) else .bad) = _
  rw [Lk42.in2_pts, Lk42.inD_pts]; rfl]; walk_at "ev"
 cases decide (p ∈ qs) <;> walk_at "ev"
theorem zuZ {ds : List D} {k : Nat} {w : D} (hk : ds[k]? = some w) (hb : Bad w) : zaH [some (.lst ds), some (.int (k : Int))] = .ok (.rt (.bl false)) := by
 unfold zaH; walk_at "ev"
 rw [zen hk]; walk_at "ev"
 rw [hb.lp]; walk_at "ev"
theorem zhY {ps : List P3} (za4 : List D) (h : Pts 24 ps) (r : Nat) : ∀ (m j : Nat), j + m = ps.length → (ps.take j).Nodup → ∀ x : Option D,
  (¬ ps.Nodup ∧ zgG [1] zaL zaH ((List.range' j (m + r)).map fun k : Nat => D.int (k : Int)) [some (.lst (ps.map ptD ++ za4)), x] = .ok (.rt (.bl false))) ∨
  (ps.Nodup ∧ ∃ y, zgG [1] zaL zaH ((List.range' j (m + r)).map fun k : Nat => D.int (k : Int)) [some (.lst (ps.map ptD ++ za4)), x] = zgG [1] zaL zaH ((List.range' ps.length r).map fun k : Nat => D.int (k : Int)) [some (.lst (ps.map ptD ++ za4)), y])
 | 0, j, hj, nd, x => by
  have e : j = ps.length := by omega
  subst e
  rw [List.take_length] at nd
  exact .inr ⟨nd, x, by rw [Nat.zero_add]⟩
 | m + 1, j, hj, nd, x => by
  have hlt : j < ps.length := by omega
  have hk : (ps.map ptD ++ za4)[j]? = some (ptD ps[j]) := by rw [List.getElem?_append_left (by rw [List.length_map]; exact hlt), List.getElem?_map, List.getElem?_eq_getElem hlt]; rfl
  have hq : (ps.map ptD ++ za4).take j = (ps.take j).map ptD := by rw [List.take_append_of_le_length (by rw [List.length_map]; omega), List.map_take]
  have g := zuY hk (h.nrm _ (List.getElem_mem hlt)) (h.bd _ (List.getElem_mem hlt)) hq
  rw [show m + 1 + r = (m + r) + 1 by omega, List.range'_succ, List.map_cons, zdf, show List.set [some (D.lst (ps.map ptD ++ za4)), x] 1 (some (.int (j : Int))) = [some (.lst (ps.map ptD ++ za4)), some (.int (j : Int))] from rfl, g]
  by_cases hm : ps[j] ∈ ps.take j
  ·refine .inl ⟨fun z => ?_, by rw [decide_eq_true hm]; rfl⟩
   have e := List.take_append_drop j ps
   rw [List.drop_eq_getElem_cons hlt] at e
   rw [← e] at z
   exact absurd rfl ((List.nodup_append.mp z).2.2 _ hm _ List.mem_cons_self)
  ·rw [decide_eq_false hm]
   have nd' : (ps.take (j + 1)).Nodup := by
    rw [List.take_succ_eq_append_getElem hlt]
    exact List.nodup_append.mpr ⟨nd, by simp, fun a ha b hb => by rw [List.mem_singleton.mp hb]; exact fun z => hm (z ▸ ha)⟩
   exact zhY za4 h r m (j + 1) (by omega) nd' _
theorem zk1 {ds : List D} (h1 : 1 ≤ ds.length) (h12 : ds.length ≤ 12) : zaU [.lst ds] = fin (zq8 (zgG [1] zaL zaH ((List.range' 0 ds.length).map fun k : Nat => D.int (k : Int)) [some (.lst ds), none]) zcS) := by
 rw [zcA]; unfold zbK; walk_at "ev"
 rw [show (decide (1 ≤ (ds.length : Int)) && decide ((ds.length : Int) ≤ 12)) = true from by rw [decide_eq_true (by omega), decide_eq_true (by omega)]; rfl]; walk_at "ev"
 unfold zea; walk_at "ev"
 rw [ziT _ (znk (by omega) (by omega)), show zg4 0 ((ds.length : Nat) : Int).toNat = (List.range' 0 ds.length).map fun k : Nat => D.int (k : Int) from by
  unfold zg4
  rw [Int.toNat_natCast, List.range_eq_range']
  exact List.map_congr_left fun k _ => by rw [Int.zero_add]]; walk_at "ev"
theorem zpa {ps : List P3} (h : Pts 24 ps) (h1 : 1 ≤ ps.length) (h12 : ps.length ≤ 12) : zaU [.lst (ps.map ptD)] = .ok (.bl (decide ps.Nodup)) := by
 rw [zk1 (by rw [List.length_map]; exact h1) (by rw [List.length_map]; exact h12), List.length_map]
 have := zhY [] h 0 ps.length 0 (by omega) (by simp) none
 rw [List.append_nil, Nat.add_zero] at this
 rcases this with ⟨nd, e⟩ | ⟨nd, y, e⟩
 ·rw [e, decide_eq_false nd]; rfl
 ·rw [e, decide_eq_true nd]
  unfold zcS
  rfl
theorem zrC {ps : List P3} {w : D} {za4 : List D} (h : Pts 24 ps) (hw : Bad w) (h12 : ps.length + 1 + za4.length ≤ 12) : zaU [.lst (ps.map ptD ++ w :: za4)] = .ok (.bl false) := by
 have ll : (ps.map ptD ++ w :: za4).length = ps.length + (za4.length + 1) := by rw [List.length_append, List.length_map, List.length_cons]
 rw [zk1 (by omega) (by omega), ll]
 rcases zhY (w :: za4) h (za4.length + 1) ps.length 0 (by omega) (by simp) none with ⟨nd, e⟩ | ⟨nd, y, e⟩
 ·rw [e]; rfl
 ·rw [e, List.range'_succ, List.map_cons, zdf, show List.set [some (D.lst (ps.map ptD ++ w :: za4)), y] 1 (some (.int (ps.length : Int))) = [some (.lst (ps.map ptD ++ w :: za4)), some (.int (ps.length : Int))] from rfl, zuZ (by rw [List.getElem?_append_right (by rw [List.length_map]; omega), List.length_map, Nat.sub_self]; rfl) hw]
  rfl
theorem zrD {ds : List D} (h : ds.length = 0 ∨ 12 < ds.length) : zaU [.lst ds] = .ok (.bl false) := by
 rw [zcA]; unfold zbK; walk_at "ev"
 rw [show (decide (1 ≤ (ds.length : Int)) && decide ((ds.length : Int) ≤ 12)) = false from by
  rcases h with h | h
  ·rw [decide_eq_false (by omega)]; rfl
  ·rw [decide_eq_false (show ¬ ((ds.length : Int) ≤ 12) by omega), Bool.and_false]]; walk_at "ev"
theorem znY {ds : List D} (h : ds.length = 0 ∨ 12 < ds.length) : zap [.lst ds] = .ok (.bl false) := by
 rw [zbD]; unfold zbb; walk_at "ev"
 rw [show zbZ = .int 12 from rfl]; walk_at "ev"
 rw [show (decide (1 ≤ (ds.length : Int)) && decide ((ds.length : Int) ≤ 12)) = false from by
  rcases h with h | h
  ·rw [decide_eq_false (by omega)]; rfl
  ·rw [decide_eq_false (show ¬ ((ds.length : Int) ≤ 12) by omega), Bool.and_false]]; walk_at "ev"
theorem zgt {ds : List D} (h : ds.length = 0 ∨ 12 < ds.length) : zao [.lst ds] = .ok (.bl true) := zfD (zrD h) (znY h)
theorem zc0 {ps : List P3} (h : Pts 24 ps) (h1 : 1 ≤ ps.length) : zao [.lst (ps.map ptD)] = .ok (.bl true) := by
 by_cases h12 : ps.length ≤ 12
 ·refine zfD (zpa h h1 h12) ?_
  rw [zlx h (by decide) h1 h12]
  congr 2
  refine decide_eq_decide.mpr ⟨fun e => Classical.byContradiction fun nd => ?_, fun nd => by rw [zry nd]⟩
  obtain ⟨i, j, a, b, c⟩ := ztt nd
  have := zo4 a b c
  omega
 ·exact zgt (.inr (by rw [List.length_map]; omega))
theorem zi9 {ps qs : List P3} {w : D} (h : Pts 24 ps) (h' : Pts 24 qs) (hw : Bad w) : zao [.lst (ps.map ptD ++ w :: qs.map ptD)] = .ok (.bl true) := by
 by_cases h12 : ps.length + 1 + qs.length ≤ 12
 ·refine zfD (zrC h hw (by rw [List.length_map]; exact h12)) (zo5 (w := w) ?_ ?_ (fun d hd => ?_) (by simp) hw.pl)
  ·rw [List.length_append, List.length_cons]; omega
  ·rw [List.length_append, List.length_map, List.length_cons, List.length_map]; omega
  ·rcases List.mem_append.mp hd with hd | hd
   ·obtain ⟨p, hp, rfl⟩ := List.mem_map.mp hd
    exact ⟨true, zdP (h.bd p hp) (h.nrm p hp) (by decide)⟩
   ·rcases List.mem_cons.mp hd with rfl | hd
    ·exact ⟨false, hw.pl⟩
    ·obtain ⟨p, hp, rfl⟩ := List.mem_map.mp hd
     exact ⟨true, zdP (h'.bd p hp) (h'.nrm p hp) (by decide)⟩
 ·exact zgt (.inr (by rw [List.length_append, List.length_map, List.length_cons, List.length_map]; omega))
theorem zdj {d : D} (h : (∃ xs, d = .tup xs) ∨ d = .non ∨ d = .int 5 ∨ d = .dct [] [] ∨ d = .str "a" ∨ d = .bl true) : zao [d] = .ok (.bl true) := by
 refine zfD (b := false) ?_ ?_
 ·rcases h with ⟨xs, rfl⟩ | rfl | rfl | rfl | rfl | rfl <;> (rw [zcA]; unfold zbK; rfl)
 ·rcases h with ⟨xs, rfl⟩ | rfl | rfl | rfl | rfl | rfl <;> (rw [zbD]; unfold zbb; rfl)
theorem znZ (ds : List D) (h : few ds.length = true) : zoM (.ok ds) = .ok ds := by
 show (bif few ds.length then _ else _) = _
 rw [h]; rfl
def Peg (w : D) : Prop := zdx 8 w = true ∧ (Bad w ∨ ∃ p : P3, w = ptD p ∧ Nrm p ∧ BP 24 p)
theorem ztw {ps : List P3} (h : Pts 24 ps) (h1 : 1 ≤ ps.length) (c : Int) : ∃ w, zbL [.lst (ps.map ptD), .int c] = .ok w ∧ Peg w := by
 obtain ⟨r1, e1, g1, _⟩ := zbw c 1 (by decide) (by decide)
 obtain ⟨r2, e2, g2, _⟩ := zbw c 2 (by decide) (by decide)
 obtain ⟨q4, e4, n4, b4⟩ := zb2 c 4 (by decide)
 obtain ⟨q5, e5, n5, b5⟩ := zb2 c 5 (by decide)
 obtain ⟨n, hn, en⟩ : ∃ n : Nat, n < ps.length ∧ r1 % (ps.length : Int) = (n : Int) := ⟨(r1 % (ps.length : Int)).toNat, by have := Int.emod_lt_of_pos r1 (b := (ps.length : Int)) (by omega); have := Int.emod_nonneg r1 (b := (ps.length : Int)) (by omega); omega, by have := Int.emod_nonneg r1 (b := (ps.length : Int)) (by omega); omega⟩
 obtain ⟨j, hj, ej⟩ : ∃ j : Nat, j < 13 ∧ r2 % 13 = (j : Int) := ⟨(r2 % 13).toNat, by omega, by omega⟩
 have np := h.nrm _ (List.getElem_mem hn)
 have bp := h.bd _ (List.getElem_mem hn)
 have ip : gIx (.lst (ps.map ptD)) (.int (n : Int)) = .ok (ptD ps[n]) := zen (by rw [List.getElem?_map, List.getElem?_eq_getElem hn]; rfl)
 generalize ps[n] = p at np bp ip
 have m2 : ∀ {i : Int}, B 24 i → zel (.int 2) (.int i) = .ok (.int (2 * i)) := fun hi => zdd _ _ (by decide) (zgr hi (by decide))
 rw [zgm]; unfold zcN; walk_at "ev"
 rw [e1]; walk_at "ev"
 rw [List.length_map, za1 _ _ (by omega), en]; walk_at "ev"
 rw [ip, show ptD p = .tup [.int p.1, .int p.2.1, .int p.2.2] from rfl]; walk_at "ev"
 unfold zed; walk_at "ev"
 rw [show zaV [.int c, .int 4] = _ from e4, m2 bp.x, m2 bp.y, m2 bp.z]; walk_at "ev"
 rw [znZ _ (by rfl)]; walk_at "ev"
 unfold zec; walk_at "ev"
 rw [show zaV [.int c, .int 5] = _ from e5]; walk_at "ev"
 rw [Lk42.gAdd_ll (by simp)]; walk_at "ev"
 unfold zeb; walk_at "ev"
 rw [e2]; walk_at "ev"
 rw [za1 _ 13 (by decide), ej]; walk_at "ev"
 have neg : (D.tup [.int (0 - p.1), .int (0 - p.2.1), .int (0 - p.2.2)]) = ptD (tms (-1) p) := by
  rw [show (0 - p.1) = -1 * p.1 by omega, show (0 - p.2.1) = -1 * p.2.1 by omega, show (0 - p.2.2) = -1 * p.2.2 by omega]; rfl
 rcases (show j = 0 ∨ j = 1 ∨ j = 2 ∨ j = 3 ∨ j = 4 ∨ j = 5 ∨ j = 6 ∨ j = 7 ∨ j = 8 ∨ j = 9 ∨ j = 10 ∨ j = 11 ∨ j = 12 by omega) with rfl | rfl | rfl | rfl | rfl | rfl | rfl | rfl | rfl | rfl | rfl | rfl | rfl
 ·exact ⟨_, rfl, rfl, .inr ⟨p, rfl, np, bp⟩⟩
 ·exact ⟨_, rfl, rfl, .inr ⟨q4, rfl, n4, b4.mono (by decide)⟩⟩
 ·exact ⟨_, rfl, rfl, .inl (ztv np bp (.inl rfl))⟩
 ·exact ⟨_, rfl, rfl, .inl (by rw [neg]; exact ztv np bp (.inr rfl))⟩
 ·exact ⟨_, rfl, rfl, .inl zuU⟩
 ·exact ⟨_, rfl, rfl, .inl (ztu _)⟩
 ·exact ⟨_, rfl, rfl, .inl (zuW _ _)⟩
 ·exact ⟨_, rfl, rfl, .inl zuV⟩
 ·exact ⟨_, rfl, rfl, .inl (zuX _ _ _ _)⟩
 ·exact ⟨_, rfl, rfl, .inl (zrB (.inl ⟨rfl, rfl, rfl⟩))⟩
 ·exact ⟨_, rfl, rfl, .inl (zrB (.inr (.inl ⟨rfl, rfl, rfl⟩)))⟩
 ·exact ⟨_, rfl, rfl, .inl (zrB (.inr (.inr ⟨rfl, rfl, rfl⟩)))⟩
 ·exact ⟨_, rfl, rfl, .inr ⟨q5, rfl, n5, b5.mono (by decide)⟩⟩
theorem zn0 {ps qs : List P3} {w : D} (h : Pts 24 ps) (h' : Pts 24 qs) (hw : Peg w) : zao [.lst (ps.map ptD ++ w :: qs.map ptD)] = .ok (.bl true) := by
 rcases hw.2 with hb | ⟨p, rfl, np, bp⟩
 ·exact zi9 h h' hb
 ·rw [show ps.map ptD ++ ptD p :: qs.map ptD = (ps ++ p :: qs).map ptD from by rw [List.map_append]; rfl]
  refine zc0 ⟨fun q hq => ?_, fun q hq => ?_⟩ (by rw [List.length_append, List.length_cons]; omega)
  ·rcases List.mem_append.mp hq with hq | hq
   ·exact h.nrm q hq
   ·rcases List.mem_cons.mp hq with rfl | hq
    ·exact np
    ·exact h'.nrm q hq
  ·rcases List.mem_append.mp hq with hq | hq
   ·exact h.bd q hq
   ·rcases List.mem_cons.mp hq with rfl | hq
    ·exact bp
    ·exact h'.bd q hq
theorem zrE {ps qs : List P3} {w : D} (hw : Peg w) : zdx 9 (.lst (ps.map ptD ++ w :: qs.map ptD)) = true := by
 show (ps.map ptD ++ w :: qs.map ptD).all (zdx 8) = true
 rw [List.all_eq_true]
 intro d hd
 rcases List.mem_append.mp hd with hd | hd
 ·obtain ⟨p, _, rfl⟩ := List.mem_map.mp hd; rfl
 ·rcases List.mem_cons.mp hd with rfl | hd
  ·exact hw.1
  ·obtain ⟨p, _, rfl⟩ := List.mem_map.mp hd; rfl
theorem zhZ {n k : Nat} {ps : List P3} (h : Pts n ps) : Pts n (ps.take k) := ⟨fun p hp => h.nrm p (List.mem_of_mem_take hp), fun p hp => h.bd p (List.mem_of_mem_take hp)⟩
theorem zpb {n k : Nat} {ps : List P3} (h : Pts n ps) : Pts n (ps.drop k) := ⟨fun p hp => h.nrm p (List.mem_of_mem_drop hp), fun p hp => h.bd p (List.mem_of_mem_drop hp)⟩
theorem zk2 {ps : List P3} (h : Pts 24 ps) (h1 : 1 ≤ ps.length) (h12 : ps.length ≤ 12) (c : Int) (n s : Nat) (S x5 x6 x7 : Option D) : ∃ y5 y6, zcD [S, some (.lst (ps.map ptD)), some (.int c), some (.int (n : Int)), some (.int (s : Int)), x5, x6, x7] = .ok (.nx [S, some (.lst (ps.map ptD)), some (.int c), some (.int (n : Int)), some (.int (s : Int)), y5, y6, x7]) := by
 obtain ⟨w, ew, pw⟩ := ztw h h1 c
 unfold zcD; walk_at "ev"
 rw [Lk42.eSl_to _ _ _ (ps.map ptD) n rfl rfl, LmL.eSl_from _ _ _ (ps.map ptD) (n + s) rfl rfl, ew]; walk_at "ev"
 rw [Lk42.gAdd_ll (by rw [List.length_take, List.length_map, List.length_singleton]; omega)]; walk_at "ev"
 rw [Lk42.gAdd_ll (by rw [List.length_append, List.length_take, List.length_drop, List.length_map, List.length_singleton]; omega)]; walk_at "ev"
 rw [List.append_assoc, List.singleton_append, ← List.map_take, ← List.map_drop]
 unfold zcZ; walk_at "ev"
 rw [show zoG [.lst ((ps.take n).map ptD ++ w :: (ps.drop (n + s)).map ptD)] = .ok ((ps.take n).map ptD ++ w :: (ps.drop (n + s)).map ptD) from rfl]; walk_at "ev"
 unfold zcY; walk_at "ev"
 rw [zn0 (zhZ h) (zpb h) pw]; walk_at "ev"
 rw [Lk12.ne_same (zrE pw)]; walk_at "ev"
 exact ⟨_, _, rfl⟩
theorem zrF {ps : List P3} (h : Pts 24 ps) (h1 : 1 ≤ ps.length) (h12 : ps.length ≤ 12) (c : Int) (S x3 x4 x5 x6 x7 : Option D) : ∃ y3 y4 y5 y6, zbM [S, some (.lst (ps.map ptD)), some (.int c), x3, x4, x5, x6, x7] = .ok (.nx [S, some (.lst (ps.map ptD)), some (.int c), y3, y4, y5, y6, x7]) := by
 obtain ⟨r, e, g, _⟩ := zbw c 0 (by decide) (by decide)
 obtain ⟨n, en⟩ : ∃ n : Nat, r % ((ps.length : Int) + 1) = (n : Int) := ⟨(r % ((ps.length : Int) + 1)).toNat, by have := Int.emod_nonneg r (b := (ps.length : Int) + 1) (by omega); omega⟩
 unfold zbM; walk_at "ev"
 rw [e]; walk_at "ev"
 rw [List.length_map, za1 _ _ (by omega), en]; walk_at "ev"
 unfold zee; walk_at "ev"
 rw [ziT _ (by decide), show zg4 0 (2 : Int).toNat = [.int ((0 : Nat) : Int), .int ((1 : Nat) : Int)] from rfl]; walk_at "ev"
 obtain ⟨a5, a6, ea⟩ := zk2 h h1 h12 c n 0 S x5 x6 x7
 rw [ea]; walk_at "ev"
 obtain ⟨b5, b6, eb⟩ := zk2 h h1 h12 c n 1 S a5 a6 x7
 rw [eb]; walk_at "ev"
 exact ⟨_, _, _, _, rfl⟩
theorem ztx : ∀ k : Nat, k < 13 → Nrm ((k : Int), 1, 1) ∧ BP 24 ((k : Int), 1, 1) := by
 intro k hk
 rcases (show k = 0 ∨ k = 1 ∨ k = 2 ∨ k = 3 ∨ k = 4 ∨ k = 5 ∨ k = 6 ∨ k = 7 ∨ k = 8 ∨ k = 9 ∨ k = 10 ∨ k = 11 ∨ k = 12 by omega) with rfl | rfl | rfl | rfl | rfl | rfl | rfl | rfl | rfl | rfl | rfl | rfl | rfl <;> exact ⟨⟨by decide, by decide +kernel⟩, ⟨B.of (k := 12) (by decide), B.of (k := 1) (by decide), B.of (k := 1) (by decide)⟩⟩
def gs : List P3 := (List.range 13).map fun k : Nat => ((k : Int), 1, 1)
theorem zn1 : Pts 24 gs := ⟨fun p hp => by
 obtain ⟨k, hk, rfl⟩ := List.mem_map.mp hp
 exact (ztx k (List.mem_range.mp hk)).1, fun p hp => by
 obtain ⟨k, hk, rfl⟩ := List.mem_map.mp hp
 exact (ztx k (List.mem_range.mp hk)).2⟩
theorem zpc (σ : DSt) : eLC 1 [0] (zcU zit (zac (eC (.int 13)) zal)) zaL zcQ (zfk (zac (zah 0) (zac (eC (.int 1)) (zac (eC (.int 1)) zal)))) σ = .ok (gs.map ptD) := by
 walk_at "ev"
 rw [ziT _ (by decide), show zg4 0 (13 : Int).toNat = (List.range 13).map (fun k : Nat => D.int (0 + (k : Int))) from rfl, LmB.lc_mapP (g := fun k : Nat => .tup [.int (0 + (k : Int)), .int 1, .int 1]) (by decide) (fun k _ => rfl)]
 rfl
theorem t3f {d : D} {S P x2 x3 x4 x6 x7 : Option D} (h : zao [d] = .ok (.bl true)) : zdO [S, P, x2, x3, x4, some d, x6, x7] = .ok (.nx [S, P, x2, x3, x4, some d, x6, x7]) := by
 unfold zdO; walk_at "ev"
 rw [h]; walk_at "ev"
theorem law_ok (ns : List Int) (hl : ns.length ≤ 63) : zeQ [.lst (ns.map .int)] = .ok (.bl true) := by
 obtain ⟨ps, ef, hp, nd, h1, h12⟩ := zo2 (Lk44.cell ns 0) (Lk44.cell ns 1)
 have hm : ∀ a b : Nat, (((ns.map D.int).drop (min a (ns.map D.int).length)).take (min b (ns.map D.int).length - min a (ns.map D.int).length)) = (((ns.drop (min a ns.length)).take (min b ns.length - min a ns.length)).map D.int) := fun a b => by rw [List.length_map, List.map_take, List.map_drop]
 have sl : ∀ (fe f g : DSt → R D) (σ : DSt) (ds : List D) (a b : Nat), fe σ = .ok (.lst ds) → f σ = .ok (.int (a : Int)) → g σ = .ok (.int (b : Int)) → eSl fe (zdA f) (zdA g) σ = .ok (.lst ((ds.drop (min a ds.length)).take (min b ds.length - min a ds.length))) := fun fe f g σ ds a b h1 h2 h3 => by
  unfold eSl zdA
  rw [h1, h2, h3]
  show R.ok (D.lst (zlH ds (some (a : Int)) (some (b : Int)))) = _
  unfold zlH
  rw [HT.sIx_nat, HT.sIx_nat]
 rw [zi5]; unfold zeP; walk_at "ev"
 rw [show zaS [.lst (ns.map .int), .int 0] = _ from Lk44.cell_ok ns 0, show zaS [.lst (ns.map .int), .int 1] = _ from Lk44.cell_ok ns 1]; walk_at "ev"
 rw [ef]; walk_at "ev"
 unfold zgq; walk_at "ev"
 rw [sl _ _ _ _ (ns.map .int) 2 32 rfl rfl rfl, hm]; walk_at "ev"
 rw [Lk42.gAdd_ll (by simp only [List.length_map, List.length_take, List.length_drop, List.length_cons, List.length_nil]; omega)]; walk_at "ev"
 rw [show ∀ es : List Int, es.map D.int ++ [D.int 1] = (es ++ [1]).map D.int from fun es => by rw [List.map_append]; rfl]
 generalize (ns.drop (min 2 ns.length)).take (min 32 ns.length - min 2 ns.length) ++ [1] = es
 have turn : ∀ d ∈ es.map D.int, ∀ σ, (∃ x2 x3 x4 x5 x6, σ = [some (.lst (ns.map .int)), some (.lst (ps.map ptD)), x2, x3, x4, x5, x6, none]) → ∃ σ', (zbM (σ.set 2 (some d)) = .ok (.nx σ') ∨ zbM (σ.set 2 (some d)) = .ok (.ct σ')) ∧ ∃ x2 x3 x4 x5 x6, σ' = [some (.lst (ns.map .int)), some (.lst (ps.map ptD)), x2, x3, x4, x5, x6, none] := by
  rintro d hd σ ⟨x2, x3, x4, x5, x6, rfl⟩
  obtain ⟨c, _, rfl⟩ := List.mem_map.mp hd
  obtain ⟨y3, y4, y5, y6, e⟩ := zrF hp h1 h12 c (some (.lst (ns.map .int))) x3 x4 x5 x6 none
  exact ⟨_, .inl e, _, _, _, _, _, rfl⟩
 obtain ⟨σ', e, x2, x3, x4, x5, x6, rfl⟩ := zkQ (i := 2) (fb := zbM) _ _ turn [some (.lst (ns.map .int)), some (.lst (ps.map ptD)), none, none, none, none, none, none] ⟨_, _, _, _, _, rfl⟩
 rw [e]; walk_at "ev"
 unfold zgp
 rw [zey, zhL, zhI, zpc]; walk_at "ev"
 unfold zgo; walk_at "ev"
 rw [Lk42.eSl_to _ _ _ (gs.map ptD) 12 rfl rfl, Lk42.eSl_to _ _ _ (gs.map ptD) 1 rfl rfl]
 rw [show ziA [.lst (ps.map ptD)] = .ok (.tup (ps.map ptD)) from rfl, show gIx (.lst (ps.map ptD)) (.int 0) = .ok (ptD (pk ps 0)) from zen (j := 0) (by rw [List.getElem?_map, zhg (by omega)]; rfl)]; walk_at "ev"
 rw [znZ _ (by rfl)]; walk_at "ev"
 have all : ∀ d ∈ [D.lst (gs.map ptD), .lst ((gs.map ptD).take 12), .lst ((gs.map ptD).take 1), .lst [], .tup (ps.map ptD), .non, .int 5, .dct [] [], .str "a", .bl true, ptD (pk ps 0), .lst [.lst (ps.map ptD)]], zao [d] = .ok (.bl true) := by
  intro d hd
  simp only [List.mem_cons, List.not_mem_nil, or_false] at hd
  rcases hd with rfl | rfl | rfl | rfl | rfl | rfl | rfl | rfl | rfl | rfl | rfl | rfl
  ·exact zc0 zn1 (by decide)
  ·rw [← List.map_take]; exact zc0 (zhZ zn1) (by decide)
  ·rw [← List.map_take]; exact zc0 (zhZ zn1) (by decide)
  ·exact zgt (.inl rfl)
  ·exact zdj (.inl ⟨_, rfl⟩)
  ·exact zdj (.inr (.inl rfl))
  ·exact zdj (.inr (.inr (.inl rfl)))
  ·exact zdj (.inr (.inr (.inr (.inl rfl))))
  ·exact zdj (.inr (.inr (.inr (.inr (.inl rfl)))))
  ·exact zdj (.inr (.inr (.inr (.inr (.inr rfl)))))
  ·exact zdj (.inl ⟨_, rfl⟩)
  ·exact zi9 (ps := []) (qs := []) ⟨by simp, by simp⟩ ⟨by simp, by simp⟩ (ztu _)
 rw [t3f (all _ (by simp))]; walk_at "ev"
 rw [t3f (all _ (by simp))]; walk_at "ev"
 rw [t3f (all _ (by simp))]; walk_at "ev"
 rw [t3f (all _ (by simp))]; walk_at "ev"
 rw [t3f (all _ (by simp))]; walk_at "ev"
 rw [t3f (all _ (by simp))]; walk_at "ev"
 rw [t3f (all _ (by simp))]; walk_at "ev"
 rw [t3f (all _ (by simp))]; walk_at "ev"
 rw [t3f (all _ (by simp))]; walk_at "ev"
 rw [t3f (all _ (by simp))]; walk_at "ev"
 rw [t3f (all _ (by simp))]; walk_at "ev"
 rw [t3f (all _ (by simp))]; walk_at "ev"
 unfold zgn; walk_at "ev"
 rw [zc0 hp h1]; walk_at "ev"
end Lk11
end
section
set_option Elab.async false
set_option linter.all false
set_option maxRecDepth 100000
namespace Kx
open PySem L2 DL Mir
local macro_rules | `(tactic| walk_at "o3") => `(tactic| (first | exact Or.inl rfl | exact Or.inr (Or.inl rfl) | exact Or.inr (Or.inr rfl)))
local macro_rules | `(tactic| walk_at "o2") => `(tactic| (first | exact Or.inl rfl | exact Or.inr rfl))
local macro_rules | `(tactic| walk_at "o4") => `(tactic| (first | exact .inl rfl | exact .inr rfl | assumption))
def top (i : Nat) : Stmt := PySem.Challenge.pw_chalkline_k11_what_is_a_floor.main.body.getD i (.Pass ⟨0, 0, 0, 0⟩)
abbrev zcm : Stmt := top 40
theorem zgu : zay ["_law_cell", "_law_k", "_law_number"] ["_law_cell", "_law_k"] (zaf zcm) := ⟨rfl, rfl, rfl, by decide +kernel, rfl, by decide +kernel, by decide +kernel⟩
set_option maxHeartbeats 4000000 in
theorem zjB {P : Program} {w : World} {K : PySem.W.Frag} {mg : Str → Option Value} {base : Heap} {f : Addr} {fd : FuncData} {k : Nat} (F : Fun K "_law_mix" "_law_mix" zcm f fd) (hm : mg "_law_mix" = some (.ref f)) (hb : za8 K fd ["_law_cell", "_law_k"] []) : zav P w K mg base (k + 1) "_law_mix" zaG := by
 refine zav.mk' (own' := []) F zgu hm hb rfl rfl fun X E hX C L => ?_
 obtain ⟨cdv, A, outer, s, H, rfl⟩ := hX
 have nd := zgu.nd
 exact (@zag _ _ _ _ _ _ _ _ _ _ (@zbE _ _ _ _ _ _ _ _ _ _ _ _ (@zaF _ _ _ _ _ _ _ _ _ (@zux _) (@zab _ _ 0 _ _ (by rfl) (by walk_at "o3") (by decide) (by decide)) (@zsQ _ _ _ _ _ _ _ (@zae _ _ _ _ _) (@zae _ _ _ _ _)) (by first | exact zak _ (by decide) (by decide) | rfl)) (@zai _ _ _ _ _ _ _ (@zat _ _ _ _ _ _ _ _ (@zby _ _ _ _ _ _ _ (@zsR _ _ _ _ _ _ _ (@zab _ _ 0 _ _ (by rfl) (by walk_at "o3") (by decide) (by decide)) (@za5 _ _ _ _ _ _ _ (@zae _ _ _ _ _) (@zab _ _ 1 _ _ (by rfl) (by walk_at "o3") (by decide) (by decide)))) (@zae _ _ _ _ _)))) (@zaC _ _ _ _)) (@zag _ _ _ _ _ _ _ _ _ _ (@zas _ _ _ _ _ _ _ _ 2 nd (@zby _ _ _ _ _ _ _ (@za5 _ _ _ _ _ _ _ (@za3 _ _ _ _ _ _ _ (@za3 _ _ _ _ _ _ _ (@za3 _ _ _ _ _ _ _ (@zby _ _ _ _ _ _ _ (@zab _ _ 0 _ _ (by rfl) (by walk_at "o3") (by decide) (by decide)) (@zae _ _ _ _ _)) (@za5 _ _ _ _ _ _ _ (@za5 _ _ _ _ _ _ _ (@zae _ _ _ _ _) (@zab _ _ 1 _ _ (by rfl) (by walk_at "o3") (by decide) (by decide))) (@zab _ _ 1 _ _ (by rfl) (by walk_at "o3") (by decide) (by decide)))) (@zab _ _ 1 _ _ (by rfl) (by walk_at "o3") (by decide) (by decide))) (@zae _ _ _ _ _)) (@zae _ _ _ _ _)) (@zae _ _ _ _ _)) (by rfl) (by walk_at "o2") (by rfl) (by walk_at "o4")) (@zag _ _ _ _ _ _ _ _ _ _ (@zas _ _ _ _ _ _ _ _ 2 nd (@zby _ _ _ _ _ _ _ (@za3 _ _ _ _ _ _ _ (@za3 _ _ _ _ _ _ _ (@za5 _ _ _ _ _ _ _ (@zab _ _ 2 _ _ (by rfl) (by walk_at "o3") (by decide) (by decide)) (@zab _ _ 2 _ _ (by rfl) (by walk_at "o3") (by decide) (by decide))) (@za5 _ _ _ _ _ _ _ (@zae _ _ _ _ _) (@zab _ _ 1 _ _ (by rfl) (by walk_at "o3") (by decide) (by decide)))) (@zae _ _ _ _ _)) (@zae _ _ _ _ _)) (by rfl) (by walk_at "o2") (by rfl) (by walk_at "o4")) (@zai _ _ _ _ _ _ _ (@zat _ _ _ _ _ _ _ _ (@zby _ _ _ _ _ _ _ (@za5 _ _ _ _ _ _ _ (@zab _ _ 2 _ _ (by rfl) (by walk_at "o3") (by decide) (by decide)) (@zab _ _ 2 _ _ (by rfl) (by walk_at "o3") (by decide) (by decide))) (@zae _ _ _ _ _)))))))
abbrev zbN : Stmt := top 41
theorem zgv : zay ["_law_some", "_law_by", "_law_number", "_law_rest", "_law_ends"] ["_law_some"] (zaf zbN) := ⟨rfl, rfl, rfl, by decide +kernel, rfl, by decide +kernel, by decide +kernel⟩
set_option maxHeartbeats 4000000 in
theorem zjC {P : Program} {w : World} {K : PySem.W.Frag} {mg : Str → Option Value} {base : Heap} {f : Addr} {fd : FuncData} {k : Nat} (F : Fun K "_law_low" "_law_low" zbN f fd) (hm : mg "_law_low" = some (.ref f)) (hb : za8 K fd ["_law_some"] []) (n_abs : mg "abs" = none) (n_tuple : mg "tuple" = none) : zav P w K mg base (k + 1) "_law_low" zbh := by
 refine zav.mk' (own' := []) F zgv hm hb rfl rfl fun X E hX C L => ?_
 obtain ⟨cdv, A, outer, s, H, rfl⟩ := hX
 have nd := zgv.nd
 exact (@zag _ _ _ _ _ _ _ _ _ _ (@zas _ _ _ _ _ _ _ _ 1 nd (@zae _ _ _ _ _) (by rfl) (by walk_at "o2") (by rfl) (by walk_at "o4")) (@zag _ _ _ _ _ _ _ _ _ _ (@zcI _ _ _ _ _ _ _ _ _ _ _ _ L C.calm (@zcT _ _ _ _ _ (@zab _ _ 0 _ _ (by rfl) (by walk_at "o3") (by decide) (by decide))) (@zaM _ _ 2 _ nd (by rfl) (by walk_at "o2") (by walk_at "o4")) (@zag _ _ _ _ _ _ _ _ _ _ (@zas _ _ _ _ _ _ _ _ 3 nd (@zmE _ _ _ _ _ _ _ n_abs (@zaa _ _ _ _ _ _ (@zab _ _ 2 _ _ (by rfl) (by walk_at "o3") (by decide) (by decide)) (@zad _ _) (by rfl)) (by rfl) (by rfl) (by rfl)) (by rfl) (by walk_at "o2") (by rfl) (by walk_at "o4")) (@zai _ _ _ _ _ _ _ (@zj2 _ _ _ _ _ _ _ _ _ L (@zaF _ _ _ _ _ _ _ _ _ (@zfo _ _ _ C) (@zab _ _ 3 _ _ (by rfl) (by walk_at "o3") (by decide) (by decide)) (@zae _ _ _ _ _) (by first | exact zak _ (by decide) (by decide) | rfl)) (@zai _ _ _ _ _ _ _ (@zpr _ _ _ _ _ _ _ _ _ _ (@zbR _ _ _ _ _ _ (@zaa _ _ _ _ _ _ (@zab _ _ 3 _ _ (by rfl) (by walk_at "o3") (by decide) (by decide)) (@zaa _ _ _ _ _ _ (@zby _ _ _ _ _ _ _ (@zab _ _ 1 _ _ (by rfl) (by walk_at "o3") (by decide) (by decide)) (@zab _ _ 3 _ _ (by rfl) (by walk_at "o3") (by decide) (by decide))) (@zad _ _) (by rfl)) (by rfl))) (@zmt _ _ _ _ [1, 3] 2 C.calm (@zc7 _ _ _ _ _ (@zdy _ _ (1) _ nd rfl (by walk_at "o2") (by walk_at "o4")) (@zc7 _ _ _ _ _ (@zdy _ _ (3) _ nd rfl (by walk_at "o2") (by walk_at "o4")) (@zjh _) (by rfl)) (by rfl)) (by rfl) (by rfl) (by rfl)) (by rfl) (by rfl) (by rfl) (by rfl)))))) (by rfl) (by intro _ ; rfl)) (@zag _ _ _ _ _ _ _ _ _ _ (@zeu _ _ _ _ _ _ _ _ _ _ _ _ _ _ _ _ _ _ _ _ 4 C.calm nd (LC.of (k := 1) (NY := ["_law_number", "_law_some", "_law_by", "?_law_number", "_law_rest", "_law_ends"]) (N := ["_law_some", "_law_by", "_law_number", "_law_rest", "_law_ends"]) (sc0 := (zaf zbN)) rfl rfl (by decide +kernel)) rfl (@zcT _ _ _ _ _ (@zab _ _ 0 _ _ (by rfl) (by walk_at "o3") (by decide) (by decide))) (fun _ _ _ _ nd2 => ⟨(@zaM _ _ 0 _ nd2 (by rfl) (by walk_at "o2") (by walk_at "o4")), (@zfP _ _ _ _ (@zaF _ _ _ _ _ _ _ _ _ (@zfo _ _ _ (C.lc _ _ _ _ _ _)) (@zab _ _ 0 _ _ (by rfl) (by walk_at "o3") (by decide) (by decide)) (@zae _ _ _ _ _) (by first | exact zak _ (by decide) (by decide) | rfl))), (@zab _ _ 0 _ _ (by rfl) (by walk_at "o3") (by decide) (by decide))⟩) (by rfl) (by rfl) (by rfl) (by rfl) (by intro _ ; rfl)) (@zag _ _ _ _ _ _ _ _ _ _ (@zbE _ _ _ _ _ _ _ _ _ _ _ _ (@zaF _ _ _ _ _ _ _ _ _ (@zoz _) (@zaP _ _ _ _ _ _ _ (@zab _ _ 4 _ _ (by rfl) (by walk_at "o3") (by decide) (by decide)) (@zmD _ _ _ _ _ (@zae _ _ _ _ _)) (by intro _ _ ; rfl)) (@zae _ _ _ _ _) (by first | exact zak _ (by decide) (by decide) | rfl)) (@zai _ _ _ _ _ _ _ (@zas _ _ _ _ _ _ _ _ 1 nd (@zdl _ _ _ _ _ _ _ (@zae _ _ _ _ _) (@zab _ _ 1 _ _ (by rfl) (by walk_at "o3") (by decide) (by decide))) (by rfl) (by walk_at "o2") (by rfl) (by walk_at "o4"))) (@zaC _ _ _ _)) (@zai _ _ _ _ _ _ _ (@zat _ _ _ _ _ _ _ _ (@zj5 _ _ _ _ _ _ _ n_tuple (@zaa _ _ _ _ _ _ (@DF.val _ _ _ _ (@zhB _ _ _ _ _ _ _ _ _ _ _ _ _ _ _ C.calm (LC.of (k := 1) (NY := ["_law_number", "_law_some", "_law_by", "?_law_number", "_law_rest", "_law_ends"]) (N := ["_law_some", "_law_by", "_law_number", "_law_rest", "_law_ends"]) (sc0 := (zaf zbN)) rfl rfl (by decide +kernel)) rfl (@zcT _ _ _ _ _ (@zab _ _ 0 _ _ (by rfl) (by walk_at "o3") (by decide) (by decide))) (fun _ _ _ _ nd2 => ⟨(@zaM _ _ 0 _ nd2 (by rfl) (by walk_at "o2") (by walk_at "o4")), (@zc8 _ _), (@zeX _ _ _ _ _ _ _ (@zab _ _ 0 _ _ (by rfl) (by walk_at "o3") (by decide) (by decide)) (@zab _ _ 2 _ _ (by rfl) (by walk_at "o3") (by decide) (by decide)))⟩) (by intro _ ; rfl))) (@zad _ _) (by rfl)) (by rfl) (by rfl) (by rfl))))))))
abbrev zb3 : Stmt := top 42
theorem zff : zay ["_law_cell", "_law_k", "_law_way", "_law_some", "_law_j", "_law_number"] ["_law_cell", "_law_k"] (zaf zb3) := ⟨rfl, rfl, rfl, by decide +kernel, rfl, by decide +kernel, by decide +kernel⟩
set_option maxHeartbeats 4000000 in
theorem zja {P : Program} {w : World} {K : PySem.W.Frag} {mg : Str → Option Value} {base : Heap} {f : Addr} {fd : FuncData} {k : Nat} (F : Fun K "_law_spot" "_law_spot" zb3 f fd) (hm : mg "_law_spot" = some (.ref f)) (hb : za8 K fd ["_law_cell", "_law_k"] []) (n_range : mg "range" = none) (F__law_mix : zav P w K mg base k "_law_mix" zaG) (F__law_low : zav P w K mg base k "_law_low" zbh) : zav P w K mg base (k + 1) "_law_spot" zaV := by
 refine zav.mk' (own' := []) F zff hm hb rfl rfl fun X E hX C L => ?_
 obtain ⟨cdv, A, outer, s, H, rfl⟩ := hX
 have nd := zff.nd
 exact (@zag _ _ _ _ _ _ _ _ _ _ (@zas _ _ _ _ _ _ _ _ 2 nd (@zaj _ _ _ _ _ _ _ _ _ _ C F__law_mix (@zaa _ _ _ _ _ _ (@zab _ _ 0 _ _ (by rfl) (by walk_at "o3") (by decide) (by decide)) (@zaa _ _ _ _ _ _ (@za5 _ _ _ _ _ _ _ (@zae _ _ _ _ _) (@zab _ _ 1 _ _ (by rfl) (by walk_at "o3") (by decide) (by decide))) (@zad _ _) (by rfl)) (by rfl)) (by rfl) (by decide) (by rfl) (by rfl)) (by rfl) (by walk_at "o2") (by rfl) (by walk_at "o4")) (@zag _ _ _ _ _ _ _ _ _ _ (@zjY _ _ _ _ _ _ _ _ _ _ 3 nd (@zbq _ _ _ _ _ (@zad _ _)) (by rfl) (by rfl) (by walk_at "o2") (by rfl) (by walk_at "o4")) (@zag _ _ _ _ _ _ _ _ _ _ (@zcI _ _ _ _ _ _ _ _ _ _ _ _ L C.calm (@zbr _ _ _ _ _ _ _ n_range (@zaa _ _ _ _ _ _ (@zae _ _ _ _ _) (@zad _ _) (by rfl)) (by rfl) (by rfl)) (@zaM _ _ 4 _ nd (by rfl) (by walk_at "o2") (by walk_at "o4")) (@zag _ _ _ _ _ _ _ _ _ _ (@zmw _ _ _ _ _ _ _ _ _ 5 nd (@zaj _ _ _ _ _ _ _ _ _ _ C F__law_mix (@zaa _ _ _ _ _ _ (@zab _ _ 0 _ _ (by rfl) (by walk_at "o3") (by decide) (by decide)) (@zaa _ _ _ _ _ _ (@za3 _ _ _ _ _ _ _ (@za3 _ _ _ _ _ _ _ (@za5 _ _ _ _ _ _ _ (@zae _ _ _ _ _) (@zab _ _ 1 _ _ (by rfl) (by walk_at "o3") (by decide) (by decide))) (@zae _ _ _ _ _)) (@zab _ _ 4 _ _ (by rfl) (by walk_at "o3") (by decide) (by decide))) (@zad _ _) (by rfl)) (by rfl)) (by rfl) (by decide) (by rfl) (by rfl)) (by rfl) (by rfl) (by walk_at "o2") (by rfl) (by walk_at "o4")) (@zai _ _ _ _ _ _ _ (@zj1 _ _ _ _ _ _ _ _ 3 _ _ _ (@zaP _ _ _ _ _ _ _ (@DF.val _ _ _ _ (@zbq _ _ _ _ _ (@zaa _ _ _ _ _ _ (@zdl _ _ _ _ _ _ _ (@zby _ _ _ _ _ _ _ (@zab _ _ 5 _ _ (by rfl) (by walk_at "o3") (by decide) (by decide)) (@zae _ _ _ _ _)) (@zae _ _ _ _ _)) (@zaa _ _ _ _ _ _ (@zdl _ _ _ _ _ _ _ (@zby _ _ _ _ _ _ _ (@zab _ _ 5 _ _ (by rfl) (by walk_at "o3") (by decide) (by decide)) (@zae _ _ _ _ _)) (@zae _ _ _ _ _)) (@zaa _ _ _ _ _ _ (@zdl _ _ _ _ _ _ _ (@zby _ _ _ _ _ _ _ (@zab _ _ 5 _ _ (by rfl) (by walk_at "o3") (by decide) (by decide)) (@zae _ _ _ _ _)) (@zae _ _ _ _ _)) (@zad _ _) (by rfl)) (by rfl)) (by rfl)))) (@zaP _ _ _ _ _ _ _ (@DF.val _ _ _ _ (@zbq _ _ _ _ _ (@zaa _ _ _ _ _ _ (@zae _ _ _ _ _) (@zaa _ _ _ _ _ _ (@zae _ _ _ _ _) (@zaa _ _ _ _ _ _ (@zae _ _ _ _ _) (@zaa _ _ _ _ _ _ (@zae _ _ _ _ _) (@zad _ _) (by rfl)) (by rfl)) (by rfl)) (by rfl)))) (@zby _ _ _ _ _ _ _ (@zab _ _ 2 _ _ (by rfl) (by walk_at "o3") (by decide) (by decide)) (@zae _ _ _ _ _)) (by intro _ _ ; rfl)) (by intro _ _ ; rfl)) (by rfl) (by rfl) (by walk_at "o3") (by decide) (by decide) (by rfl) (by rfl) (by rfl) (by rfl) (by rfl) (by rfl)))) (by rfl) (by intro _ ; rfl)) (@zag _ _ _ _ _ _ _ _ _ _ (@zbE _ _ _ _ _ _ _ _ _ _ _ _ (@zaF _ _ _ _ _ _ _ _ _ (@zew _ _ _ C) (@zby _ _ _ _ _ _ _ (@zeX _ _ _ _ _ _ _ (@zab _ _ 2 _ _ (by rfl) (by walk_at "o3") (by decide) (by decide)) (@zae _ _ _ _ _)) (@zae _ _ _ _ _)) (@zae _ _ _ _ _) (by first | exact zak _ (by decide) (by decide) | rfl)) (@zai _ _ _ _ _ _ _ (@zqi _ _ _ _ _ _ _ _ _ _ _ _ 3 (@zae _ _ _ _ _) (@zae _ _ _ _ _) (by rfl) (by rfl) (by walk_at "o3") (by decide) (by decide) (by intro _ ; rfl) (by rfl) (by rfl) (by rfl))) (@zaC _ _ _ _)) (@zag _ _ _ _ _ _ _ _ _ _ (@zbE _ _ _ _ _ _ _ _ _ _ _ _ (@zaF _ _ _ _ _ _ _ _ _ (@zew _ _ _ C) (@zab _ _ 3 _ _ (by rfl) (by walk_at "o3") (by decide) (by decide)) (@DF.val _ _ _ _ (@zbq _ _ _ _ _ (@zaa _ _ _ _ _ _ (@zae _ _ _ _ _) (@zaa _ _ _ _ _ _ (@zae _ _ _ _ _) (@zaa _ _ _ _ _ _ (@zae _ _ _ _ _) (@zad _ _) (by rfl)) (by rfl)) (by rfl)))) (by first | exact zak _ (by decide) (by decide) | rfl)) (@zag _ _ _ _ _ _ _ _ _ _ (@zqi _ _ _ _ _ _ _ _ _ _ _ _ 3 (@zby _ _ _ _ _ _ _ (@zeX _ _ _ _ _ _ _ (@zab _ _ 2 _ _ (by rfl) (by walk_at "o3") (by decide) (by decide)) (@zae _ _ _ _ _)) (@zae _ _ _ _ _)) (@zae _ _ _ _ _) (by rfl) (by rfl) (by walk_at "o3") (by decide) (by decide) (by intro _ ; rfl) (by rfl) (by rfl) (by rfl)) (@zfQ _ _ _ _ _ _ _ _ 3 (by rfl) (by rfl) (@zaC _ _ _ _))) (@zfQ _ _ _ _ _ _ _ _ 3 (by rfl) (by rfl) (@zaC _ _ _ _))) (@zai _ _ _ _ _ _ _ (@zat _ _ _ _ _ _ _ _ (@zaj _ _ _ _ _ _ _ _ _ _ C F__law_low (@zaa _ _ _ _ _ _ (@zab _ _ 3 _ _ (by rfl) (by walk_at "o3") (by decide) (by decide)) (@zad _ _) (by rfl)) (by rfl) (by decide) (by rfl) (by rfl)))))))))
abbrev zbd : Stmt := top 43
theorem zeg : zay ["_law_one", "_law_two", "_law_s", "_law_t", "_law_some"] ["_law_one", "_law_two", "_law_s", "_law_t"] (zaf zbd) := ⟨rfl, rfl, rfl, by decide +kernel, rfl, by decide +kernel, by decide +kernel⟩
set_option maxHeartbeats 4000000 in
theorem zgO {P : Program} {w : World} {K : PySem.W.Frag} {mg : Str → Option Value} {base : Heap} {f : Addr} {fd : FuncData} {k : Nat} (F : Fun K "_law_on_two" "_law_on_two" zbd f fd) (hm : mg "_law_on_two" = some (.ref f)) (hb : za8 K fd ["_law_one", "_law_two", "_law_s", "_law_t"] []) (n_zip : mg "zip" = none) (F__law_low : zav P w K mg base k "_law_low" zbh) : zav P w K mg base (k + 1) "_law_on_two" zbJ := by
 refine zav.mk' (own' := []) F zeg hm hb rfl rfl fun X E hX C L => ?_
 obtain ⟨cdv, A, outer, s, H, rfl⟩ := hX
 have nd := zeg.nd
 exact (@zag _ _ _ _ _ _ _ _ _ _ (@zeu _ _ _ _ _ _ _ _ _ _ _ _ _ _ _ _ _ _ _ _ 4 C.calm nd (LC.of (k := 2) (NY := ["_law_a", "_law_b", "_law_one", "_law_two", "_law_s", "_law_t", "_law_some"]) (N := ["_law_one", "_law_two", "_law_s", "_law_t", "_law_some"]) (sc0 := (zaf zbd)) rfl rfl (by decide +kernel)) rfl (@zrq _ _ _ _ _ _ _ _ _ _ n_zip (@zaa _ _ _ _ _ _ (@zab _ _ 0 _ _ (by rfl) (by walk_at "o3") (by decide) (by decide)) (@zaa _ _ _ _ _ _ (@zab _ _ 1 _ _ (by rfl) (by walk_at "o3") (by decide) (by decide)) (@zad _ _) (by rfl)) (by rfl)) (by rfl) (by rfl) (by rfl)) (fun _ _ _ _ nd2 => ⟨(@zmt _ _ _ _ [0, 1] 2 (XC.calm (C.lc _ _ _ _ _ _)) (@zc7 _ _ _ _ _ (@zdy _ _ (0) _ nd2 rfl (by walk_at "o2") (by walk_at "o4")) (@zc7 _ _ _ _ _ (@zdy _ _ (1) _ nd2 rfl (by walk_at "o2") (by walk_at "o4")) (@zjh _) (by rfl)) (by rfl)) (by rfl) (by rfl) (by rfl)), (@zc8 _ _), (@za3 _ _ _ _ _ _ _ (@za5 _ _ _ _ _ _ _ (@zab _ _ 4 _ _ (by rfl) (by walk_at "o3") (by decide) (by decide)) (@zab _ _ 0 _ _ (by rfl) (by walk_at "o3") (by decide) (by decide))) (@za5 _ _ _ _ _ _ _ (@zab _ _ 5 _ _ (by rfl) (by walk_at "o3") (by decide) (by decide)) (@zab _ _ 1 _ _ (by rfl) (by walk_at "o3") (by decide) (by decide))))⟩) (by rfl) (by rfl) (by rfl) (by rfl) (by intro _ ; rfl)) (@zag _ _ _ _ _ _ _ _ _ _ (@zbE _ _ _ _ _ _ _ _ _ _ _ _ (@zaF _ _ _ _ _ _ _ _ _ (@zew _ _ _ C) (@zab _ _ 4 _ _ (by rfl) (by walk_at "o3") (by decide) (by decide)) (@DF.val _ _ _ _ (@zbq _ _ _ _ _ (@zaa _ _ _ _ _ _ (@zae _ _ _ _ _) (@zaa _ _ _ _ _ _ (@zae _ _ _ _ _) (@zaa _ _ _ _ _ _ (@zae _ _ _ _ _) (@zad _ _) (by rfl)) (by rfl)) (by rfl)))) (by first | exact zak _ (by decide) (by decide) | rfl)) (@zai _ _ _ _ _ _ _ (@zat _ _ _ _ _ _ _ _ (@zab _ _ 0 _ _ (by rfl) (by walk_at "o3") (by decide) (by decide)))) (@zaC _ _ _ _)) (@zai _ _ _ _ _ _ _ (@zat _ _ _ _ _ _ _ _ (@zaj _ _ _ _ _ _ _ _ _ _ C F__law_low (@zaa _ _ _ _ _ _ (@zab _ _ 4 _ _ (by rfl) (by walk_at "o3") (by decide) (by decide)) (@zad _ _) (by rfl)) (by rfl) (by decide) (by rfl) (by rfl))))))
abbrev zbs : Stmt := top 44
theorem zeS : zay ["_law_cell", "_law_how", "_law_many", "_law_way", "_law_off", "_law_spots", "_law_found", "_law_k", "_law_one"] ["_law_cell", "_law_how"] (zaf zbs) := ⟨rfl, rfl, rfl, by decide +kernel, rfl, by decide +kernel, by decide +kernel⟩
set_option maxHeartbeats 4000000 in
theorem zh0 {P : Program} {w : World} {K : PySem.W.Frag} {mg : Str → Option Value} {base : Heap} {f : Addr} {fd : FuncData} {k : Nat} (F : Fun K "_law_floor" "_law_floor" zbs f fd) (hm : mg "_law_floor" = some (.ref f)) (hb : za8 K fd ["_law_cell", "_law_how"] []) (n_range : mg "range" = none) (F__law_mix : zav P w K mg base k "_law_mix" zaG) (F__law_spot : zav P w K mg base k "_law_spot" zaV) (F__law_on_two : zav P w K mg base k "_law_on_two" zbJ) : zav P w K mg base (k + 1) "_law_floor" zb0 := by
 refine zav.mk' (own' := []) F zeS hm hb rfl rfl fun X E hX C L => ?_
 obtain ⟨cdv, A, outer, s, H, rfl⟩ := hX
 have nd := zeS.nd
 exact (@zag _ _ _ _ _ _ _ _ _ _ (@zas _ _ _ _ _ _ _ _ 2 nd (@za3 _ _ _ _ _ _ _ (@zae _ _ _ _ _) (@zby _ _ _ _ _ _ _ (@zaj _ _ _ _ _ _ _ _ _ _ C F__law_mix (@zaa _ _ _ _ _ _ (@zab _ _ 1 _ _ (by rfl) (by walk_at "o3") (by decide) (by decide)) (@zaa _ _ _ _ _ _ (@zae _ _ _ _ _) (@zad _ _) (by rfl)) (by rfl)) (by rfl) (by decide) (by rfl) (by rfl)) (@zae _ _ _ _ _))) (by rfl) (by walk_at "o2") (by rfl) (by walk_at "o4")) (@zag _ _ _ _ _ _ _ _ _ _ (@zas _ _ _ _ _ _ _ _ 3 nd (@zby _ _ _ _ _ _ _ (@zaj _ _ _ _ _ _ _ _ _ _ C F__law_mix (@zaa _ _ _ _ _ _ (@zab _ _ 1 _ _ (by rfl) (by walk_at "o3") (by decide) (by decide)) (@zaa _ _ _ _ _ _ (@zae _ _ _ _ _) (@zad _ _) (by rfl)) (by rfl)) (by rfl) (by decide) (by rfl) (by rfl)) (@zae _ _ _ _ _)) (by rfl) (by walk_at "o2") (by rfl) (by walk_at "o4")) (@zag _ _ _ _ _ _ _ _ _ _ (@zas _ _ _ _ _ _ _ _ 4 nd (@zby _ _ _ _ _ _ _ (@zaj _ _ _ _ _ _ _ _ _ _ C F__law_mix (@zaa _ _ _ _ _ _ (@zab _ _ 1 _ _ (by rfl) (by walk_at "o3") (by decide) (by decide)) (@zaa _ _ _ _ _ _ (@zae _ _ _ _ _) (@zad _ _) (by rfl)) (by rfl)) (by rfl) (by decide) (by rfl) (by rfl)) (@zab _ _ 2 _ _ (by rfl) (by walk_at "o3") (by decide) (by decide))) (by rfl) (by walk_at "o2") (by rfl) (by walk_at "o4")) (@zag _ _ _ _ _ _ _ _ _ _ (@zeu _ _ _ _ _ _ _ _ _ _ _ _ _ _ _ _ _ _ _ _ 5 C.calm nd (LC.of (k := 1) (NY := ["_law_k", "_law_cell", "_law_how", "_law_many", "_law_way", "_law_off", "_law_spots", "_law_found", "?_law_k", "_law_one"]) (N := ["_law_cell", "_law_how", "_law_many", "_law_way", "_law_off", "_law_spots", "_law_found", "_law_k", "_law_one"]) (sc0 := (zaf zbs)) rfl rfl (by decide +kernel)) rfl (@zbr _ _ _ _ _ _ _ n_range (@zaa _ _ _ _ _ _ (@zae _ _ _ _ _) (@zad _ _) (by rfl)) (by rfl) (by rfl)) (fun _ _ _ _ nd2 => ⟨(@zaM _ _ 0 _ nd2 (by rfl) (by walk_at "o2") (by walk_at "o4")), (@zc8 _ _), (@zaj _ _ _ _ _ _ _ _ _ _ (C.lc _ _ _ _ _ _) F__law_spot (@zaa _ _ _ _ _ _ (@zab _ _ 1 _ _ (by rfl) (by walk_at "o3") (by decide) (by decide)) (@zaa _ _ _ _ _ _ (@zab _ _ 0 _ _ (by rfl) (by walk_at "o3") (by decide) (by decide)) (@zad _ _) (by rfl)) (by rfl)) (by rfl) (by decide) (by rfl) (by rfl))⟩) (by rfl) (by rfl) (by rfl) (by rfl) (by intro _ ; rfl)) (@zag _ _ _ _ _ _ _ _ _ _ (@zjY _ _ _ _ _ _ _ _ _ _ 6 nd (@zbq _ _ _ _ _ (@zad _ _)) (by rfl) (by rfl) (by walk_at "o2") (by rfl) (by walk_at "o4")) (@zag _ _ _ _ _ _ _ _ _ _ (@zcI _ _ _ _ _ _ _ _ _ _ _ _ L C.calm (@zbr _ _ _ _ _ _ _ n_range (@zaa _ _ _ _ _ _ (@zab _ _ 2 _ _ (by rfl) (by walk_at "o3") (by decide) (by decide)) (@zad _ _) (by rfl)) (by rfl) (by rfl)) (@zaM _ _ 7 _ nd (by rfl) (by walk_at "o2") (by walk_at "o4")) (@zag _ _ _ _ _ _ _ _ _ _ (@zmw _ _ _ _ _ _ _ _ _ 8 nd (@zaP _ _ _ _ _ _ _ (@zab _ _ 5 _ _ (by rfl) (by walk_at "o3") (by decide) (by decide)) (@zab _ _ 7 _ _ (by rfl) (by walk_at "o3") (by decide) (by decide)) (by intro _ _ ; rfl)) (by rfl) (by rfl) (by walk_at "o2") (by rfl) (by walk_at "o4")) (@zag _ _ _ _ _ _ _ _ _ _ (@zbE _ _ _ _ _ _ _ _ _ _ _ _ (@DW.dt _ _ _ _ (@zhz _ _ _ _ _ _ _ _ (@DW.dt _ _ _ _ (@zpm _ _ _ _ _ _ _ _ (@zaF _ _ _ _ _ _ _ _ _ (@zoz _) (@zab _ _ 3 _ _ (by rfl) (by walk_at "o3") (by decide) (by decide)) (@zae _ _ _ _ _) (by first | exact zak _ (by decide) (by decide) | rfl)) (@zmp _ _ _ _ _ (@zaF _ _ _ _ _ _ _ _ _ (@zfo _ _ _ C) (@zab _ _ 7 _ _ (by rfl) (by walk_at "o3") (by decide) (by decide)) (@za5 _ _ _ _ _ _ _ (@zab _ _ 4 _ _ (by rfl) (by walk_at "o3") (by decide) (by decide)) (@zab _ _ 3 _ _ (by rfl) (by walk_at "o3") (by decide) (by decide))) (by first | exact zak _ (by decide) (by decide) | rfl))))) (@zet _ _ _ _ _ (@DW.dt _ _ _ _ (@zpm _ _ _ _ _ _ _ _ (@zaF _ _ _ _ _ _ _ _ _ (@zew _ _ _ C) (@zab _ _ 3 _ _ (by rfl) (by walk_at "o3") (by decide) (by decide)) (@zae _ _ _ _ _) (by first | exact zak _ (by decide) (by decide) | rfl)) (@zmp _ _ _ _ _ (@zaF _ _ _ _ _ _ _ _ _ (@zew _ _ _ C) (@zby _ _ _ _ _ _ _ (@zab _ _ 7 _ _ (by rfl) (by walk_at "o3") (by decide) (by decide)) (@zae _ _ _ _ _)) (@zae _ _ _ _ _) (by first | exact zak _ (by decide) (by decide) | rfl)))))))) (@zai _ _ _ _ _ _ _ (@zmw _ _ _ _ _ _ _ _ _ 8 nd (@zaj _ _ _ _ _ _ _ _ _ _ C F__law_on_two (@zaa _ _ _ _ _ _ (@zaP _ _ _ _ _ _ _ (@zab _ _ 5 _ _ (by rfl) (by walk_at "o3") (by decide) (by decide)) (@zae _ _ _ _ _) (by intro _ _ ; rfl)) (@zaa _ _ _ _ _ _ (@zaP _ _ _ _ _ _ _ (@zab _ _ 5 _ _ (by rfl) (by walk_at "o3") (by decide) (by decide)) (@zae _ _ _ _ _) (by intro _ _ ; rfl)) (@zaa _ _ _ _ _ _ (@zdl _ _ _ _ _ _ _ (@zby _ _ _ _ _ _ _ (@zaj _ _ _ _ _ _ _ _ _ _ C F__law_mix (@zaa _ _ _ _ _ _ (@zab _ _ 1 _ _ (by rfl) (by walk_at "o3") (by decide) (by decide)) (@zaa _ _ _ _ _ _ (@za3 _ _ _ _ _ _ _ (@zae _ _ _ _ _) (@za5 _ _ _ _ _ _ _ (@zae _ _ _ _ _) (@zab _ _ 7 _ _ (by rfl) (by walk_at "o3") (by decide) (by decide)))) (@zad _ _) (by rfl)) (by rfl)) (by rfl) (by decide) (by rfl) (by rfl)) (@zae _ _ _ _ _)) (@zae _ _ _ _ _)) (@zaa _ _ _ _ _ _ (@zdl _ _ _ _ _ _ _ (@zby _ _ _ _ _ _ _ (@zaj _ _ _ _ _ _ _ _ _ _ C F__law_mix (@zaa _ _ _ _ _ _ (@zab _ _ 1 _ _ (by rfl) (by walk_at "o3") (by decide) (by decide)) (@zaa _ _ _ _ _ _ (@za3 _ _ _ _ _ _ _ (@zae _ _ _ _ _) (@za5 _ _ _ _ _ _ _ (@zae _ _ _ _ _) (@zab _ _ 7 _ _ (by rfl) (by walk_at "o3") (by decide) (by decide)))) (@zad _ _) (by rfl)) (by rfl)) (by rfl) (by decide) (by rfl) (by rfl)) (@zae _ _ _ _ _)) (@zae _ _ _ _ _)) (@zad _ _) (by rfl)) (by rfl)) (by rfl)) (by rfl)) (by rfl) (by decide) (by rfl) (by rfl)) (by rfl) (by rfl) (by walk_at "o2") (by rfl) (by walk_at "o4"))) (@zaC _ _ _ _)) (@zai _ _ _ _ _ _ _ (@zbE _ _ _ _ _ _ _ _ _ _ _ _ (@zaF _ _ _ _ _ _ _ _ _ (@ztk _ _ _ C) (@zab _ _ 8 _ _ (by rfl) (by walk_at "o3") (by decide) (by decide)) (@zab _ _ 6 _ _ (by rfl) (by walk_at "o3") (by decide) (by decide)) (by first | exact zak _ (by decide) (by decide) | rfl)) (@zai _ _ _ _ _ _ _ (@zj1 _ _ _ _ _ _ _ _ 6 _ _ _ (@zab _ _ 8 _ _ (by rfl) (by walk_at "o3") (by decide) (by decide)) (by rfl) (by rfl) (by walk_at "o3") (by decide) (by decide) (by rfl) (by rfl) (by rfl) (by rfl) (by rfl) (by rfl))) (@zaC _ _ _ _))))) (by rfl) (by intro _ ; rfl)) (@zfQ _ _ _ _ _ _ _ _ 6 (by rfl) (by rfl) (@zai _ _ _ _ _ _ _ (@zat _ _ _ _ _ _ _ _ (@zab _ _ 6 _ _ (by rfl) (by walk_at "o3") (by decide) (by decide)))))))))))
abbrev zbO : Stmt := top 45
theorem zeT : zay ["_law_found"] ["_law_found"] (zaf zbO) := ⟨rfl, rfl, rfl, by decide +kernel, rfl, by decide +kernel, by decide +kernel⟩
set_option maxHeartbeats 4000000 in
theorem zh1 {P : Program} {w : World} {K : PySem.W.Frag} {mg : Str → Option Value} {base : Heap} {f : Addr} {fd : FuncData} {k : Nat} (F : Fun K "_law_whole" "_law_whole" zbO f fd) (hm : mg "_law_whole" = some (.ref f)) (hb : za8 K fd ["_law_found"] []) (n_isinstance : mg "isinstance" = none) (n_int : mg "int" = none) (n_bool : mg "bool" = none) : zav P w K mg base (k + 1) "_law_whole" zaX := by
 refine zav.mk' (own' := []) F zeT hm hb rfl rfl fun X E hX C L => ?_
 obtain ⟨cdv, A, outer, s, H, rfl⟩ := hX
 have nd := zeT.nd
 exact (@zai _ _ _ _ _ _ _ (@zat _ _ _ _ _ _ _ _ (@zir _ _ _ _ _ _ _ _ (@zbg _ _ _ _ _ _ _ n_isinstance (@zaa _ _ _ _ _ _ (@zab _ _ 0 _ _ (by rfl) (by walk_at "o3") (by decide) (by decide)) (@zaa _ _ _ _ _ _ (@zgF _ _ _ _ _ n_int zpt (by rfl) (by decide) (by decide)) (@zad _ _) (by rfl)) (by rfl)) (by rfl) (by rfl) (by rfl)) (@ziq _ _ _ _ _ _ (@zpn _ _ _ _ _ (@zbg _ _ _ _ _ _ _ n_isinstance (@zaa _ _ _ _ _ _ (@zab _ _ 0 _ _ (by rfl) (by walk_at "o3") (by decide) (by decide)) (@zaa _ _ _ _ _ _ (@zgF _ _ _ _ _ n_bool zjr (by rfl) (by decide) (by decide)) (@zad _ _) (by rfl)) (by rfl)) (by rfl) (by rfl) (by rfl)))))))
abbrev zaY : Stmt := top 47
theorem zdt : zay ["_law_thing"] ["_law_thing"] (zaf zaY) := ⟨rfl, rfl, rfl, by decide +kernel, rfl, by decide +kernel, by decide +kernel⟩
set_option maxHeartbeats 4000000 in
theorem zfu {P : Program} {w : World} {K : PySem.W.Frag} {mg : Str → Option Value} {base : Heap} {f : Addr} {fd : FuncData} {k : Nat} (F : Fun K "_law_is_place" "_law_is_place" zaY f fd) (hm : mg "_law_is_place" = some (.ref f)) (hb : za8 K fd ["_law_thing"] []) (n_isinstance : mg "isinstance" = none) (n_tuple : mg "tuple" = none) (n_len : mg "len" = none) (F__law_whole : zav P w K mg base k "_law_whole" zaX) (F__law_low : zav P w K mg base k "_law_low" zbh) : zav P w K mg base (k + 1) "_law_is_place" zaA := by
 refine zav.mk' (own' := []) F zdt hm hb rfl rfl fun X E hX C L => ?_
 obtain ⟨cdv, A, outer, s, H, rfl⟩ := hX
 have nd := zdt.nd
 exact (@zag _ _ _ _ _ _ _ _ _ _ (@zbE _ _ _ _ _ _ _ _ _ _ _ _ (@DW.dt _ _ _ _ (@zhz _ _ _ _ _ _ _ _ (@zb6 _ _ _ _ _ (@zbW _ _ _ _ (@zbg _ _ _ _ _ _ _ n_isinstance (@zaa _ _ _ _ _ _ (@zab _ _ 0 _ _ (by rfl) (by walk_at "o3") (by decide) (by decide)) (@zaa _ _ _ _ _ _ (@zgF _ _ _ _ _ n_tuple zhD (by rfl) (by decide) (by decide)) (@zad _ _) (by rfl)) (by rfl)) (by rfl) (by rfl) (by rfl)) (by intro _ ; rfl))) (@zet _ _ _ _ _ (@zaF _ _ _ _ _ _ _ _ _ (@zfo _ _ _ C) (@zch _ _ _ _ _ _ _ n_len (@zaa _ _ _ _ _ _ (@zab _ _ 0 _ _ (by rfl) (by walk_at "o3") (by decide) (by decide)) (@zad _ _) (by rfl)) (by rfl) (by rfl) (by rfl)) (@zae _ _ _ _ _) (by first | exact zak _ (by decide) (by decide) | rfl))))) (@zai _ _ _ _ _ _ _ (@zat _ _ _ _ _ _ _ _ (@zdu _ _ _ _ _))) (@zaC _ _ _ _)) (@zag _ _ _ _ _ _ _ _ _ _ (@zbE _ _ _ _ _ _ _ _ _ _ _ _ (@DW.dt _ _ _ _ (@zhz _ _ _ _ _ _ _ _ (@zaF _ _ _ _ _ _ _ _ _ (@zfo _ _ _ C) (@DF.val _ _ _ _ (@zhB _ _ _ _ _ _ _ _ _ _ _ _ _ _ _ C.calm (LC.of (k := 1) (NY := ["_law_number", "_law_thing"]) (N := ["_law_thing"]) (sc0 := (zaf zaY)) rfl rfl (by decide +kernel)) rfl (@zcT _ _ _ _ _ (@zab _ _ 0 _ _ (by rfl) (by walk_at "o3") (by decide) (by decide))) (fun _ _ _ _ nd2 => ⟨(@zaM _ _ 0 _ nd2 (by rfl) (by walk_at "o2") (by walk_at "o4")), (@zfP _ _ _ _ (@zb6 _ _ _ _ _ (@zbW _ _ _ _ (@zaj _ _ _ _ _ _ _ _ _ _ (C.lc _ _ _ _ _ _) F__law_whole (@zaa _ _ _ _ _ _ (@zab _ _ 0 _ _ (by rfl) (by walk_at "o3") (by decide) (by decide)) (@zad _ _) (by rfl)) (by rfl) (by decide) (by rfl) (by rfl)) (by intro _ ; rfl)))), (@zab _ _ 0 _ _ (by rfl) (by walk_at "o3") (by decide) (by decide))⟩) (by intro _ ; rfl))) (@DF.val _ _ _ _ (@zbq _ _ _ _ _ (@zad _ _))) (by first | exact zak _ (by decide) (by decide) | rfl)) (@zet _ _ _ _ _ (@zaF _ _ _ _ _ _ _ _ _ (@zew _ _ _ C) (@zab _ _ 0 _ _ (by rfl) (by walk_at "o3") (by decide) (by decide)) (@zbR _ _ _ _ _ _ (@zaa _ _ _ _ _ _ (@zae _ _ _ _ _) (@zaa _ _ _ _ _ _ (@zae _ _ _ _ _) (@zaa _ _ _ _ _ _ (@zae _ _ _ _ _) (@zad _ _) (by rfl)) (by rfl)) (by rfl))) (by first | exact zak _ (by decide) (by decide) | rfl))))) (@zai _ _ _ _ _ _ _ (@zat _ _ _ _ _ _ _ _ (@zdu _ _ _ _ _))) (@zaC _ _ _ _)) (@zai _ _ _ _ _ _ _ (@zat _ _ _ _ _ _ _ _ (@zdb _ _ _ _ _ _ _ _ _ (@zew _ _ _ C) (@zaj _ _ _ _ _ _ _ _ _ _ C F__law_low (@zaa _ _ _ _ _ _ (@zab _ _ 0 _ _ (by rfl) (by walk_at "o3") (by decide) (by decide)) (@zad _ _) (by rfl)) (by rfl) (by decide) (by rfl) (by rfl)) (@zab _ _ 0 _ _ (by rfl) (by walk_at "o3") (by decide) (by decide)) (by first | exact zak _ (by decide) (by decide) | rfl))))))
abbrev zcn : Stmt := top 48
theorem zgw : zay ["_law_thing", "_law_k"] ["_law_thing"] (zaf zcn) := ⟨rfl, rfl, rfl, by decide +kernel, rfl, by decide +kernel, by decide +kernel⟩
set_option maxHeartbeats 4000000 in
theorem zjD {P : Program} {w : World} {K : PySem.W.Frag} {mg : Str → Option Value} {base : Heap} {f : Addr} {fd : FuncData} {k : Nat} (F : Fun K "_law_due" "_law_due" zcn f fd) (hm : mg "_law_due" = some (.ref f)) (hb : za8 K fd ["_law_thing"] []) (n_isinstance : mg "isinstance" = none) (n_list : mg "list" = none) (n_len : mg "len" = none) (n_range : mg "range" = none) (F__law_is_place : zav P w K mg base k "_law_is_place" zaA) : zav P w K mg base (k + 1) "_law_due" zaU := by
 refine zav.mk' (own' := []) F zgw hm hb rfl rfl fun X E hX C L => ?_
 obtain ⟨cdv, A, outer, s, H, rfl⟩ := hX
 have nd := zgw.nd
 exact (@zag _ _ _ _ _ _ _ _ _ _ (@zbE _ _ _ _ _ _ _ _ _ _ _ _ (@DW.dt _ _ _ _ (@zhz _ _ _ _ _ _ _ _ (@zb6 _ _ _ _ _ (@zbW _ _ _ _ (@zbg _ _ _ _ _ _ _ n_isinstance (@zaa _ _ _ _ _ _ (@zab _ _ 0 _ _ (by rfl) (by walk_at "o3") (by decide) (by decide)) (@zaa _ _ _ _ _ _ (@zgF _ _ _ _ _ n_list zjs (by rfl) (by decide) (by decide)) (@zad _ _) (by rfl)) (by rfl)) (by rfl) (by rfl) (by rfl)) (by intro _ ; rfl))) (@zet _ _ _ _ _ (@zb6 _ _ _ _ _ (@ziy _ _ _ _ _ _ _ _ _ _ _ _ _ (@zoA _) (@zoA _) (@zae _ _ _ _ _) (@zch _ _ _ _ _ _ _ n_len (@zaa _ _ _ _ _ _ (@zab _ _ 0 _ _ (by rfl) (by walk_at "o3") (by decide) (by decide)) (@zad _ _) (by rfl)) (by rfl) (by rfl) (by rfl)) (@zae _ _ _ _ _) (by with_unfolding_all rfl)))))) (@zai _ _ _ _ _ _ _ (@zat _ _ _ _ _ _ _ _ (@zdu _ _ _ _ _))) (@zaC _ _ _ _)) (@zag _ _ _ _ _ _ _ _ _ _ (@zcI _ _ _ _ _ _ _ _ _ _ _ _ L C.calm (@zbr _ _ _ _ _ _ _ n_range (@zaa _ _ _ _ _ _ (@zch _ _ _ _ _ _ _ n_len (@zaa _ _ _ _ _ _ (@zab _ _ 0 _ _ (by rfl) (by walk_at "o3") (by decide) (by decide)) (@zad _ _) (by rfl)) (by rfl) (by rfl) (by rfl)) (@zad _ _) (by rfl)) (by rfl) (by rfl)) (@zaM _ _ 1 _ nd (by rfl) (by walk_at "o2") (by walk_at "o4")) (@zai _ _ _ _ _ _ _ (@zbE _ _ _ _ _ _ _ _ _ _ _ _ (@DW.dt _ _ _ _ (@zhz _ _ _ _ _ _ _ _ (@zb6 _ _ _ _ _ (@zbW _ _ _ _ (@zaj _ _ _ _ _ _ _ _ _ _ C F__law_is_place (@zaa _ _ _ _ _ _ (@zaP _ _ _ _ _ _ _ (@zab _ _ 0 _ _ (by rfl) (by walk_at "o3") (by decide) (by decide)) (@zab _ _ 1 _ _ (by rfl) (by walk_at "o3") (by decide) (by decide)) (by intro _ _ ; rfl)) (@zad _ _) (by rfl)) (by rfl) (by decide) (by rfl) (by rfl)) (by intro _ ; rfl))) (@zet _ _ _ _ _ (@zaF _ _ _ _ _ _ _ _ _ (@zuL _ _ _ C) (@zaP _ _ _ _ _ _ _ (@zab _ _ 0 _ _ (by rfl) (by walk_at "o3") (by decide) (by decide)) (@zab _ _ 1 _ _ (by rfl) (by walk_at "o3") (by decide) (by decide)) (by intro _ _ ; rfl)) (@ziB _ _ _ _ _ _ _ _ _ _ (@zab _ _ 0 _ _ (by rfl) (by walk_at "o3") (by decide) (by decide)) (@zem _ _) (@zdc _ _ _ _ (@zab _ _ 1 _ _ (by rfl) (by walk_at "o3") (by decide) (by decide)))) (by first | exact zak _ (by decide) (by decide) | rfl))))) (@zai _ _ _ _ _ _ _ (@zat _ _ _ _ _ _ _ _ (@zdu _ _ _ _ _))) (@zaC _ _ _ _))) (by rfl) (by intro _ ; rfl)) (@zai _ _ _ _ _ _ _ (@zat _ _ _ _ _ _ _ _ (@zdu _ _ _ _ _)))))
abbrev zco : Stmt := top 18
theorem zgx : zay ["thing"] ["thing"] (zaf zco) := ⟨rfl, rfl, rfl, by decide +kernel, rfl, by decide +kernel, by decide +kernel⟩
set_option maxHeartbeats 4000000 in
theorem zjE {P : Program} {w : World} {K : PySem.W.Frag} {mg : Str → Option Value} {base : Heap} {f : Addr} {fd : FuncData} {k : Nat} (F : Fun K "is_whole" "is_whole" zco f fd) (hm : mg "is_whole" = some (.ref f)) (hb : za8 K fd ["thing"] []) (n_isinstance : mg "isinstance" = none) (n_int : mg "int" = none) (n_bool : mg "bool" = none) : zav P w K mg base (k + 1) "is_whole" zbX := by
 refine zav.mk' (own' := []) F zgx hm hb rfl rfl fun X E hX C L => ?_
 obtain ⟨cdv, A, outer, s, H, rfl⟩ := hX
 have nd := zgx.nd
 exact (@zai _ _ _ _ _ _ _ (@zat _ _ _ _ _ _ _ _ (@zir _ _ _ _ _ _ _ _ (@zbg _ _ _ _ _ _ _ n_isinstance (@zaa _ _ _ _ _ _ (@zab _ _ 0 _ _ (by rfl) (by walk_at "o3") (by decide) (by decide)) (@zaa _ _ _ _ _ _ (@zgF _ _ _ _ _ n_int zpt (by rfl) (by decide) (by decide)) (@zad _ _) (by rfl)) (by rfl)) (by rfl) (by rfl) (by rfl)) (@ziq _ _ _ _ _ _ (@zpn _ _ _ _ _ (@zbg _ _ _ _ _ _ _ n_isinstance (@zaa _ _ _ _ _ _ (@zab _ _ 0 _ _ (by rfl) (by walk_at "o3") (by decide) (by decide)) (@zaa _ _ _ _ _ _ (@zgF _ _ _ _ _ n_bool zjr (by rfl) (by decide) (by decide)) (@zad _ _) (by rfl)) (by rfl)) (by rfl) (by rfl) (by rfl)))))))
abbrev zbe : Stmt := top 20
theorem zeh : zay ["three"] ["three"] (zaf zbe) := ⟨rfl, rfl, rfl, by decide +kernel, rfl, by decide +kernel, by decide +kernel⟩
set_option maxHeartbeats 4000000 in
theorem zgP {P : Program} {w : World} {K : PySem.W.Frag} {mg : Str → Option Value} {base : Heap} {f : Addr} {fd : FuncData} {k : Nat} (F : Fun K "makes_place" "makes_place" zbe f fd) (hm : mg "makes_place" = some (.ref f)) (hb : za8 K fd ["three"] []) (n_all : mg "all" = none) (F_is_whole : zav P w K mg base k "is_whole" zbX) : zav P w K mg base (k + 1) "makes_place" za9 := by
 refine zav.mk' (own' := []) F zeh hm hb rfl rfl fun X E hX C L => ?_
 obtain ⟨cdv, A, outer, s, H, rfl⟩ := hX
 have nd := zeh.nd
 exact (@zai _ _ _ _ _ _ _ (@zat _ _ _ _ _ _ _ _ (@zir _ _ _ _ _ _ _ _ (@zmF _ _ _ _ _ _ _ C.calm n_all (@zaa _ _ _ _ _ _ (@DF.val _ _ _ _ (@zhB _ _ _ _ _ _ _ _ _ _ _ _ _ _ _ C.calm (LC.of (k := 1) (NY := ["thing", "three"]) (N := ["three"]) (sc0 := (zaf zbe)) rfl rfl (by decide +kernel)) rfl (@zcT _ _ _ _ _ (@zab _ _ 0 _ _ (by rfl) (by walk_at "o3") (by decide) (by decide))) (fun _ _ _ _ nd2 => ⟨(@zaM _ _ 0 _ nd2 (by rfl) (by walk_at "o2") (by walk_at "o4")), (@zc8 _ _), (@zaj _ _ _ _ _ _ _ _ _ _ (C.lc _ _ _ _ _ _) F_is_whole (@zaa _ _ _ _ _ _ (@zab _ _ 0 _ _ (by rfl) (by walk_at "o3") (by decide) (by decide)) (@zad _ _) (by rfl)) (by rfl) (by decide) (by rfl) (by rfl))⟩) (by intro _ ; rfl))) (@zad _ _) (by rfl)) (by rfl) (by rfl) (by rfl)) (@ziq _ _ _ _ _ _ (@zdb _ _ _ _ _ _ _ _ _ (@zfo _ _ _ C) (@zab _ _ 0 _ _ (by rfl) (by walk_at "o3") (by decide) (by decide)) (@zbR _ _ _ _ _ _ (@zaa _ _ _ _ _ _ (@zae _ _ _ _ _) (@zaa _ _ _ _ _ _ (@zae _ _ _ _ _) (@zaa _ _ _ _ _ _ (@zae _ _ _ _ _) (@zad _ _) (by rfl)) (by rfl)) (by rfl))) (by first | exact zak _ (by decide) (by decide) | rfl))))))
abbrev zc1 : Stmt := top 22
theorem zhh : zay ["one", "other", "rest"] ["one", "other"] (zaf zc1) := ⟨rfl, rfl, rfl, by decide +kernel, rfl, by decide +kernel, by decide +kernel⟩
set_option maxHeartbeats 4000000 in
theorem zly {P : Program} {w : World} {K : PySem.W.Frag} {mg : Str → Option Value} {base : Heap} {f : Addr} {fd : FuncData} {k : Nat} (F : Fun K "divisor" "divisor" zc1 f fd) (hm : mg "divisor" = some (.ref f)) (hb : za8 K fd ["one", "other"] []) (n_abs : mg "abs" = none) : zav P w K mg base (k + 1) "divisor" zcx := by
 refine zav.mk' (own' := []) F zhh hm hb rfl rfl fun X E hX C L => ?_
 obtain ⟨cdv, A, outer, s, H, rfl⟩ := hX
 have nd := zhh.nd
 exact (@zag _ _ _ _ _ _ _ _ _ _ (@zas _ _ _ _ _ _ _ _ 0 nd (@zmE _ _ _ _ _ _ _ n_abs (@zaa _ _ _ _ _ _ (@zab _ _ 0 _ _ (by rfl) (by walk_at "o3") (by decide) (by decide)) (@zad _ _) (by rfl)) (by rfl) (by rfl) (by rfl)) (by rfl) (by walk_at "o2") (by rfl) (by walk_at "o4")) (@zag _ _ _ _ _ _ _ _ _ _ (@zas _ _ _ _ _ _ _ _ 1 nd (@zmE _ _ _ _ _ _ _ n_abs (@zaa _ _ _ _ _ _ (@zab _ _ 1 _ _ (by rfl) (by walk_at "o3") (by decide) (by decide)) (@zad _ _) (by rfl)) (by rfl) (by rfl) (by rfl)) (by rfl) (by walk_at "o2") (by rfl) (by walk_at "o4")) (@zag _ _ _ _ _ _ _ _ _ _ (@zj2 _ _ _ _ _ _ _ _ _ L (@zaF _ _ _ _ _ _ _ _ _ (@zfo _ _ _ C) (@zab _ _ 1 _ _ (by rfl) (by walk_at "o3") (by decide) (by decide)) (@zae _ _ _ _ _) (by first | exact zak _ (by decide) (by decide) | rfl)) (@zag _ _ _ _ _ _ _ _ _ _ (@zas _ _ _ _ _ _ _ _ 2 nd (@zby _ _ _ _ _ _ _ (@zab _ _ 0 _ _ (by rfl) (by walk_at "o3") (by decide) (by decide)) (@zab _ _ 1 _ _ (by rfl) (by walk_at "o3") (by decide) (by decide))) (by rfl) (by walk_at "o2") (by rfl) (by walk_at "o4")) (@zag _ _ _ _ _ _ _ _ _ _ (@zas _ _ _ _ _ _ _ _ 0 nd (@zab _ _ 1 _ _ (by rfl) (by walk_at "o3") (by decide) (by decide)) (by rfl) (by walk_at "o2") (by rfl) (by walk_at "o4")) (@zai _ _ _ _ _ _ _ (@zas _ _ _ _ _ _ _ _ 1 nd (@zab _ _ 2 _ _ (by rfl) (by walk_at "o3") (by decide) (by decide)) (by rfl) (by walk_at "o2") (by rfl) (by walk_at "o4")))))) (@zai _ _ _ _ _ _ _ (@zat _ _ _ _ _ _ _ _ (@zab _ _ 0 _ _ (by rfl) (by walk_at "o3") (by decide) (by decide)))))))
abbrev zcE : Stmt := top 21
theorem zhi : zay ["numbers", "part", "last"] ["numbers"] (zaf zcE) := ⟨rfl, rfl, rfl, by decide +kernel, rfl, by decide +kernel, by decide +kernel⟩
set_option maxHeartbeats 4000000 in
theorem zlz {P : Program} {w : World} {K : PySem.W.Frag} {mg : Str → Option Value} {base : Heap} {f : Addr} {fd : FuncData} {k : Nat} (F : Fun K "in_form" "in_form" zcE f fd) (hm : mg "in_form" = some (.ref f)) (hb : za8 K fd ["numbers"] []) (F_divisor : zav P w K mg base k "divisor" zcx) : zav P w K mg base (k + 1) "in_form" zb9 := by
 refine zav.mk' (own' := []) F zhi hm hb rfl rfl fun X E hX C L => ?_
 obtain ⟨cdv, A, outer, s, H, rfl⟩ := hX
 have nd := zhi.nd
 exact (@zag _ _ _ _ _ _ _ _ _ _ (@zas _ _ _ _ _ _ _ _ 1 nd (@zaj _ _ _ _ _ _ _ _ _ _ C F_divisor (@zaa _ _ _ _ _ _ (@zaj _ _ _ _ _ _ _ _ _ _ C F_divisor (@zaa _ _ _ _ _ _ (@zaP _ _ _ _ _ _ _ (@zab _ _ 0 _ _ (by rfl) (by walk_at "o3") (by decide) (by decide)) (@zae _ _ _ _ _) (by intro _ _ ; rfl)) (@zaa _ _ _ _ _ _ (@zaP _ _ _ _ _ _ _ (@zab _ _ 0 _ _ (by rfl) (by walk_at "o3") (by decide) (by decide)) (@zae _ _ _ _ _) (by intro _ _ ; rfl)) (@zad _ _) (by rfl)) (by rfl)) (by rfl) (by decide) (by rfl) (by rfl)) (@zaa _ _ _ _ _ _ (@zaP _ _ _ _ _ _ _ (@zab _ _ 0 _ _ (by rfl) (by walk_at "o3") (by decide) (by decide)) (@zae _ _ _ _ _) (by intro _ _ ; rfl)) (@zad _ _) (by rfl)) (by rfl)) (by rfl) (by decide) (by rfl) (by rfl)) (by rfl) (by walk_at "o2") (by rfl) (by walk_at "o4")) (@zag _ _ _ _ _ _ _ _ _ _ (@zas _ _ _ _ _ _ _ _ 2 nd (@zaP _ _ _ _ _ _ _ (@DF.val _ _ _ _ (@zhB _ _ _ _ _ _ _ _ _ _ _ _ _ _ _ C.calm (LC.of (k := 1) (NY := ["number", "numbers", "part", "last"]) (N := ["numbers", "part", "last"]) (sc0 := (zaf zcE)) rfl rfl (by decide +kernel)) rfl (@zcT _ _ _ _ _ (@zab _ _ 0 _ _ (by rfl) (by walk_at "o3") (by decide) (by decide))) (fun _ _ _ _ nd2 => ⟨(@zaM _ _ 0 _ nd2 (by rfl) (by walk_at "o2") (by walk_at "o4")), (@zfP _ _ _ _ (@zaF _ _ _ _ _ _ _ _ _ (@zfo _ _ _ (C.lc _ _ _ _ _ _)) (@zab _ _ 0 _ _ (by rfl) (by walk_at "o3") (by decide) (by decide)) (@zae _ _ _ _ _) (by first | exact zak _ (by decide) (by decide) | rfl))), (@zab _ _ 0 _ _ (by rfl) (by walk_at "o3") (by decide) (by decide))⟩) (by intro _ ; rfl))) (@zmD _ _ _ _ _ (@zae _ _ _ _ _)) (by intro _ _ ; rfl)) (by rfl) (by walk_at "o2") (by rfl) (by walk_at "o4")) (@zag _ _ _ _ _ _ _ _ _ _ (@zbE _ _ _ _ _ _ _ _ _ _ _ _ (@zaF _ _ _ _ _ _ _ _ _ (@zoz _) (@zab _ _ 2 _ _ (by rfl) (by walk_at "o3") (by decide) (by decide)) (@zae _ _ _ _ _) (by first | exact zak _ (by decide) (by decide) | rfl)) (@zai _ _ _ _ _ _ _ (@zas _ _ _ _ _ _ _ _ 1 nd (@zmD _ _ _ _ _ (@zab _ _ 1 _ _ (by rfl) (by walk_at "o3") (by decide) (by decide))) (by rfl) (by walk_at "o2") (by rfl) (by walk_at "o4"))) (@zaC _ _ _ _)) (@zai _ _ _ _ _ _ _ (@zat _ _ _ _ _ _ _ _ (@zbR _ _ _ _ _ _ (@zaa _ _ _ _ _ _ (@zeX _ _ _ _ _ _ _ (@zaP _ _ _ _ _ _ _ (@zab _ _ 0 _ _ (by rfl) (by walk_at "o3") (by decide) (by decide)) (@zae _ _ _ _ _) (by intro _ _ ; rfl)) (@zab _ _ 1 _ _ (by rfl) (by walk_at "o3") (by decide) (by decide))) (@zaa _ _ _ _ _ _ (@zeX _ _ _ _ _ _ _ (@zaP _ _ _ _ _ _ _ (@zab _ _ 0 _ _ (by rfl) (by walk_at "o3") (by decide) (by decide)) (@zae _ _ _ _ _) (by intro _ _ ; rfl)) (@zab _ _ 1 _ _ (by rfl) (by walk_at "o3") (by decide) (by decide))) (@zaa _ _ _ _ _ _ (@zeX _ _ _ _ _ _ _ (@zaP _ _ _ _ _ _ _ (@zab _ _ 0 _ _ (by rfl) (by walk_at "o3") (by decide) (by decide)) (@zae _ _ _ _ _) (by intro _ _ ; rfl)) (@zab _ _ 1 _ _ (by rfl) (by walk_at "o3") (by decide) (by decide))) (@zad _ _) (by rfl)) (by rfl)) (by rfl))))))))
abbrev zcp : Stmt := top 19
theorem zgy : zay ["thing"] ["thing"] (zaf zcp) := ⟨rfl, rfl, rfl, by decide +kernel, rfl, by decide +kernel, by decide +kernel⟩
set_option maxHeartbeats 4000000 in
theorem zjF {P : Program} {w : World} {K : PySem.W.Frag} {mg : Str → Option Value} {base : Heap} {f : Addr} {fd : FuncData} {k : Nat} (F : Fun K "is_place" "is_place" zcp f fd) (hm : mg "is_place" = some (.ref f)) (hb : za8 K fd ["thing"] []) (n_isinstance : mg "isinstance" = none) (n_tuple : mg "tuple" = none) (n_len : mg "len" = none) (F_makes_place : zav P w K mg base k "makes_place" za9) (F_in_form : zav P w K mg base k "in_form" zb9) : zav P w K mg base (k + 1) "is_place" zam := by
 refine zav.mk' (own' := []) F zgy hm hb rfl rfl fun X E hX C L => ?_
 obtain ⟨cdv, A, outer, s, H, rfl⟩ := hX
 have nd := zgy.nd
 exact (@zag _ _ _ _ _ _ _ _ _ _ (@zbE _ _ _ _ _ _ _ _ _ _ _ _ (@DW.dt _ _ _ _ (@zhz _ _ _ _ _ _ _ _ (@zb6 _ _ _ _ _ (@zbW _ _ _ _ (@zbg _ _ _ _ _ _ _ n_isinstance (@zaa _ _ _ _ _ _ (@zab _ _ 0 _ _ (by rfl) (by walk_at "o3") (by decide) (by decide)) (@zaa _ _ _ _ _ _ (@zgF _ _ _ _ _ n_tuple zhD (by rfl) (by decide) (by decide)) (@zad _ _) (by rfl)) (by rfl)) (by rfl) (by rfl) (by rfl)) (by intro _ ; rfl))) (@zet _ _ _ _ _ (@zaF _ _ _ _ _ _ _ _ _ (@zfo _ _ _ C) (@zch _ _ _ _ _ _ _ n_len (@zaa _ _ _ _ _ _ (@zab _ _ 0 _ _ (by rfl) (by walk_at "o3") (by decide) (by decide)) (@zad _ _) (by rfl)) (by rfl) (by rfl) (by rfl)) (@zae _ _ _ _ _) (by first | exact zak _ (by decide) (by decide) | rfl))))) (@zai _ _ _ _ _ _ _ (@zat _ _ _ _ _ _ _ _ (@zdu _ _ _ _ _))) (@zaC _ _ _ _)) (@zag _ _ _ _ _ _ _ _ _ _ (@zbE _ _ _ _ _ _ _ _ _ _ _ _ (@zb6 _ _ _ _ _ (@zbW _ _ _ _ (@zaj _ _ _ _ _ _ _ _ _ _ C F_makes_place (@zaa _ _ _ _ _ _ (@zab _ _ 0 _ _ (by rfl) (by walk_at "o3") (by decide) (by decide)) (@zad _ _) (by rfl)) (by rfl) (by decide) (by rfl) (by rfl)) (by intro _ ; rfl))) (@zai _ _ _ _ _ _ _ (@zat _ _ _ _ _ _ _ _ (@zdu _ _ _ _ _))) (@zaC _ _ _ _)) (@zai _ _ _ _ _ _ _ (@zat _ _ _ _ _ _ _ _ (@zdb _ _ _ _ _ _ _ _ _ (@zew _ _ _ C) (@zaj _ _ _ _ _ _ _ _ _ _ C F_in_form (@zaa _ _ _ _ _ _ (@zab _ _ 0 _ _ (by rfl) (by walk_at "o3") (by decide) (by decide)) (@zad _ _) (by rfl)) (by rfl) (by decide) (by rfl) (by rfl)) (@zab _ _ 0 _ _ (by rfl) (by walk_at "o3") (by decide) (by decide)) (by first | exact zak _ (by decide) (by decide) | rfl))))))
abbrev zb4 : Stmt := top 31
theorem zgz : zay ["thing"] ["thing"] (zaf zb4) := ⟨rfl, rfl, rfl, by decide +kernel, rfl, by decide +kernel, by decide +kernel⟩
set_option maxHeartbeats 4000000 in
theorem zjG {P : Program} {w : World} {K : PySem.W.Frag} {mg : Str → Option Value} {base : Heap} {f : Addr} {fd : FuncData} {k : Nat} (F : Fun K "is_floor" "is_floor" zb4 f fd) (hm : mg "is_floor" = some (.ref f)) (hb : za8 K fd ["thing"] []) (n_isinstance : mg "isinstance" = none) (n_list : mg "list" = none) (n_len : mg "len" = none) (n_all : mg "all" = none) (n_set : mg "set" = none) (k_MOST_PEGS_is : ∃ u v, mg "MOST_PEGS" = some u ∧ zbz v u ∧ ∀ G, Rep K mg G zbZ v) (F_is_place : zav P w K mg base k "is_place" zam) : zav P w K mg base (k + 1) "is_floor" zap := by
 refine zav.mk' (own' := []) F zgz hm hb rfl rfl fun X E hX C L => ?_
 obtain ⟨cdv, A, outer, s, H, rfl⟩ := hX
 have nd := zgz.nd
 exact (@zag _ _ _ _ _ _ _ _ _ _ (@zbE _ _ _ _ _ _ _ _ _ _ _ _ (@DW.dt _ _ _ _ (@zhz _ _ _ _ _ _ _ _ (@zb6 _ _ _ _ _ (@zbW _ _ _ _ (@zbg _ _ _ _ _ _ _ n_isinstance (@zaa _ _ _ _ _ _ (@zab _ _ 0 _ _ (by rfl) (by walk_at "o3") (by decide) (by decide)) (@zaa _ _ _ _ _ _ (@zgF _ _ _ _ _ n_list zjs (by rfl) (by decide) (by decide)) (@zad _ _) (by rfl)) (by rfl)) (by rfl) (by rfl) (by rfl)) (by intro _ ; rfl))) (@zet _ _ _ _ _ (@zb6 _ _ _ _ _ (@ziy _ _ _ _ _ _ _ _ _ _ _ _ _ (@zoA _) (@zoA _) (@zae _ _ _ _ _) (@zch _ _ _ _ _ _ _ n_len (@zaa _ _ _ _ _ _ (@zab _ _ 0 _ _ (by rfl) (by walk_at "o3") (by decide) (by decide)) (@zad _ _) (by rfl)) (by rfl) (by rfl) (by rfl)) (@de_k _ _ _ _ _ k_MOST_PEGS_is (by rfl) (by decide)) (by with_unfolding_all rfl)))))) (@zai _ _ _ _ _ _ _ (@zat _ _ _ _ _ _ _ _ (@zdu _ _ _ _ _))) (@zaC _ _ _ _)) (@zag _ _ _ _ _ _ _ _ _ _ (@zbE _ _ _ _ _ _ _ _ _ _ _ _ (@zb6 _ _ _ _ _ (@zbW _ _ _ _ (@zmF _ _ _ _ _ _ _ C.calm n_all (@zaa _ _ _ _ _ _ (@DF.val _ _ _ _ (@zhB _ _ _ _ _ _ _ _ _ _ _ _ _ _ _ C.calm (LC.of (k := 1) (NY := ["member", "thing"]) (N := ["thing"]) (sc0 := (zaf zb4)) rfl rfl (by decide +kernel)) rfl (@zcT _ _ _ _ _ (@zab _ _ 0 _ _ (by rfl) (by walk_at "o3") (by decide) (by decide))) (fun _ _ _ _ nd2 => ⟨(@zaM _ _ 0 _ nd2 (by rfl) (by walk_at "o2") (by walk_at "o4")), (@zc8 _ _), (@zaj _ _ _ _ _ _ _ _ _ _ (C.lc _ _ _ _ _ _) F_is_place (@zaa _ _ _ _ _ _ (@zab _ _ 0 _ _ (by rfl) (by walk_at "o3") (by decide) (by decide)) (@zad _ _) (by rfl)) (by rfl) (by decide) (by rfl) (by rfl))⟩) (by intro _ ; rfl))) (@zad _ _) (by rfl)) (by rfl) (by rfl) (by rfl)) (by intro _ ; rfl))) (@zai _ _ _ _ _ _ _ (@zat _ _ _ _ _ _ _ _ (@zdu _ _ _ _ _))) (@zaC _ _ _ _)) (@zai _ _ _ _ _ _ _ (@zat _ _ _ _ _ _ _ _ (@zdb _ _ _ _ _ _ _ _ _ (@zew _ _ _ C) (@zlq _ _ _ C n_len n_set _ _ _ _ _ _ (@zab _ _ 0 _ _ (by rfl) (by walk_at "o3") (by decide) (by decide)) (by rfl) (by rfl) (by rfl) (by rfl) (by rfl) (by rfl)) (@zch _ _ _ _ _ _ _ n_len (@zaa _ _ _ _ _ _ (@zab _ _ 0 _ _ (by rfl) (by walk_at "o3") (by decide) (by decide)) (@zad _ _) (by rfl)) (by rfl) (by rfl) (by rfl)) (by first | exact zak _ (by decide) (by decide) | rfl))))))
abbrev zc2 : Stmt := top 32
theorem zhj : zay ["floor"] ["floor"] (zaf zc2) := ⟨rfl, rfl, rfl, by decide +kernel, rfl, by decide +kernel, by decide +kernel⟩
set_option maxHeartbeats 4000000 in
theorem zlA {P : Program} {w : World} {K : PySem.W.Frag} {mg : Str → Option Value} {base : Heap} {f : Addr} {fd : FuncData} {k : Nat} (F : Fun K "look_at" "look_at" zc2 f fd) (hm : mg "look_at" = some (.ref f)) (hb : za8 K fd ["floor"] []) {C_NoFloor : Addr} (c_NoFloor : mg "NoFloor" = some (.ref C_NoFloor)) (y_NoFloor : PySem.W.excIn K C_NoFloor [.type "ValueError", .type "Exception", .type "BaseException", .type "object"] "ValueError.__new__" = true) (x_NoFloor : zlk K mg "NoFloor" C_NoFloor) (F_is_floor : zav P w K mg base k "is_floor" zap) : zav P w K mg base (k + 1) "look_at" zaJ := by
 refine zav.mk' (own' := []) F zhj hm hb rfl rfl fun X E hX C L => ?_
 obtain ⟨cdv, A, outer, s, H, rfl⟩ := hX
 have nd := zhj.nd
 exact (@zai _ _ _ _ _ _ _ (@zbE _ _ _ _ _ _ _ _ _ _ _ _ (@zb6 _ _ _ _ _ (@zbW _ _ _ _ (@zaj _ _ _ _ _ _ _ _ _ _ C F_is_floor (@zaa _ _ _ _ _ _ (@zab _ _ 0 _ _ (by rfl) (by walk_at "o3") (by decide) (by decide)) (@zad _ _) (by rfl)) (by rfl) (by decide) (by rfl) (by rfl)) (by intro _ ; rfl))) (@zai _ _ _ _ _ _ _ (@ziC _ _ _ _ _ _ _ _ _ _ _ _ _ _ _ _ _ _ _ _ _ _ _ _ _ _ y_NoFloor x_NoFloor (by rfl) (by decide))) (@zaC _ _ _ _)))
abbrev zbG : Stmt := top 46
theorem zfg : zay ["_law_error", "_law_place", "_law_kinds"] ["_law_error", "_law_place"] (zaf zbG) := ⟨rfl, rfl, rfl, by decide +kernel, rfl, by decide +kernel, by decide +kernel⟩
set_option maxHeartbeats 4000000 in
theorem zjb {P : Program} {w : World} {K : PySem.W.Frag} {mg : Str → Option Value} {base : Heap} {f : Addr} {fd : FuncData} {k : Nat} (F : Fun K "_law_only" "_law_only" zbG f fd) (hm : mg "_law_only" = some (.ref f)) (hb : za8 K fd ["_law_error", "_law_place"] []) {C_NoFloor : Addr} (c_NoFloor : mg "NoFloor" = some (.ref C_NoFloor)) {C_Same : Addr} (c_Same : mg "Same" = some (.ref C_Same)) {C_NoPlace : Addr} (c_NoPlace : mg "NoPlace" = some (.ref C_NoPlace)) {C_NoText : Addr} (c_NoText : mg "NoText" = some (.ref C_NoText)) {C_NoDeed : Addr} (c_NoDeed : mg "NoDeed" = some (.ref C_NoDeed)) {C_Endless : Addr} (c_Endless : mg "Endless" = some (.ref C_Endless)) {C_NoName : Addr} (c_NoName : mg "NoName" = some (.ref C_NoName)) {C_NoFrame : Addr} (c_NoFrame : mg "NoFrame" = some (.ref C_NoFrame)) {C_NoChange : Addr} (c_NoChange : mg "NoChange" = some (.ref C_NoChange)) {C_TooMany : Addr} (c_TooMany : mg "TooMany" = some (.ref C_TooMany)) {C_NoRatio : Addr} (c_NoRatio : mg "NoRatio" = some (.ref C_NoRatio)) {C_Unlike : Addr} (c_Unlike : mg "Unlike" = some (.ref C_Unlike)) {C_NoValue : Addr} (c_NoValue : mg "NoValue" = some (.ref C_NoValue)) {C_NoRow : Addr} (c_NoRow : mg "NoRow" = some (.ref C_NoRow)) {C_NoBow : Addr} (c_NoBow : mg "NoBow" = some (.ref C_NoBow)) (n_isinstance : mg "isinstance" = none) (n_ValueError : mg "ValueError" = none) (n_range : mg "range" = none) : zav P w K mg base (k + 1) "_law_only" zcl := by
 refine zav.mk' (own' := []) F zfg hm hb rfl rfl fun X E hX C L => ?_
 obtain ⟨cdv, A, outer, s, H, rfl⟩ := hX
 have nd := zfg.nd
 exact (@zag _ _ _ _ _ _ _ _ _ _ (@zas _ _ _ _ _ _ _ _ 2 nd (@DF.val _ _ _ _ (@zbq _ _ _ _ _ (@zaa _ _ _ _ _ _ (@zbg _ _ _ _ _ _ _ n_isinstance (@zaa _ _ _ _ _ _ (@zab _ _ 0 _ _ (by rfl) (by walk_at "o3") (by decide) (by decide)) (@zaa _ _ _ _ _ _ (@zcg _ _ _ _ _ c_NoPlace (by rfl) (by decide)) (@zad _ _) (by rfl)) (by rfl)) (by rfl) (by rfl) (by rfl)) (@zaa _ _ _ _ _ _ (@zbg _ _ _ _ _ _ _ n_isinstance (@zaa _ _ _ _ _ _ (@zab _ _ 0 _ _ (by rfl) (by walk_at "o3") (by decide) (by decide)) (@zaa _ _ _ _ _ _ (@zcg _ _ _ _ _ c_Same (by rfl) (by decide)) (@zad _ _) (by rfl)) (by rfl)) (by rfl) (by rfl) (by rfl)) (@zaa _ _ _ _ _ _ (@zbg _ _ _ _ _ _ _ n_isinstance (@zaa _ _ _ _ _ _ (@zab _ _ 0 _ _ (by rfl) (by walk_at "o3") (by decide) (by decide)) (@zaa _ _ _ _ _ _ (@zcg _ _ _ _ _ c_NoFloor (by rfl) (by decide)) (@zad _ _) (by rfl)) (by rfl)) (by rfl) (by rfl) (by rfl)) (@zad _ _) (by rfl)) (by rfl)) (by rfl)))) (by rfl) (by walk_at "o2") (by rfl) (by walk_at "o4")) (@zag _ _ _ _ _ _ _ _ _ _ (@zjY _ _ _ _ _ _ _ _ _ _ 2 nd (@ztl _ _ _ _ _ _ _ (@zab _ _ 2 _ _ (by rfl) (by walk_at "o3") (by decide) (by decide)) (@DF.val _ _ _ _ (@zbq _ _ _ _ _ (@zaa _ _ _ _ _ _ (@zbg _ _ _ _ _ _ _ n_isinstance (@zaa _ _ _ _ _ _ (@zab _ _ 0 _ _ (by rfl) (by walk_at "o3") (by decide) (by decide)) (@zaa _ _ _ _ _ _ (@zcg _ _ _ _ _ c_Endless (by rfl) (by decide)) (@zad _ _) (by rfl)) (by rfl)) (by rfl) (by rfl) (by rfl)) (@zaa _ _ _ _ _ _ (@zbg _ _ _ _ _ _ _ n_isinstance (@zaa _ _ _ _ _ _ (@zab _ _ 0 _ _ (by rfl) (by walk_at "o3") (by decide) (by decide)) (@zaa _ _ _ _ _ _ (@zcg _ _ _ _ _ c_NoDeed (by rfl) (by decide)) (@zad _ _) (by rfl)) (by rfl)) (by rfl) (by rfl) (by rfl)) (@zaa _ _ _ _ _ _ (@zbg _ _ _ _ _ _ _ n_isinstance (@zaa _ _ _ _ _ _ (@zab _ _ 0 _ _ (by rfl) (by walk_at "o3") (by decide) (by decide)) (@zaa _ _ _ _ _ _ (@zcg _ _ _ _ _ c_NoText (by rfl) (by decide)) (@zad _ _) (by rfl)) (by rfl)) (by rfl) (by rfl) (by rfl)) (@zad _ _) (by rfl)) (by rfl)) (by rfl))))) (by rfl) (by rfl) (by walk_at "o2") (by rfl) (by walk_at "o4")) (@zag _ _ _ _ _ _ _ _ _ _ (@zj1 _ _ _ _ _ _ _ _ 2 _ _ _ (@zbg _ _ _ _ _ _ _ n_isinstance (@zaa _ _ _ _ _ _ (@zab _ _ 0 _ _ (by rfl) (by walk_at "o3") (by decide) (by decide)) (@zaa _ _ _ _ _ _ (@zcg _ _ _ _ _ c_NoName (by rfl) (by decide)) (@zad _ _) (by rfl)) (by rfl)) (by rfl) (by rfl) (by rfl)) (by rfl) (by rfl) (by walk_at "o3") (by decide) (by decide) (by rfl) (by rfl) (by rfl) (by rfl) (by rfl) (by rfl)) (@zfQ _ _ _ _ _ _ _ _ 2 (by rfl) (by rfl) (@zag _ _ _ _ _ _ _ _ _ _ (@zas _ _ _ _ _ _ _ _ 2 nd (@za3 _ _ _ _ _ _ _ (@zab _ _ 2 _ _ (by rfl) (by walk_at "o3") (by decide) (by decide)) (@DF.val _ _ _ _ (@zbq _ _ _ _ _ (@zaa _ _ _ _ _ _ (@zbg _ _ _ _ _ _ _ n_isinstance (@zaa _ _ _ _ _ _ (@zab _ _ 0 _ _ (by rfl) (by walk_at "o3") (by decide) (by decide)) (@zaa _ _ _ _ _ _ (@zcg _ _ _ _ _ c_TooMany (by rfl) (by decide)) (@zad _ _) (by rfl)) (by rfl)) (by rfl) (by rfl) (by rfl)) (@zaa _ _ _ _ _ _ (@zbg _ _ _ _ _ _ _ n_isinstance (@zaa _ _ _ _ _ _ (@zab _ _ 0 _ _ (by rfl) (by walk_at "o3") (by decide) (by decide)) (@zaa _ _ _ _ _ _ (@zcg _ _ _ _ _ c_NoChange (by rfl) (by decide)) (@zad _ _) (by rfl)) (by rfl)) (by rfl) (by rfl) (by rfl)) (@zaa _ _ _ _ _ _ (@zbg _ _ _ _ _ _ _ n_isinstance (@zaa _ _ _ _ _ _ (@zab _ _ 0 _ _ (by rfl) (by walk_at "o3") (by decide) (by decide)) (@zaa _ _ _ _ _ _ (@zcg _ _ _ _ _ c_NoFrame (by rfl) (by decide)) (@zad _ _) (by rfl)) (by rfl)) (by rfl) (by rfl) (by rfl)) (@zad _ _) (by rfl)) (by rfl)) (by rfl))))) (by rfl) (by walk_at "o2") (by rfl) (by walk_at "o4")) (@zag _ _ _ _ _ _ _ _ _ _ (@zas _ _ _ _ _ _ _ _ 2 nd (@za3 _ _ _ _ _ _ _ (@zab _ _ 2 _ _ (by rfl) (by walk_at "o3") (by decide) (by decide)) (@DF.val _ _ _ _ (@zbq _ _ _ _ _ (@zaa _ _ _ _ _ _ (@zbg _ _ _ _ _ _ _ n_isinstance (@zaa _ _ _ _ _ _ (@zab _ _ 0 _ _ (by rfl) (by walk_at "o3") (by decide) (by decide)) (@zaa _ _ _ _ _ _ (@zcg _ _ _ _ _ c_NoValue (by rfl) (by decide)) (@zad _ _) (by rfl)) (by rfl)) (by rfl) (by rfl) (by rfl)) (@zaa _ _ _ _ _ _ (@zbg _ _ _ _ _ _ _ n_isinstance (@zaa _ _ _ _ _ _ (@zab _ _ 0 _ _ (by rfl) (by walk_at "o3") (by decide) (by decide)) (@zaa _ _ _ _ _ _ (@zcg _ _ _ _ _ c_Unlike (by rfl) (by decide)) (@zad _ _) (by rfl)) (by rfl)) (by rfl) (by rfl) (by rfl)) (@zaa _ _ _ _ _ _ (@zbg _ _ _ _ _ _ _ n_isinstance (@zaa _ _ _ _ _ _ (@zab _ _ 0 _ _ (by rfl) (by walk_at "o3") (by decide) (by decide)) (@zaa _ _ _ _ _ _ (@zcg _ _ _ _ _ c_NoRatio (by rfl) (by decide)) (@zad _ _) (by rfl)) (by rfl)) (by rfl) (by rfl) (by rfl)) (@zad _ _) (by rfl)) (by rfl)) (by rfl))))) (by rfl) (by walk_at "o2") (by rfl) (by walk_at "o4")) (@zag _ _ _ _ _ _ _ _ _ _ (@zas _ _ _ _ _ _ _ _ 2 nd (@za3 _ _ _ _ _ _ _ (@zab _ _ 2 _ _ (by rfl) (by walk_at "o3") (by decide) (by decide)) (@DF.val _ _ _ _ (@zbq _ _ _ _ _ (@zaa _ _ _ _ _ _ (@zbg _ _ _ _ _ _ _ n_isinstance (@zaa _ _ _ _ _ _ (@zab _ _ 0 _ _ (by rfl) (by walk_at "o3") (by decide) (by decide)) (@zaa _ _ _ _ _ _ (@zcg _ _ _ _ _ c_NoBow (by rfl) (by decide)) (@zad _ _) (by rfl)) (by rfl)) (by rfl) (by rfl) (by rfl)) (@zaa _ _ _ _ _ _ (@zbg _ _ _ _ _ _ _ n_isinstance (@zaa _ _ _ _ _ _ (@zab _ _ 0 _ _ (by rfl) (by walk_at "o3") (by decide) (by decide)) (@zaa _ _ _ _ _ _ (@zcg _ _ _ _ _ c_NoRow (by rfl) (by decide)) (@zad _ _) (by rfl)) (by rfl)) (by rfl) (by rfl) (by rfl)) (@zad _ _) (by rfl)) (by rfl))))) (by rfl) (by walk_at "o2") (by rfl) (by walk_at "o4")) (@zai _ _ _ _ _ _ _ (@zat _ _ _ _ _ _ _ _ (@zir _ _ _ _ _ _ _ _ (@zbg _ _ _ _ _ _ _ n_isinstance (@zaa _ _ _ _ _ _ (@zab _ _ 0 _ _ (by rfl) (by walk_at "o3") (by decide) (by decide)) (@zaa _ _ _ _ _ _ (@zgF _ _ _ _ _ n_ValueError zhE (by rfl) (by decide) (by decide)) (@zad _ _) (by rfl)) (by rfl)) (by rfl) (by rfl) (by rfl)) (@ziq _ _ _ _ _ _ (@zdb _ _ _ _ _ _ _ _ _ (@zew _ _ _ C) (@zab _ _ 2 _ _ (by rfl) (by walk_at "o3") (by decide) (by decide)) (@DF.val _ _ _ _ (@zhB _ _ _ _ _ _ _ _ _ _ _ _ _ _ _ C.calm (LC.of (k := 1) (NY := ["_law_k", "_law_error", "_law_place", "_law_kinds"]) (N := ["_law_error", "_law_place", "_law_kinds"]) (sc0 := (zaf zbG)) rfl rfl (by decide +kernel)) rfl (@zbr _ _ _ _ _ _ _ n_range (@zaa _ _ _ _ _ _ (@zae _ _ _ _ _) (@zad _ _) (by rfl)) (by rfl) (by rfl)) (fun _ _ _ _ nd2 => ⟨(@zaM _ _ 0 _ nd2 (by rfl) (by walk_at "o2") (by walk_at "o4")), (@zc8 _ _), (@zdb _ _ _ _ _ _ _ _ _ (@zew _ _ _ (C.lc _ _ _ _ _ _)) (@zab _ _ 0 _ _ (by rfl) (by walk_at "o3") (by decide) (by decide)) (@zab _ _ 2 _ _ (by rfl) (by walk_at "o3") (by decide) (by decide)) (by first | exact zak _ (by decide) (by decide) | rfl))⟩) (by intro _ ; rfl))) (by first | exact zak _ (by decide) (by decide) | rfl)))))))))))))
abbrev ze1 : Stmt := top 25
theorem zk3 : zay ["one", "other", "x", "y", "z"] ["one", "other"] (zaf ze1) := ⟨rfl, rfl, rfl, by decide +kernel, rfl, by decide +kernel, by decide +kernel⟩
set_option maxHeartbeats 4000000 in
theorem zpd {P : Program} {w : World} {K : PySem.W.Frag} {mg : Str → Option Value} {base : Heap} {f : Addr} {fd : FuncData} {k : Nat} (F : Fun K "cross" "cross" ze1 f fd) (hm : mg "cross" = some (.ref f)) (hb : za8 K fd ["one", "other"] []) : zav P w K mg base (k + 1) "cross" zhO := by
 refine zav.mk' (own' := []) F zk3 hm hb rfl rfl fun X E hX C L => ?_
 obtain ⟨cdv, A, outer, s, H, rfl⟩ := hX
 have nd := zk3.nd
 exact (@zag _ _ _ _ _ _ _ _ _ _ (@zas _ _ _ _ _ _ _ _ 2 nd (@zdl _ _ _ _ _ _ _ (@za5 _ _ _ _ _ _ _ (@zaP _ _ _ _ _ _ _ (@zab _ _ 0 _ _ (by rfl) (by walk_at "o3") (by decide) (by decide)) (@zae _ _ _ _ _) (by intro _ _ ; rfl)) (@zaP _ _ _ _ _ _ _ (@zab _ _ 1 _ _ (by rfl) (by walk_at "o3") (by decide) (by decide)) (@zae _ _ _ _ _) (by intro _ _ ; rfl))) (@za5 _ _ _ _ _ _ _ (@zaP _ _ _ _ _ _ _ (@zab _ _ 0 _ _ (by rfl) (by walk_at "o3") (by decide) (by decide)) (@zae _ _ _ _ _) (by intro _ _ ; rfl)) (@zaP _ _ _ _ _ _ _ (@zab _ _ 1 _ _ (by rfl) (by walk_at "o3") (by decide) (by decide)) (@zae _ _ _ _ _) (by intro _ _ ; rfl)))) (by rfl) (by walk_at "o2") (by rfl) (by walk_at "o4")) (@zag _ _ _ _ _ _ _ _ _ _ (@zas _ _ _ _ _ _ _ _ 3 nd (@zdl _ _ _ _ _ _ _ (@za5 _ _ _ _ _ _ _ (@zaP _ _ _ _ _ _ _ (@zab _ _ 0 _ _ (by rfl) (by walk_at "o3") (by decide) (by decide)) (@zae _ _ _ _ _) (by intro _ _ ; rfl)) (@zaP _ _ _ _ _ _ _ (@zab _ _ 1 _ _ (by rfl) (by walk_at "o3") (by decide) (by decide)) (@zae _ _ _ _ _) (by intro _ _ ; rfl))) (@za5 _ _ _ _ _ _ _ (@zaP _ _ _ _ _ _ _ (@zab _ _ 0 _ _ (by rfl) (by walk_at "o3") (by decide) (by decide)) (@zae _ _ _ _ _) (by intro _ _ ; rfl)) (@zaP _ _ _ _ _ _ _ (@zab _ _ 1 _ _ (by rfl) (by walk_at "o3") (by decide) (by decide)) (@zae _ _ _ _ _) (by intro _ _ ; rfl)))) (by rfl) (by walk_at "o2") (by rfl) (by walk_at "o4")) (@zag _ _ _ _ _ _ _ _ _ _ (@zas _ _ _ _ _ _ _ _ 4 nd (@zdl _ _ _ _ _ _ _ (@za5 _ _ _ _ _ _ _ (@zaP _ _ _ _ _ _ _ (@zab _ _ 0 _ _ (by rfl) (by walk_at "o3") (by decide) (by decide)) (@zae _ _ _ _ _) (by intro _ _ ; rfl)) (@zaP _ _ _ _ _ _ _ (@zab _ _ 1 _ _ (by rfl) (by walk_at "o3") (by decide) (by decide)) (@zae _ _ _ _ _) (by intro _ _ ; rfl))) (@za5 _ _ _ _ _ _ _ (@zaP _ _ _ _ _ _ _ (@zab _ _ 0 _ _ (by rfl) (by walk_at "o3") (by decide) (by decide)) (@zae _ _ _ _ _) (by intro _ _ ; rfl)) (@zaP _ _ _ _ _ _ _ (@zab _ _ 1 _ _ (by rfl) (by walk_at "o3") (by decide) (by decide)) (@zae _ _ _ _ _) (by intro _ _ ; rfl)))) (by rfl) (by walk_at "o2") (by rfl) (by walk_at "o4")) (@zai _ _ _ _ _ _ _ (@zat _ _ _ _ _ _ _ _ (@zbR _ _ _ _ _ _ (@zaa _ _ _ _ _ _ (@zab _ _ 2 _ _ (by rfl) (by walk_at "o3") (by decide) (by decide)) (@zaa _ _ _ _ _ _ (@zab _ _ 3 _ _ (by rfl) (by walk_at "o3") (by decide) (by decide)) (@zaa _ _ _ _ _ _ (@zab _ _ 4 _ _ (by rfl) (by walk_at "o3") (by decide) (by decide)) (@zad _ _) (by rfl)) (by rfl)) (by rfl))))))))
abbrev zbx : Stmt := top 27
theorem zei : zay ["one", "other"] ["one", "other"] (zaf zbx) := ⟨rfl, rfl, rfl, by decide +kernel, rfl, by decide +kernel, by decide +kernel⟩
set_option maxHeartbeats 4000000 in
theorem zgQ {P : Program} {w : World} {K : PySem.W.Frag} {mg : Str → Option Value} {base : Heap} {f : Addr} {fd : FuncData} {k : Nat} (F : Fun K "between_two" "between_two" zbx f fd) (hm : mg "between_two" = some (.ref f)) (hb : za8 K fd ["one", "other"] []) (F_in_form : zav P w K mg base k "in_form" zb9) (F_cross : zav P w K mg base k "cross" zhO) : zav P w K mg base (k + 1) "between_two" zbC := by
 refine zav.mk' (own' := []) F zei hm hb rfl rfl fun X E hX C L => ?_
 obtain ⟨cdv, A, outer, s, H, rfl⟩ := hX
 have nd := zei.nd
 exact (@zag _ _ _ _ _ _ _ _ _ _ (@zbE _ _ _ _ _ _ _ _ _ _ _ _ (@zaF _ _ _ _ _ _ _ _ _ (@zew _ _ _ C) (@zab _ _ 0 _ _ (by rfl) (by walk_at "o3") (by decide) (by decide)) (@zab _ _ 1 _ _ (by rfl) (by walk_at "o3") (by decide) (by decide)) (by first | exact zak _ (by decide) (by decide) | rfl)) (@zai _ _ _ _ _ _ _ (@zpq _ _ _ _ _ _)) (@zaC _ _ _ _)) (@zai _ _ _ _ _ _ _ (@zat _ _ _ _ _ _ _ _ (@zaj _ _ _ _ _ _ _ _ _ _ C F_in_form (@zaa _ _ _ _ _ _ (@zaj _ _ _ _ _ _ _ _ _ _ C F_cross (@zaa _ _ _ _ _ _ (@zab _ _ 0 _ _ (by rfl) (by walk_at "o3") (by decide) (by decide)) (@zaa _ _ _ _ _ _ (@zab _ _ 1 _ _ (by rfl) (by walk_at "o3") (by decide) (by decide)) (@zad _ _) (by rfl)) (by rfl)) (by rfl) (by decide) (by rfl) (by rfl)) (@zad _ _) (by rfl)) (by rfl) (by decide) (by rfl) (by rfl)))))
abbrev zc3 : Stmt := top 26
theorem zhk : zay ["one", "other"] ["one", "other"] (zaf zc3) := ⟨rfl, rfl, rfl, by decide +kernel, rfl, by decide +kernel, by decide +kernel⟩
set_option maxHeartbeats 4000000 in
theorem zlB {P : Program} {w : World} {K : PySem.W.Frag} {mg : Str → Option Value} {base : Heap} {f : Addr} {fd : FuncData} {k : Nat} (F : Fun K "through" "through" zc3 f fd) (hm : mg "through" = some (.ref f)) (hb : za8 K fd ["one", "other"] []) (F_between_two : zav P w K mg base k "between_two" zbC) : zav P w K mg base (k + 1) "through" zaI := by
 refine zav.mk' (own' := []) F zhk hm hb rfl rfl fun X E hX C L => ?_
 obtain ⟨cdv, A, outer, s, H, rfl⟩ := hX
 have nd := zhk.nd
 exact (@zai _ _ _ _ _ _ _ (@zat _ _ _ _ _ _ _ _ (@zaj _ _ _ _ _ _ _ _ _ _ C F_between_two (@zaa _ _ _ _ _ _ (@zab _ _ 0 _ _ (by rfl) (by walk_at "o3") (by decide) (by decide)) (@zaa _ _ _ _ _ _ (@zab _ _ 1 _ _ (by rfl) (by walk_at "o3") (by decide) (by decide)) (@zad _ _) (by rfl)) (by rfl)) (by rfl) (by decide) (by rfl) (by rfl))))
abbrev zlC : Stmt := top 24
theorem zqn : zay ["one", "other"] ["one", "other"] (zaf zlC) := ⟨rfl, rfl, rfl, by decide +kernel, rfl, by decide +kernel, by decide +kernel⟩
set_option maxHeartbeats 4000000 in
theorem zty {P : Program} {w : World} {K : PySem.W.Frag} {mg : Str → Option Value} {base : Heap} {f : Addr} {fd : FuncData} {k : Nat} (F : Fun K "dot" "dot" zlC f fd) (hm : mg "dot" = some (.ref f)) (hb : za8 K fd ["one", "other"] []) : zav P w K mg base (k + 1) "dot" zoZ := by
 refine zav.mk' (own' := []) F zqn hm hb rfl rfl fun X E hX C L => ?_
 obtain ⟨cdv, A, outer, s, H, rfl⟩ := hX
 have nd := zqn.nd
 exact (@zai _ _ _ _ _ _ _ (@zat _ _ _ _ _ _ _ _ (@za3 _ _ _ _ _ _ _ (@za3 _ _ _ _ _ _ _ (@za5 _ _ _ _ _ _ _ (@zaP _ _ _ _ _ _ _ (@zab _ _ 0 _ _ (by rfl) (by walk_at "o3") (by decide) (by decide)) (@zae _ _ _ _ _) (by intro _ _ ; rfl)) (@zaP _ _ _ _ _ _ _ (@zab _ _ 1 _ _ (by rfl) (by walk_at "o3") (by decide) (by decide)) (@zae _ _ _ _ _) (by intro _ _ ; rfl))) (@za5 _ _ _ _ _ _ _ (@zaP _ _ _ _ _ _ _ (@zab _ _ 0 _ _ (by rfl) (by walk_at "o3") (by decide) (by decide)) (@zae _ _ _ _ _) (by intro _ _ ; rfl)) (@zaP _ _ _ _ _ _ _ (@zab _ _ 1 _ _ (by rfl) (by walk_at "o3") (by decide) (by decide)) (@zae _ _ _ _ _) (by intro _ _ ; rfl)))) (@za5 _ _ _ _ _ _ _ (@zaP _ _ _ _ _ _ _ (@zab _ _ 0 _ _ (by rfl) (by walk_at "o3") (by decide) (by decide)) (@zae _ _ _ _ _) (by intro _ _ ; rfl)) (@zaP _ _ _ _ _ _ _ (@zab _ _ 1 _ _ (by rfl) (by walk_at "o3") (by decide) (by decide)) (@zae _ _ _ _ _) (by intro _ _ ; rfl))))))
abbrev zhl : Stmt := top 23
theorem zn2 : zay ["place", "line"] ["place", "line"] (zaf zhl) := ⟨rfl, rfl, rfl, by decide +kernel, rfl, by decide +kernel, by decide +kernel⟩
set_option maxHeartbeats 4000000 in
theorem zrG {P : Program} {w : World} {K : PySem.W.Frag} {mg : Str → Option Value} {base : Heap} {f : Addr} {fd : FuncData} {k : Nat} (F : Fun K "lies" "lies" zhl f fd) (hm : mg "lies" = some (.ref f)) (hb : za8 K fd ["place", "line"] []) (F_dot : zav P w K mg base k "dot" zoZ) : zav P w K mg base (k + 1) "lies" zcc := by
 refine zav.mk' (own' := []) F zn2 hm hb rfl rfl fun X E hX C L => ?_
 obtain ⟨cdv, A, outer, s, H, rfl⟩ := hX
 have nd := zn2.nd
 exact (@zai _ _ _ _ _ _ _ (@zat _ _ _ _ _ _ _ _ (@zdb _ _ _ _ _ _ _ _ _ (@zew _ _ _ C) (@zaj _ _ _ _ _ _ _ _ _ _ C F_dot (@zaa _ _ _ _ _ _ (@zab _ _ 0 _ _ (by rfl) (by walk_at "o3") (by decide) (by decide)) (@zaa _ _ _ _ _ _ (@zab _ _ 1 _ _ (by rfl) (by walk_at "o3") (by decide) (by decide)) (@zad _ _) (by rfl)) (by rfl)) (by rfl) (by decide) (by rfl) (by rfl)) (@zae _ _ _ _ _) (by first | exact zak _ (by decide) (by decide) | rfl))))
abbrev zbH : Stmt := top 34
theorem zfh : zay ["floor", "a", "b", "c", "sides", "d"] ["floor", "a", "b", "c"] (zaf zbH) := ⟨rfl, rfl, rfl, by decide +kernel, rfl, by decide +kernel, by decide +kernel⟩
set_option maxHeartbeats 4000000 in
theorem zjc {P : Program} {w : World} {K : PySem.W.Frag} {mg : Str → Option Value} {base : Heap} {f : Addr} {fd : FuncData} {k : Nat} (F : Fun K "fourth_of" "fourth_of" zbH f fd) (hm : mg "fourth_of" = some (.ref f)) (hb : za8 K fd ["floor", "a", "b", "c"] []) (n_range : mg "range" = none) (n_len : mg "len" = none) (n_any : mg "any" = none) (F_through : zav P w K mg base k "through" zaI) (F_lies : zav P w K mg base k "lies" zcc) : zav P w K mg base (k + 1) "fourth_of" zdg := by
 refine zav.mk' (own' := []) F zfh hm hb rfl rfl fun X E hX C L => ?_
 obtain ⟨cdv, A, outer, s, H, rfl⟩ := hX
 have nd := zfh.nd
 exact (@zag _ _ _ _ _ _ _ _ _ _ (@zas _ _ _ _ _ _ _ _ 4 nd (@DF.val _ _ _ _ (@zbq _ _ _ _ _ (@zaa _ _ _ _ _ _ (@zaj _ _ _ _ _ _ _ _ _ _ C F_through (@zaa _ _ _ _ _ _ (@zaP _ _ _ _ _ _ _ (@zab _ _ 0 _ _ (by rfl) (by walk_at "o3") (by decide) (by decide)) (@zab _ _ 1 _ _ (by rfl) (by walk_at "o3") (by decide) (by decide)) (by intro _ _ ; rfl)) (@zaa _ _ _ _ _ _ (@zaP _ _ _ _ _ _ _ (@zab _ _ 0 _ _ (by rfl) (by walk_at "o3") (by decide) (by decide)) (@zab _ _ 2 _ _ (by rfl) (by walk_at "o3") (by decide) (by decide)) (by intro _ _ ; rfl)) (@zad _ _) (by rfl)) (by rfl)) (by rfl) (by decide) (by rfl) (by rfl)) (@zaa _ _ _ _ _ _ (@zaj _ _ _ _ _ _ _ _ _ _ C F_through (@zaa _ _ _ _ _ _ (@zaP _ _ _ _ _ _ _ (@zab _ _ 0 _ _ (by rfl) (by walk_at "o3") (by decide) (by decide)) (@zab _ _ 2 _ _ (by rfl) (by walk_at "o3") (by decide) (by decide)) (by intro _ _ ; rfl)) (@zaa _ _ _ _ _ _ (@zaP _ _ _ _ _ _ _ (@zab _ _ 0 _ _ (by rfl) (by walk_at "o3") (by decide) (by decide)) (@zab _ _ 3 _ _ (by rfl) (by walk_at "o3") (by decide) (by decide)) (by intro _ _ ; rfl)) (@zad _ _) (by rfl)) (by rfl)) (by rfl) (by decide) (by rfl) (by rfl)) (@zaa _ _ _ _ _ _ (@zaj _ _ _ _ _ _ _ _ _ _ C F_through (@zaa _ _ _ _ _ _ (@zaP _ _ _ _ _ _ _ (@zab _ _ 0 _ _ (by rfl) (by walk_at "o3") (by decide) (by decide)) (@zab _ _ 1 _ _ (by rfl) (by walk_at "o3") (by decide) (by decide)) (by intro _ _ ; rfl)) (@zaa _ _ _ _ _ _ (@zaP _ _ _ _ _ _ _ (@zab _ _ 0 _ _ (by rfl) (by walk_at "o3") (by decide) (by decide)) (@zab _ _ 3 _ _ (by rfl) (by walk_at "o3") (by decide) (by decide)) (by intro _ _ ; rfl)) (@zad _ _) (by rfl)) (by rfl)) (by rfl) (by decide) (by rfl) (by rfl)) (@zad _ _) (by rfl)) (by rfl)) (by rfl)))) (by rfl) (by walk_at "o2") (by rfl) (by walk_at "o4")) (@zag _ _ _ _ _ _ _ _ _ _ (@zcI _ _ _ _ _ _ _ _ _ _ _ _ L C.calm (@zfO _ _ _ _ _ _ _ _ n_range (@zaa _ _ _ _ _ _ (@za3 _ _ _ _ _ _ _ (@zab _ _ 3 _ _ (by rfl) (by walk_at "o3") (by decide) (by decide)) (@zae _ _ _ _ _)) (@zaa _ _ _ _ _ _ (@zch _ _ _ _ _ _ _ n_len (@zaa _ _ _ _ _ _ (@zab _ _ 0 _ _ (by rfl) (by walk_at "o3") (by decide) (by decide)) (@zad _ _) (by rfl)) (by rfl) (by rfl) (by rfl)) (@zad _ _) (by rfl)) (by rfl)) (by rfl) (by rfl) (by rfl)) (@zaM _ _ 5 _ nd (by rfl) (by walk_at "o2") (by walk_at "o4")) (@zai _ _ _ _ _ _ _ (@zbE _ _ _ _ _ _ _ _ _ _ _ _ (@zb6 _ _ _ _ _ (@zbW _ _ _ _ (@zsY _ _ _ _ _ _ _ C.calm n_any (@zaa _ _ _ _ _ _ (@DF.val _ _ _ _ (@zhB _ _ _ _ _ _ _ _ _ _ _ _ _ _ _ C.calm (LC.of (k := 1) (NY := ["side", "floor", "a", "b", "c", "sides", "d"]) (N := ["floor", "a", "b", "c", "sides", "d"]) (sc0 := (zaf zbH)) rfl rfl (by decide +kernel)) rfl (@zcT _ _ _ _ _ (@zab _ _ 4 _ _ (by rfl) (by walk_at "o3") (by decide) (by decide))) (fun _ _ _ _ nd2 => ⟨(@zaM _ _ 0 _ nd2 (by rfl) (by walk_at "o2") (by walk_at "o4")), (@zc8 _ _), (@zaj _ _ _ _ _ _ _ _ _ _ (C.lc _ _ _ _ _ _) F_lies (@zaa _ _ _ _ _ _ (@zaP _ _ _ _ _ _ _ (@zab _ _ 1 _ _ (by rfl) (by walk_at "o3") (by decide) (by decide)) (@zab _ _ 6 _ _ (by rfl) (by walk_at "o3") (by decide) (by decide)) (by intro _ _ ; rfl)) (@zaa _ _ _ _ _ _ (@zab _ _ 0 _ _ (by rfl) (by walk_at "o3") (by decide) (by decide)) (@zad _ _) (by rfl)) (by rfl)) (by rfl) (by decide) (by rfl) (by rfl))⟩) (by intro _ ; rfl))) (@zad _ _) (by rfl)) (by rfl) (by rfl) (by rfl)) (by intro _ ; rfl))) (@zai _ _ _ _ _ _ _ (@zat _ _ _ _ _ _ _ _ (@zab _ _ 5 _ _ (by rfl) (by walk_at "o3") (by decide) (by decide)))) (@zaC _ _ _ _))) (by rfl) (by intro _ ; rfl)) (@zai _ _ _ _ _ _ _ (@zat _ _ _ _ _ _ _ _ (@zd3 _ _ _ _)))))
abbrev zcq : Stmt := top 33
theorem zgA : zay ["floor", "a", "b", "side", "c", "d"] ["floor"] (zaf zcq) := ⟨rfl, rfl, rfl, by decide +kernel, rfl, by decide +kernel, by decide +kernel⟩
set_option maxHeartbeats 4000000 in
theorem zjH {P : Program} {w : World} {K : PySem.W.Frag} {mg : Str → Option Value} {base : Heap} {f : Addr} {fd : FuncData} {k : Nat} (F : Fun K "frame_of" "frame_of" zcq f fd) (hm : mg "frame_of" = some (.ref f)) (hb : za8 K fd ["floor"] []) (n_range : mg "range" = none) (n_len : mg "len" = none) (F_look_at : zav P w K mg base k "look_at" zaJ) (F_through : zav P w K mg base k "through" zaI) (F_lies : zav P w K mg base k "lies" zcc) (F_fourth_of : zav P w K mg base k "fourth_of" zdg) : zav P w K mg base (k + 1) "frame_of" zaD := by
 refine zav.mk' (own' := []) F zgA hm hb rfl rfl fun X E hX C L => ?_
 obtain ⟨cdv, A, outer, s, H, rfl⟩ := hX
 have nd := zgA.nd
 exact (@zag _ _ _ _ _ _ _ _ _ _ (@zqZ _ _ _ _ _ _ _ (@zaj _ _ _ _ _ _ _ _ _ _ C F_look_at (@zaa _ _ _ _ _ _ (@zab _ _ 0 _ _ (by rfl) (by walk_at "o3") (by decide) (by decide)) (@zad _ _) (by rfl)) (by rfl) (by decide) (by rfl) (by rfl)) (by rfl)) (@zag _ _ _ _ _ _ _ _ _ _ (@zcI _ _ _ _ _ _ _ _ _ _ _ _ L C.calm (@zbr _ _ _ _ _ _ _ n_range (@zaa _ _ _ _ _ _ (@zch _ _ _ _ _ _ _ n_len (@zaa _ _ _ _ _ _ (@zab _ _ 0 _ _ (by rfl) (by walk_at "o3") (by decide) (by decide)) (@zad _ _) (by rfl)) (by rfl) (by rfl) (by rfl)) (@zad _ _) (by rfl)) (by rfl) (by rfl)) (@zaM _ _ 1 _ nd (by rfl) (by walk_at "o2") (by walk_at "o4")) (@zai _ _ _ _ _ _ _ (@zcI _ _ _ _ _ _ _ _ _ _ _ _ L C.calm (@zfO _ _ _ _ _ _ _ _ n_range (@zaa _ _ _ _ _ _ (@za3 _ _ _ _ _ _ _ (@zab _ _ 1 _ _ (by rfl) (by walk_at "o3") (by decide) (by decide)) (@zae _ _ _ _ _)) (@zaa _ _ _ _ _ _ (@zch _ _ _ _ _ _ _ n_len (@zaa _ _ _ _ _ _ (@zab _ _ 0 _ _ (by rfl) (by walk_at "o3") (by decide) (by decide)) (@zad _ _) (by rfl)) (by rfl) (by rfl) (by rfl)) (@zad _ _) (by rfl)) (by rfl)) (by rfl) (by rfl) (by rfl)) (@zaM _ _ 2 _ nd (by rfl) (by walk_at "o2") (by walk_at "o4")) (@zag _ _ _ _ _ _ _ _ _ _ (@zas _ _ _ _ _ _ _ _ 3 nd (@zaj _ _ _ _ _ _ _ _ _ _ C F_through (@zaa _ _ _ _ _ _ (@zaP _ _ _ _ _ _ _ (@zab _ _ 0 _ _ (by rfl) (by walk_at "o3") (by decide) (by decide)) (@zab _ _ 1 _ _ (by rfl) (by walk_at "o3") (by decide) (by decide)) (by intro _ _ ; rfl)) (@zaa _ _ _ _ _ _ (@zaP _ _ _ _ _ _ _ (@zab _ _ 0 _ _ (by rfl) (by walk_at "o3") (by decide) (by decide)) (@zab _ _ 2 _ _ (by rfl) (by walk_at "o3") (by decide) (by decide)) (by intro _ _ ; rfl)) (@zad _ _) (by rfl)) (by rfl)) (by rfl) (by decide) (by rfl) (by rfl)) (by rfl) (by walk_at "o2") (by rfl) (by walk_at "o4")) (@zai _ _ _ _ _ _ _ (@zcI _ _ _ _ _ _ _ _ _ _ _ _ L C.calm (@zfO _ _ _ _ _ _ _ _ n_range (@zaa _ _ _ _ _ _ (@za3 _ _ _ _ _ _ _ (@zab _ _ 2 _ _ (by rfl) (by walk_at "o3") (by decide) (by decide)) (@zae _ _ _ _ _)) (@zaa _ _ _ _ _ _ (@zch _ _ _ _ _ _ _ n_len (@zaa _ _ _ _ _ _ (@zab _ _ 0 _ _ (by rfl) (by walk_at "o3") (by decide) (by decide)) (@zad _ _) (by rfl)) (by rfl) (by rfl) (by rfl)) (@zad _ _) (by rfl)) (by rfl)) (by rfl) (by rfl) (by rfl)) (@zaM _ _ 4 _ nd (by rfl) (by walk_at "o2") (by walk_at "o4")) (@zai _ _ _ _ _ _ _ (@zbE _ _ _ _ _ _ _ _ _ _ _ _ (@zb6 _ _ _ _ _ (@zbW _ _ _ _ (@zaj _ _ _ _ _ _ _ _ _ _ C F_lies (@zaa _ _ _ _ _ _ (@zaP _ _ _ _ _ _ _ (@zab _ _ 0 _ _ (by rfl) (by walk_at "o3") (by decide) (by decide)) (@zab _ _ 4 _ _ (by rfl) (by walk_at "o3") (by decide) (by decide)) (by intro _ _ ; rfl)) (@zaa _ _ _ _ _ _ (@zab _ _ 3 _ _ (by rfl) (by walk_at "o3") (by decide) (by decide)) (@zad _ _) (by rfl)) (by rfl)) (by rfl) (by decide) (by rfl) (by rfl)) (by intro _ ; rfl))) (@zag _ _ _ _ _ _ _ _ _ _ (@zas _ _ _ _ _ _ _ _ 5 nd (@zaj _ _ _ _ _ _ _ _ _ _ C F_fourth_of (@zaa _ _ _ _ _ _ (@zab _ _ 0 _ _ (by rfl) (by walk_at "o3") (by decide) (by decide)) (@zaa _ _ _ _ _ _ (@zab _ _ 1 _ _ (by rfl) (by walk_at "o3") (by decide) (by decide)) (@zaa _ _ _ _ _ _ (@zab _ _ 2 _ _ (by rfl) (by walk_at "o3") (by decide) (by decide)) (@zaa _ _ _ _ _ _ (@zab _ _ 4 _ _ (by rfl) (by walk_at "o3") (by decide) (by decide)) (@zad _ _) (by rfl)) (by rfl)) (by rfl)) (by rfl)) (by rfl) (by decide) (by rfl) (by rfl)) (by rfl) (by walk_at "o2") (by rfl) (by walk_at "o4")) (@zai _ _ _ _ _ _ _ (@zbE _ _ _ _ _ _ _ _ _ _ _ _ (@zaF _ _ _ _ _ _ _ _ _ (@zj4 _) (@zab _ _ 5 _ _ (by rfl) (by walk_at "o3") (by decide) (by decide)) (@zd3 _ _ _ _) (by first | exact zak _ (by decide) (by decide) | rfl)) (@zai _ _ _ _ _ _ _ (@zat _ _ _ _ _ _ _ _ (@zbR _ _ _ _ _ _ (@zaa _ _ _ _ _ _ (@zab _ _ 1 _ _ (by rfl) (by walk_at "o3") (by decide) (by decide)) (@zaa _ _ _ _ _ _ (@zab _ _ 2 _ _ (by rfl) (by walk_at "o3") (by decide) (by decide)) (@zaa _ _ _ _ _ _ (@zab _ _ 4 _ _ (by rfl) (by walk_at "o3") (by decide) (by decide)) (@zaa _ _ _ _ _ _ (@zab _ _ 5 _ _ (by rfl) (by walk_at "o3") (by decide) (by decide)) (@zad _ _) (by rfl)) (by rfl)) (by rfl)) (by rfl))))) (@zaC _ _ _ _)))) (@zaC _ _ _ _))) (by rfl) (by intro _ ; rfl)))) (by rfl) (by intro _ ; rfl))) (by rfl) (by intro _ ; rfl)) (@zai _ _ _ _ _ _ _ (@zat _ _ _ _ _ _ _ _ (@zd3 _ _ _ _)))))
abbrev zcO : Stmt := top 28
theorem zjd : zay ["places", "others", "line"] ["places"] (zaf zcO) := ⟨rfl, rfl, rfl, by decide +kernel, rfl, by decide +kernel, by decide +kernel⟩
set_option maxHeartbeats 4000000 in
theorem zn3 {P : Program} {w : World} {K : PySem.W.Frag} {mg : Str → Option Value} {base : Heap} {f : Addr} {fd : FuncData} {k : Nat} (F : Fun K "on_one" "on_one" zcO f fd) (hm : mg "on_one" = some (.ref f)) (hb : za8 K fd ["places"] []) (n_len : mg "len" = none) (n_all : mg "all" = none) (F_through : zav P w K mg base k "through" zaI) (F_lies : zav P w K mg base k "lies" zcc) : zav P w K mg base (k + 1) "on_one" zbY := by
 refine zav.mk' (own' := []) F zjd hm hb rfl rfl fun X E hX C L => ?_
 obtain ⟨cdv, A, outer, s, H, rfl⟩ := hX
 have nd := zjd.nd
 exact (@zag _ _ _ _ _ _ _ _ _ _ (@zeu _ _ _ _ _ _ _ _ _ _ _ _ _ _ _ _ _ _ _ _ 1 C.calm nd (LC.of (k := 1) (NY := ["place", "places", "others", "line"]) (N := ["places", "others", "line"]) (sc0 := (zaf zcO)) rfl rfl (by decide +kernel)) rfl (@zcT _ _ _ _ _ (@zab _ _ 0 _ _ (by rfl) (by walk_at "o3") (by decide) (by decide))) (fun _ _ _ _ nd2 => ⟨(@zaM _ _ 0 _ nd2 (by rfl) (by walk_at "o2") (by walk_at "o4")), (@zfP _ _ _ _ (@zaF _ _ _ _ _ _ _ _ _ (@zfo _ _ _ (C.lc _ _ _ _ _ _)) (@zab _ _ 0 _ _ (by rfl) (by walk_at "o3") (by decide) (by decide)) (@zaP _ _ _ _ _ _ _ (@zab _ _ 1 _ _ (by rfl) (by walk_at "o3") (by decide) (by decide)) (@zae _ _ _ _ _) (by intro _ _ ; rfl)) (by first | exact zak _ (by decide) (by decide) | rfl))), (@zab _ _ 0 _ _ (by rfl) (by walk_at "o3") (by decide) (by decide))⟩) (by rfl) (by rfl) (by rfl) (by rfl) (by intro _ ; rfl)) (@zag _ _ _ _ _ _ _ _ _ _ (@zbE _ _ _ _ _ _ _ _ _ _ _ _ (@zaF _ _ _ _ _ _ _ _ _ (@zew _ _ _ C) (@zch _ _ _ _ _ _ _ n_len (@zaa _ _ _ _ _ _ (@zab _ _ 1 _ _ (by rfl) (by walk_at "o3") (by decide) (by decide)) (@zad _ _) (by rfl)) (by rfl) (by rfl) (by rfl)) (@zae _ _ _ _ _) (by first | exact zak _ (by decide) (by decide) | rfl)) (@zai _ _ _ _ _ _ _ (@zat _ _ _ _ _ _ _ _ (@zdu _ _ _ _ _))) (@zaC _ _ _ _)) (@zag _ _ _ _ _ _ _ _ _ _ (@zas _ _ _ _ _ _ _ _ 2 nd (@zaj _ _ _ _ _ _ _ _ _ _ C F_through (@zaa _ _ _ _ _ _ (@zaP _ _ _ _ _ _ _ (@zab _ _ 0 _ _ (by rfl) (by walk_at "o3") (by decide) (by decide)) (@zae _ _ _ _ _) (by intro _ _ ; rfl)) (@zaa _ _ _ _ _ _ (@zaP _ _ _ _ _ _ _ (@zab _ _ 1 _ _ (by rfl) (by walk_at "o3") (by decide) (by decide)) (@zae _ _ _ _ _) (by intro _ _ ; rfl)) (@zad _ _) (by rfl)) (by rfl)) (by rfl) (by decide) (by rfl) (by rfl)) (by rfl) (by walk_at "o2") (by rfl) (by walk_at "o4")) (@zai _ _ _ _ _ _ _ (@zat _ _ _ _ _ _ _ _ (@zmF _ _ _ _ _ _ _ C.calm n_all (@zaa _ _ _ _ _ _ (@DF.val _ _ _ _ (@zhB _ _ _ _ _ _ _ _ _ _ _ _ _ _ _ C.calm (LC.of (k := 1) (NY := ["place", "places", "others", "line"]) (N := ["places", "others", "line"]) (sc0 := (zaf zcO)) rfl rfl (by decide +kernel)) rfl (@zcT _ _ _ _ _ (@zab _ _ 1 _ _ (by rfl) (by walk_at "o3") (by decide) (by decide))) (fun _ _ _ _ nd2 => ⟨(@zaM _ _ 0 _ nd2 (by rfl) (by walk_at "o2") (by walk_at "o4")), (@zc8 _ _), (@zaj _ _ _ _ _ _ _ _ _ _ (C.lc _ _ _ _ _ _) F_lies (@zaa _ _ _ _ _ _ (@zab _ _ 0 _ _ (by rfl) (by walk_at "o3") (by decide) (by decide)) (@zaa _ _ _ _ _ _ (@zab _ _ 3 _ _ (by rfl) (by walk_at "o3") (by decide) (by decide)) (@zad _ _) (by rfl)) (by rfl)) (by rfl) (by decide) (by rfl) (by rfl))⟩) (by intro _ ; rfl))) (@zad _ _) (by rfl)) (by rfl) (by rfl) (by rfl)))))))
abbrev zcF : Stmt := top 36
theorem zhm : zay ["floor"] ["floor"] (zaf zcF) := ⟨rfl, rfl, rfl, by decide +kernel, rfl, by decide +kernel, by decide +kernel⟩
set_option maxHeartbeats 4000000 in
theorem zlD {P : Program} {w : World} {K : PySem.W.Frag} {mg : Str → Option Value} {base : Heap} {f : Addr} {fd : FuncData} {k : Nat} (F : Fun K "odd_peg" "odd_peg" zcF f fd) (hm : mg "odd_peg" = some (.ref f)) (hb : za8 K fd ["floor"] []) (n_min : mg "min" = none) (n_range : mg "range" = none) (n_len : mg "len" = none) (F_on_one : zav P w K mg base k "on_one" zbY) : zav P w K mg base (k + 1) "odd_peg" zeG := by
 refine zav.mk' (own' := []) F zhm hm hb rfl rfl fun X E hX C L => ?_
 obtain ⟨cdv, A, outer, s, H, rfl⟩ := hX
 have nd := zhm.nd
 exact (@zai _ _ _ _ _ _ _ (@zat _ _ _ _ _ _ _ _ (@zrt _ _ _ _ _ _ _ C.calm n_min (@zaa _ _ _ _ _ _ (@DF.val _ _ _ _ (@zhB _ _ _ _ _ _ _ _ _ _ _ _ _ _ _ C.calm (LC.of (k := 1) (NY := ["k", "floor"]) (N := ["floor"]) (sc0 := (zaf zcF)) rfl rfl (by decide +kernel)) rfl (@zbr _ _ _ _ _ _ _ n_range (@zaa _ _ _ _ _ _ (@zch _ _ _ _ _ _ _ n_len (@zaa _ _ _ _ _ _ (@zab _ _ 0 _ _ (by rfl) (by walk_at "o3") (by decide) (by decide)) (@zad _ _) (by rfl)) (by rfl) (by rfl) (by rfl)) (@zad _ _) (by rfl)) (by rfl) (by rfl)) (fun _ _ _ _ nd2 => ⟨(@zaM _ _ 0 _ nd2 (by rfl) (by walk_at "o2") (by walk_at "o4")), (@zfP _ _ _ _ (@zbW _ _ _ _ (@zaj _ _ _ _ _ _ _ _ _ _ (C.lc _ _ _ _ _ _) F_on_one (@zaa _ _ _ _ _ _ (@za3 _ _ _ _ _ _ _ (@ziB _ _ _ _ _ _ _ _ _ _ (@zab _ _ 1 _ _ (by rfl) (by walk_at "o3") (by decide) (by decide)) (@zem _ _) (@zdc _ _ _ _ (@zab _ _ 0 _ _ (by rfl) (by walk_at "o3") (by decide) (by decide)))) (@ziB _ _ _ _ _ _ _ _ _ _ (@zab _ _ 1 _ _ (by rfl) (by walk_at "o3") (by decide) (by decide)) (@zdc _ _ _ _ (@za3 _ _ _ _ _ _ _ (@zab _ _ 0 _ _ (by rfl) (by walk_at "o3") (by decide) (by decide)) (@zae _ _ _ _ _))) (@zem _ _))) (@zad _ _) (by rfl)) (by rfl) (by decide) (by rfl) (by rfl)) (by intro _ ; rfl))), (@zab _ _ 0 _ _ (by rfl) (by walk_at "o3") (by decide) (by decide))⟩) (by intro _ ; rfl))) (@zad _ _) (by rfl)) (by rfl) (by rfl) (by rfl))))
abbrev zc4 : Stmt := top 35
theorem zhn : zay ["floor", "frame"] ["floor"] (zaf zc4) := ⟨rfl, rfl, rfl, by decide +kernel, rfl, by decide +kernel, by decide +kernel⟩
set_option maxHeartbeats 4000000 in
theorem zlE {P : Program} {w : World} {K : PySem.W.Frag} {mg : Str → Option Value} {base : Heap} {f : Addr} {fd : FuncData} {k : Nat} (F : Fun K "kind_of" "kind_of" zc4 f fd) (hm : mg "kind_of" = some (.ref f)) (hb : za8 K fd ["floor"] []) (F_frame_of : zav P w K mg base k "frame_of" zaD) (F_on_one : zav P w K mg base k "on_one" zbY) (F_odd_peg : zav P w K mg base k "odd_peg" zeG) : zav P w K mg base (k + 1) "kind_of" za6 := by
 refine zav.mk' (own' := []) F zhn hm hb rfl rfl fun X E hX C L => ?_
 obtain ⟨cdv, A, outer, s, H, rfl⟩ := hX
 have nd := zhn.nd
 exact (@zag _ _ _ _ _ _ _ _ _ _ (@zas _ _ _ _ _ _ _ _ 1 nd (@zaj _ _ _ _ _ _ _ _ _ _ C F_frame_of (@zaa _ _ _ _ _ _ (@zab _ _ 0 _ _ (by rfl) (by walk_at "o3") (by decide) (by decide)) (@zad _ _) (by rfl)) (by rfl) (by decide) (by rfl) (by rfl)) (by rfl) (by walk_at "o2") (by rfl) (by walk_at "o4")) (@zag _ _ _ _ _ _ _ _ _ _ (@zbE _ _ _ _ _ _ _ _ _ _ _ _ (@zaF _ _ _ _ _ _ _ _ _ (@zj4 _) (@zab _ _ 1 _ _ (by rfl) (by walk_at "o3") (by decide) (by decide)) (@zd3 _ _ _ _) (by first | exact zak _ (by decide) (by decide) | rfl)) (@zai _ _ _ _ _ _ _ (@zat _ _ _ _ _ _ _ _ (@zbR _ _ _ _ _ _ (@zaa _ _ _ _ _ _ (@zg0 _ _ _ _ _) (@zaa _ _ _ _ _ _ (@zab _ _ 1 _ _ (by rfl) (by walk_at "o3") (by decide) (by decide)) (@zad _ _) (by rfl)) (by rfl))))) (@zaC _ _ _ _)) (@zag _ _ _ _ _ _ _ _ _ _ (@zbE _ _ _ _ _ _ _ _ _ _ _ _ (@zbW _ _ _ _ (@zaj _ _ _ _ _ _ _ _ _ _ C F_on_one (@zaa _ _ _ _ _ _ (@zab _ _ 0 _ _ (by rfl) (by walk_at "o3") (by decide) (by decide)) (@zad _ _) (by rfl)) (by rfl) (by decide) (by rfl) (by rfl)) (by intro _ ; rfl)) (@zai _ _ _ _ _ _ _ (@zat _ _ _ _ _ _ _ _ (@zbR _ _ _ _ _ _ (@zaa _ _ _ _ _ _ (@zg0 _ _ _ _ _) (@zad _ _) (by rfl))))) (@zaC _ _ _ _)) (@zai _ _ _ _ _ _ _ (@zat _ _ _ _ _ _ _ _ (@zbR _ _ _ _ _ _ (@zaa _ _ _ _ _ _ (@zg0 _ _ _ _ _) (@zaa _ _ _ _ _ _ (@zaj _ _ _ _ _ _ _ _ _ _ C F_odd_peg (@zaa _ _ _ _ _ _ (@zab _ _ 0 _ _ (by rfl) (by walk_at "o3") (by decide) (by decide)) (@zad _ _) (by rfl)) (by rfl) (by decide) (by rfl) (by rfl)) (@zad _ _) (by rfl)) (by rfl))))))))
abbrev ze2 : Stmt := top 37
theorem zk4 : zay ["floor", "lines", "j", "i"] ["floor"] (zaf ze2) := ⟨rfl, rfl, rfl, by decide +kernel, rfl, by decide +kernel, by decide +kernel⟩
set_option maxHeartbeats 4000000 in
theorem zpe {P : Program} {w : World} {K : PySem.W.Frag} {mg : Str → Option Value} {base : Heap} {f : Addr} {fd : FuncData} {k : Nat} (F : Fun K "comes" "comes" ze2 f fd) (hm : mg "comes" = some (.ref f)) (hb : za8 K fd ["floor"] []) {C_Endless : Addr} (c_Endless : mg "Endless" = some (.ref C_Endless)) (y_Endless : PySem.W.excIn K C_Endless [.type "ValueError", .type "Exception", .type "BaseException", .type "object"] "ValueError.__new__" = true) (x_Endless : zlk K mg "Endless" C_Endless) (n_range : mg "range" = none) (n_len : mg "len" = none) (F_frame_of : zav P w K mg base k "frame_of" zaD) (F_through : zav P w K mg base k "through" zaI) : zav P w K mg base (k + 1) "comes" zdH := by
 refine zav.mk' (own' := []) F zk4 hm hb rfl rfl fun X E hX C L => ?_
 obtain ⟨cdv, A, outer, s, H, rfl⟩ := hX
 have nd := zk4.nd
 exact (@zag _ _ _ _ _ _ _ _ _ _ (@zbE _ _ _ _ _ _ _ _ _ _ _ _ (@zaF _ _ _ _ _ _ _ _ _ (@zj4 _) (@zaj _ _ _ _ _ _ _ _ _ _ C F_frame_of (@zaa _ _ _ _ _ _ (@zab _ _ 0 _ _ (by rfl) (by walk_at "o3") (by decide) (by decide)) (@zad _ _) (by rfl)) (by rfl) (by decide) (by rfl) (by rfl)) (@zd3 _ _ _ _) (by first | exact zak _ (by decide) (by decide) | rfl)) (@zai _ _ _ _ _ _ _ (@ziC _ _ _ _ _ _ _ _ _ _ _ _ _ _ _ _ _ _ _ _ _ _ _ _ _ _ y_Endless x_Endless (by rfl) (by decide))) (@zaC _ _ _ _)) (@zag _ _ _ _ _ _ _ _ _ _ (@zjY _ _ _ _ _ _ _ _ _ _ 1 nd (@zbq _ _ _ _ _ (@zad _ _)) (by rfl) (by rfl) (by walk_at "o2") (by rfl) (by walk_at "o4")) (@zag _ _ _ _ _ _ _ _ _ _ (@zcI _ _ _ _ _ _ _ _ _ _ _ _ L C.calm (@zbr _ _ _ _ _ _ _ n_range (@zaa _ _ _ _ _ _ (@zch _ _ _ _ _ _ _ n_len (@zaa _ _ _ _ _ _ (@zab _ _ 0 _ _ (by rfl) (by walk_at "o3") (by decide) (by decide)) (@zad _ _) (by rfl)) (by rfl) (by rfl) (by rfl)) (@zad _ _) (by rfl)) (by rfl) (by rfl)) (@zaM _ _ 2 _ nd (by rfl) (by walk_at "o2") (by walk_at "o4")) (@zai _ _ _ _ _ _ _ (@zcI _ _ _ _ _ _ _ _ _ _ _ _ L C.calm (@zbr _ _ _ _ _ _ _ n_range (@zaa _ _ _ _ _ _ (@zab _ _ 2 _ _ (by rfl) (by walk_at "o3") (by decide) (by decide)) (@zad _ _) (by rfl)) (by rfl) (by rfl)) (@zaM _ _ 3 _ nd (by rfl) (by walk_at "o2") (by walk_at "o4")) (@zai _ _ _ _ _ _ _ (@zj1 _ _ _ _ _ _ _ _ 1 _ _ _ (@zaj _ _ _ _ _ _ _ _ _ _ C F_through (@zaa _ _ _ _ _ _ (@zaP _ _ _ _ _ _ _ (@zab _ _ 0 _ _ (by rfl) (by walk_at "o3") (by decide) (by decide)) (@zab _ _ 3 _ _ (by rfl) (by walk_at "o3") (by decide) (by decide)) (by intro _ _ ; rfl)) (@zaa _ _ _ _ _ _ (@zaP _ _ _ _ _ _ _ (@zab _ _ 0 _ _ (by rfl) (by walk_at "o3") (by decide) (by decide)) (@zab _ _ 2 _ _ (by rfl) (by walk_at "o3") (by decide) (by decide)) (by intro _ _ ; rfl)) (@zad _ _) (by rfl)) (by rfl)) (by rfl) (by decide) (by rfl) (by rfl)) (by rfl) (by rfl) (by walk_at "o3") (by decide) (by decide) (by rfl) (by rfl) (by rfl) (by rfl) (by rfl) (by rfl))) (by rfl) (by intro _ ; rfl))) (by rfl) (by intro _ ; rfl)) (@zfQ _ _ _ _ _ _ _ _ 1 (by rfl) (by rfl) (@zai _ _ _ _ _ _ _ (@zpq _ _ _ _ _ _))))))
abbrev zbk : Stmt := top 50
theorem zdQ : zay ["_law_how", "_law_thing", "_law_refused_here", "e"] ["_law_how", "_law_thing"] (zaf zbk) := ⟨rfl, rfl, rfl, by decide +kernel, rfl, by decide +kernel, by decide +kernel⟩
set_option maxHeartbeats 4000000 in
theorem zgB {P : Program} {w : World} {K : PySem.W.Frag} {mg : Str → Option Value} {base : Heap} {f : Addr} {fd : FuncData} {k : Nat} (F : Fun K "_law_refused" "_law_refused" zbk f fd) (hm : mg "_law_refused" = some (.ref f)) (hb : za8 K fd ["_law_how", "_law_thing"] []) {C_ChalkError : Addr} (c_ChalkError : mg "ChalkError" = some (.ref C_ChalkError)) (F_look_at : zav P w K mg base k "look_at" zaJ) (F_frame_of : zav P w K mg base k "frame_of" zaD) (F_kind_of : zav P w K mg base k "kind_of" za6) (F_comes : zav P w K mg base k "comes" zdH) (F__law_only : zav P w K mg base k "_law_only" zcl) : zav P w K mg base (k + 1) "_law_refused" zaw := by
 refine zav.mk' (own' := []) F zdQ hm hb rfl rfl fun X E hX C L => ?_
 obtain ⟨cdv, A, outer, s, H, rfl⟩ := hX
 have nd := zdQ.nd
 exact (@zag _ _ _ _ _ _ _ _ _ _ (@zas _ _ _ _ _ _ _ _ 2 nd (@zd3 _ _ _ _) (by rfl) (by walk_at "o2") (by rfl) (by walk_at "o4")) (@zag _ _ _ _ _ _ _ _ _ _ (@zs4 _ _ _ _ 3 _ _ _ _ _ _ _ _ _ rfl rfl nd c_ChalkError (@zoI _ _ _ (@znC _ _ _ _ _ _ _ _ _ 0 _ C.room (@zfC _ _ _ _ _ F_look_at (@zfC _ _ _ _ _ F_frame_of (@zfC _ _ _ _ _ F_kind_of (@zfC _ _ _ _ _ F_comes (@zrv _ _))))) (@zaa _ _ _ _ _ _ (@zab _ _ 1 _ _ (by rfl) (by walk_at "o3") (by decide) (by decide)) (@zad _ _) (by rfl)) (by rfl) (by walk_at "o3") (by decide) (by decide) (by rfl) (by rfl) (by rfl))) (fun _ => (@zai _ _ _ _ _ _ _ (@zas _ _ _ _ _ _ _ _ 2 nd (@zab _ _ 3 _ _ (by rfl) (by walk_at "o3") (by decide) (by decide)) (by rfl) (by walk_at "o2") (by rfl) (by walk_at "o4")))) (by rfl) (by rfl) (by rfl) (by decide)) (@zai _ _ _ _ _ _ _ (@zat _ _ _ _ _ _ _ _ (@zir _ _ _ _ _ _ _ _ (@zdb _ _ _ _ _ _ _ _ _ (@zj4 _) (@zab _ _ 2 _ _ (by rfl) (by walk_at "o3") (by decide) (by decide)) (@zd3 _ _ _ _) (by first | exact zak _ (by decide) (by decide) | rfl)) (@ziq _ _ _ _ _ _ (@zaj _ _ _ _ _ _ _ _ _ _ C F__law_only (@zaa _ _ _ _ _ _ (@zab _ _ 2 _ _ (by rfl) (by walk_at "o3") (by decide) (by decide)) (@zaa _ _ _ _ _ _ (@zae _ _ _ _ _) (@zad _ _) (by rfl)) (by rfl)) (by rfl) (by decide) (by rfl) (by rfl))))))))
abbrev zbP : Stmt := top 51
theorem zeU : zay ["_law_thing", "_law_due_here", "_law_found", "_law_how"] ["_law_thing"] (zaf zbP) := ⟨rfl, rfl, rfl, by decide +kernel, rfl, by decide +kernel, by decide +kernel⟩
set_option maxHeartbeats 4000000 in
theorem zh2 {P : Program} {w : World} {K : PySem.W.Frag} {mg : Str → Option Value} {base : Heap} {f : Addr} {fd : FuncData} {k : Nat} (F : Fun K "_law_right" "_law_right" zbP f fd) (hm : mg "_law_right" = some (.ref f)) (hb : za8 K fd ["_law_thing"] []) (n_isinstance : mg "isinstance" = none) (n_bool : mg "bool" = none) (F__law_due : zav P w K mg base k "_law_due" zaU) (F_is_floor : zav P w K mg base k "is_floor" zap) (F_look_at : zav P w K mg base k "look_at" zaJ) (F_comes : zav P w K mg base k "comes" zdH) (F_kind_of : zav P w K mg base k "kind_of" za6) (F_frame_of : zav P w K mg base k "frame_of" zaD) (F__law_refused : zav P w K mg base k "_law_refused" zaw) : zav P w K mg base (k + 1) "_law_right" zao := by
 refine zav.mk' (own' := []) F zeU hm hb rfl rfl fun X E hX C L => ?_
 obtain ⟨cdv, A, outer, s, H, rfl⟩ := hX
 have nd := zeU.nd
 exact (@zag _ _ _ _ _ _ _ _ _ _ (@zas _ _ _ _ _ _ _ _ 1 nd (@zaj _ _ _ _ _ _ _ _ _ _ C F__law_due (@zaa _ _ _ _ _ _ (@zab _ _ 0 _ _ (by rfl) (by walk_at "o3") (by decide) (by decide)) (@zad _ _) (by rfl)) (by rfl) (by decide) (by rfl) (by rfl)) (by rfl) (by walk_at "o2") (by rfl) (by walk_at "o4")) (@zag _ _ _ _ _ _ _ _ _ _ (@zas _ _ _ _ _ _ _ _ 2 nd (@zaj _ _ _ _ _ _ _ _ _ _ C F_is_floor (@zaa _ _ _ _ _ _ (@zab _ _ 0 _ _ (by rfl) (by walk_at "o3") (by decide) (by decide)) (@zad _ _) (by rfl)) (by rfl) (by decide) (by rfl) (by rfl)) (by rfl) (by walk_at "o2") (by rfl) (by walk_at "o4")) (@zag _ _ _ _ _ _ _ _ _ _ (@zbE _ _ _ _ _ _ _ _ _ _ _ _ (@DW.dt _ _ _ _ (@zhz _ _ _ _ _ _ _ _ (@zb6 _ _ _ _ _ (@zbW _ _ _ _ (@zbg _ _ _ _ _ _ _ n_isinstance (@zaa _ _ _ _ _ _ (@zab _ _ 2 _ _ (by rfl) (by walk_at "o3") (by decide) (by decide)) (@zaa _ _ _ _ _ _ (@zgF _ _ _ _ _ n_bool zjr (by rfl) (by decide) (by decide)) (@zad _ _) (by rfl)) (by rfl)) (by rfl) (by rfl) (by rfl)) (by intro _ ; rfl))) (@zet _ _ _ _ _ (@zaF _ _ _ _ _ _ _ _ _ (@zfo _ _ _ C) (@zab _ _ 2 _ _ (by rfl) (by walk_at "o3") (by decide) (by decide)) (@zab _ _ 1 _ _ (by rfl) (by walk_at "o3") (by decide) (by decide)) (by first | exact zak _ (by decide) (by decide) | rfl))))) (@zai _ _ _ _ _ _ _ (@zat _ _ _ _ _ _ _ _ (@zdu _ _ _ _ _))) (@zaC _ _ _ _)) (@zag _ _ _ _ _ _ _ _ _ _ (@zbE _ _ _ _ _ _ _ _ _ _ _ _ (@zbW _ _ _ _ (@zab _ _ 1 _ _ (by rfl) (by walk_at "o3") (by decide) (by decide)) (by intro _ ; rfl)) (@zai _ _ _ _ _ _ _ (@zat _ _ _ _ _ _ _ _ (@zdb _ _ _ _ _ _ _ _ _ (@zuy _) (@zaj _ _ _ _ _ _ _ _ _ _ C F_look_at (@zaa _ _ _ _ _ _ (@zab _ _ 0 _ _ (by rfl) (by walk_at "o3") (by decide) (by decide)) (@zad _ _) (by rfl)) (by rfl) (by decide) (by rfl) (by rfl)) (@zd3 _ _ _ _) (by first | exact zak _ (by decide) (by decide) | rfl)))) (@zaC _ _ _ _)) (@zag _ _ _ _ _ _ _ _ _ _ (@zcI _ _ _ _ _ _ _ _ _ _ _ _ L C.calm (@zcT _ _ _ _ _ (@DF.val _ _ _ _ (@zbq _ _ _ _ _ (@zaa _ _ _ _ _ _ (@zoX _ _ _ _ _ _ F_look_at (by rfl) (by decide)) (@zaa _ _ _ _ _ _ (@zoX _ _ _ _ _ _ F_frame_of (by rfl) (by decide)) (@zaa _ _ _ _ _ _ (@zoX _ _ _ _ _ _ F_kind_of (by rfl) (by decide)) (@zaa _ _ _ _ _ _ (@zoX _ _ _ _ _ _ F_comes (by rfl) (by decide)) (@zad _ _) (by rfl)) (by rfl)) (by rfl)) (by rfl))))) (@zaM _ _ 3 _ nd (by rfl) (by walk_at "o2") (by walk_at "o4")) (@zai _ _ _ _ _ _ _ (@zbE _ _ _ _ _ _ _ _ _ _ _ _ (@zb6 _ _ _ _ _ (@zbW _ _ _ _ (@zaj _ _ _ _ _ _ _ _ _ _ C F__law_refused (@zaa _ _ _ _ _ _ (@zab _ _ 3 _ _ (by rfl) (by walk_at "o3") (by decide) (by decide)) (@zaa _ _ _ _ _ _ (@zab _ _ 0 _ _ (by rfl) (by walk_at "o3") (by decide) (by decide)) (@zad _ _) (by rfl)) (by rfl)) (by rfl) (by decide) (by rfl) (by rfl)) (by intro _ ; rfl))) (@zai _ _ _ _ _ _ _ (@zat _ _ _ _ _ _ _ _ (@zdu _ _ _ _ _))) (@zaC _ _ _ _))) (by rfl) (by intro _ ; rfl)) (@zai _ _ _ _ _ _ _ (@zat _ _ _ _ _ _ _ _ (@zdu _ _ _ _ _))))))))
abbrev zbl : Stmt := top 39
theorem zdR : zay ["_law_script", "_law_k"] ["_law_script", "_law_k"] (zaf zbl) := ⟨rfl, rfl, rfl, by decide +kernel, rfl, by decide +kernel, by decide +kernel⟩
set_option maxHeartbeats 4000000 in
theorem zgC {P : Program} {w : World} {K : PySem.W.Frag} {mg : Str → Option Value} {base : Heap} {f : Addr} {fd : FuncData} {k : Nat} (F : Fun K "_law_cell_at" "_law_cell_at" zbl f fd) (hm : mg "_law_cell_at" = some (.ref f)) (hb : za8 K fd ["_law_script", "_law_k"] []) (n_len : mg "len" = none) : zav P w K mg base (k + 1) "_law_cell_at" zaS := by
 refine zav.mk' (own' := []) F zdR hm hb rfl rfl fun X E hX C L => ?_
 obtain ⟨cdv, A, outer, s, H, rfl⟩ := hX
 have nd := zdR.nd
 exact (@zag _ _ _ _ _ _ _ _ _ _ (@zbE _ _ _ _ _ _ _ _ _ _ _ _ (@zaF _ _ _ _ _ _ _ _ _ (@zoz _) (@zab _ _ 1 _ _ (by rfl) (by walk_at "o3") (by decide) (by decide)) (@zch _ _ _ _ _ _ _ n_len (@zaa _ _ _ _ _ _ (@zab _ _ 0 _ _ (by rfl) (by walk_at "o3") (by decide) (by decide)) (@zad _ _) (by rfl)) (by rfl) (by rfl) (by rfl)) (by first | exact zak _ (by decide) (by decide) | rfl)) (@zai _ _ _ _ _ _ _ (@zat _ _ _ _ _ _ _ _ (@zaP _ _ _ _ _ _ _ (@zab _ _ 0 _ _ (by rfl) (by walk_at "o3") (by decide) (by decide)) (@zab _ _ 1 _ _ (by rfl) (by walk_at "o3") (by decide) (by decide)) (by intro _ _ ; rfl)))) (@zaC _ _ _ _)) (@zai _ _ _ _ _ _ _ (@zat _ _ _ _ _ _ _ _ (@zae _ _ _ _ _))))
abbrev zcr : Stmt := top 49
theorem zgD : zay ["_law_floor_here", "_law_cell", "_law_x", "_law_y", "_law_z", "_law_some"] ["_law_floor_here", "_law_cell"] (zaf zcr) := ⟨rfl, rfl, rfl, by decide +kernel, rfl, by decide +kernel, by decide +kernel⟩
set_option maxHeartbeats 4000000 in
theorem zjI {P : Program} {w : World} {K : PySem.W.Frag} {mg : Str → Option Value} {base : Heap} {f : Addr} {fd : FuncData} {k : Nat} (F : Fun K "_law_odd" "_law_odd" zcr f fd) (hm : mg "_law_odd" = some (.ref f)) (hb : za8 K fd ["_law_floor_here", "_law_cell"] []) (n_len : mg "len" = none) (F__law_mix : zav P w K mg base k "_law_mix" zaG) (F__law_spot : zav P w K mg base k "_law_spot" zaV) : zav P w K mg base (k + 1) "_law_odd" zbL := by
 refine zav.mk' (own' := []) F zgD hm hb rfl rfl fun X E hX C L => ?_
 obtain ⟨cdv, A, outer, s, H, rfl⟩ := hX
 have nd := zgD.nd
 exact (@zag _ _ _ _ _ _ _ _ _ _ (@zpr _ _ _ _ _ _ _ _ _ _ (@zaP _ _ _ _ _ _ _ (@zab _ _ 0 _ _ (by rfl) (by walk_at "o3") (by decide) (by decide)) (@zby _ _ _ _ _ _ _ (@zaj _ _ _ _ _ _ _ _ _ _ C F__law_mix (@zaa _ _ _ _ _ _ (@zab _ _ 1 _ _ (by rfl) (by walk_at "o3") (by decide) (by decide)) (@zaa _ _ _ _ _ _ (@zae _ _ _ _ _) (@zad _ _) (by rfl)) (by rfl)) (by rfl) (by decide) (by rfl) (by rfl)) (@zch _ _ _ _ _ _ _ n_len (@zaa _ _ _ _ _ _ (@zab _ _ 0 _ _ (by rfl) (by walk_at "o3") (by decide) (by decide)) (@zad _ _) (by rfl)) (by rfl) (by rfl) (by rfl))) (by intro _ _ ; rfl)) (@zmt _ _ _ _ [2, 3, 4] 3 C.calm (@zc7 _ _ _ _ _ (@zdy _ _ (2) _ nd rfl (by walk_at "o2") (by walk_at "o4")) (@zc7 _ _ _ _ _ (@zdy _ _ (3) _ nd rfl (by walk_at "o2") (by walk_at "o4")) (@zc7 _ _ _ _ _ (@zdy _ _ (4) _ nd rfl (by walk_at "o2") (by walk_at "o4")) (@zjh _) (by rfl)) (by rfl)) (by rfl)) (by rfl) (by rfl) (by rfl)) (by rfl) (by rfl) (by rfl) (by rfl)) (@zag _ _ _ _ _ _ _ _ _ _ (@zas _ _ _ _ _ _ _ _ 5 nd (@DF.val _ _ _ _ (@zbq _ _ _ _ _ (@zaa _ _ _ _ _ _ (@zbR _ _ _ _ _ _ (@zaa _ _ _ _ _ _ (@zab _ _ 2 _ _ (by rfl) (by walk_at "o3") (by decide) (by decide)) (@zaa _ _ _ _ _ _ (@zab _ _ 3 _ _ (by rfl) (by walk_at "o3") (by decide) (by decide)) (@zaa _ _ _ _ _ _ (@zab _ _ 4 _ _ (by rfl) (by walk_at "o3") (by decide) (by decide)) (@zad _ _) (by rfl)) (by rfl)) (by rfl))) (@zaa _ _ _ _ _ _ (@zaj _ _ _ _ _ _ _ _ _ _ C F__law_spot (@zaa _ _ _ _ _ _ (@zab _ _ 1 _ _ (by rfl) (by walk_at "o3") (by decide) (by decide)) (@zaa _ _ _ _ _ _ (@zae _ _ _ _ _) (@zad _ _) (by rfl)) (by rfl)) (by rfl) (by decide) (by rfl) (by rfl)) (@zaa _ _ _ _ _ _ (@zbR _ _ _ _ _ _ (@zaa _ _ _ _ _ _ (@za5 _ _ _ _ _ _ _ (@zae _ _ _ _ _) (@zab _ _ 2 _ _ (by rfl) (by walk_at "o3") (by decide) (by decide))) (@zaa _ _ _ _ _ _ (@za5 _ _ _ _ _ _ _ (@zae _ _ _ _ _) (@zab _ _ 3 _ _ (by rfl) (by walk_at "o3") (by decide) (by decide))) (@zaa _ _ _ _ _ _ (@za5 _ _ _ _ _ _ _ (@zae _ _ _ _ _) (@zab _ _ 4 _ _ (by rfl) (by walk_at "o3") (by decide) (by decide))) (@zad _ _) (by rfl)) (by rfl)) (by rfl))) (@zaa _ _ _ _ _ _ (@zbR _ _ _ _ _ _ (@zaa _ _ _ _ _ _ (@zdl _ _ _ _ _ _ _ (@zae _ _ _ _ _) (@zab _ _ 2 _ _ (by rfl) (by walk_at "o3") (by decide) (by decide))) (@zaa _ _ _ _ _ _ (@zdl _ _ _ _ _ _ _ (@zae _ _ _ _ _) (@zab _ _ 3 _ _ (by rfl) (by walk_at "o3") (by decide) (by decide))) (@zaa _ _ _ _ _ _ (@zdl _ _ _ _ _ _ _ (@zae _ _ _ _ _) (@zab _ _ 4 _ _ (by rfl) (by walk_at "o3") (by decide) (by decide))) (@zad _ _) (by rfl)) (by rfl)) (by rfl))) (@zaa _ _ _ _ _ _ (@zbR _ _ _ _ _ _ (@zaa _ _ _ _ _ _ (@zae _ _ _ _ _) (@zaa _ _ _ _ _ _ (@zae _ _ _ _ _) (@zaa _ _ _ _ _ _ (@zae _ _ _ _ _) (@zad _ _) (by rfl)) (by rfl)) (by rfl))) (@zaa _ _ _ _ _ _ (@DF.val _ _ _ _ (@zbq _ _ _ _ _ (@zaa _ _ _ _ _ _ (@zab _ _ 2 _ _ (by rfl) (by walk_at "o3") (by decide) (by decide)) (@zaa _ _ _ _ _ _ (@zab _ _ 3 _ _ (by rfl) (by walk_at "o3") (by decide) (by decide)) (@zaa _ _ _ _ _ _ (@zab _ _ 4 _ _ (by rfl) (by walk_at "o3") (by decide) (by decide)) (@zad _ _) (by rfl)) (by rfl)) (by rfl)))) (@zaa _ _ _ _ _ _ (@zbR _ _ _ _ _ _ (@zaa _ _ _ _ _ _ (@zab _ _ 2 _ _ (by rfl) (by walk_at "o3") (by decide) (by decide)) (@zaa _ _ _ _ _ _ (@zab _ _ 3 _ _ (by rfl) (by walk_at "o3") (by decide) (by decide)) (@zad _ _) (by rfl)) (by rfl))) (@zad _ _) (by rfl)) (by rfl)) (by rfl)) (by rfl)) (by rfl)) (by rfl)) (by rfl)))) (by rfl) (by walk_at "o2") (by rfl) (by walk_at "o4")) (@zag _ _ _ _ _ _ _ _ _ _ (@zas _ _ _ _ _ _ _ _ 5 nd (@za3 _ _ _ _ _ _ _ (@zab _ _ 5 _ _ (by rfl) (by walk_at "o3") (by decide) (by decide)) (@DF.val _ _ _ _ (@zbq _ _ _ _ _ (@zaa _ _ _ _ _ _ (@zd3 _ _ _ _) (@zaa _ _ _ _ _ _ (@zbR _ _ _ _ _ _ (@zaa _ _ _ _ _ _ (@zab _ _ 2 _ _ (by rfl) (by walk_at "o3") (by decide) (by decide)) (@zaa _ _ _ _ _ _ (@zab _ _ 3 _ _ (by rfl) (by walk_at "o3") (by decide) (by decide)) (@zaa _ _ _ _ _ _ (@zab _ _ 4 _ _ (by rfl) (by walk_at "o3") (by decide) (by decide)) (@zaa _ _ _ _ _ _ (@zae _ _ _ _ _) (@zad _ _) (by rfl)) (by rfl)) (by rfl)) (by rfl))) (@zaa _ _ _ _ _ _ (@zbR _ _ _ _ _ _ (@zaa _ _ _ _ _ _ (@zdu _ _ _ _ _) (@zaa _ _ _ _ _ _ (@zae _ _ _ _ _) (@zaa _ _ _ _ _ _ (@zae _ _ _ _ _) (@zad _ _) (by rfl)) (by rfl)) (by rfl))) (@zaa _ _ _ _ _ _ (@zbR _ _ _ _ _ _ (@zaa _ _ _ _ _ _ (@zg0 _ _ _ _ _) (@zaa _ _ _ _ _ _ (@zae _ _ _ _ _) (@zaa _ _ _ _ _ _ (@zae _ _ _ _ _) (@zad _ _) (by rfl)) (by rfl)) (by rfl))) (@zaa _ _ _ _ _ _ (@zbR _ _ _ _ _ _ (@zaa _ _ _ _ _ _ (@zae _ _ _ _ _) (@zaa _ _ _ _ _ _ (@zae _ _ _ _ _) (@zaa _ _ _ _ _ _ (@zdu _ _ _ _ _) (@zad _ _) (by rfl)) (by rfl)) (by rfl))) (@zaa _ _ _ _ _ _ (@zaj _ _ _ _ _ _ _ _ _ _ C F__law_spot (@zaa _ _ _ _ _ _ (@zab _ _ 1 _ _ (by rfl) (by walk_at "o3") (by decide) (by decide)) (@zaa _ _ _ _ _ _ (@zae _ _ _ _ _) (@zad _ _) (by rfl)) (by rfl)) (by rfl) (by decide) (by rfl) (by rfl)) (@zad _ _) (by rfl)) (by rfl)) (by rfl)) (by rfl)) (by rfl)) (by rfl))))) (by rfl) (by walk_at "o2") (by rfl) (by walk_at "o4")) (@zai _ _ _ _ _ _ _ (@zat _ _ _ _ _ _ _ _ (@zaP _ _ _ _ _ _ _ (@zab _ _ 5 _ _ (by rfl) (by walk_at "o3") (by decide) (by decide)) (@zby _ _ _ _ _ _ _ (@zaj _ _ _ _ _ _ _ _ _ _ C F__law_mix (@zaa _ _ _ _ _ _ (@zab _ _ 1 _ _ (by rfl) (by walk_at "o3") (by decide) (by decide)) (@zaa _ _ _ _ _ _ (@zae _ _ _ _ _) (@zad _ _) (by rfl)) (by rfl)) (by rfl) (by decide) (by rfl) (by rfl)) (@zae _ _ _ _ _)) (by intro _ _ ; rfl)))))))
abbrev zgR : Stmt := top 52
theorem zqo : zay ["_law_script", "_law_floor_here", "_law_cell", "_law_at", "_law_skip", "_law_thing", "_law_handed", "_law_great"] ["_law_script"] (zaf zgR) := ⟨rfl, rfl, rfl, by decide +kernel, rfl, by decide +kernel, by decide +kernel⟩
set_option maxHeartbeats 4000000 in
theorem ztz {P : Program} {w : World} {K : PySem.W.Frag} {mg : Str → Option Value} {base : Heap} {f : Addr} {fd : FuncData} {k : Nat} (F : Fun K "law" "law" zgR f fd) (n_len : mg "len" = none) (n_range : mg "range" = none) (n_list : mg "list" = none) (n_tuple : mg "tuple" = none) (F__law_floor : zav P w K mg base k "_law_floor" zb0) (F__law_cell_at : zav P w K mg base k "_law_cell_at" zaS) (F__law_mix : zav P w K mg base k "_law_mix" zaG) (F__law_odd : zav P w K mg base k "_law_odd" zbL) (F__law_right : zav P w K mg base k "_law_right" zao) : zgT P w K mg base (CXe P w) (k + 1) f fd ["_law_script"] (spD K mg zeQ) := by
 refine zq7 (own' := []) F zqo rfl rfl fun X E hX C L => ?_
 obtain ⟨cdv, A, outer, s, H, rfl⟩ := hX
 have nd := zqo.nd
 exact (@zag _ _ _ _ _ _ _ _ _ _ (@zas _ _ _ _ _ _ _ _ 1 nd (@zaj _ _ _ _ _ _ _ _ _ _ C F__law_floor (@zaa _ _ _ _ _ _ (@zaj _ _ _ _ _ _ _ _ _ _ C F__law_cell_at (@zaa _ _ _ _ _ _ (@zab _ _ 0 _ _ (by rfl) (by walk_at "o3") (by decide) (by decide)) (@zaa _ _ _ _ _ _ (@zae _ _ _ _ _) (@zad _ _) (by rfl)) (by rfl)) (by rfl) (by decide) (by rfl) (by rfl)) (@zaa _ _ _ _ _ _ (@zaj _ _ _ _ _ _ _ _ _ _ C F__law_cell_at (@zaa _ _ _ _ _ _ (@zab _ _ 0 _ _ (by rfl) (by walk_at "o3") (by decide) (by decide)) (@zaa _ _ _ _ _ _ (@zae _ _ _ _ _) (@zad _ _) (by rfl)) (by rfl)) (by rfl) (by decide) (by rfl) (by rfl)) (@zad _ _) (by rfl)) (by rfl)) (by rfl) (by decide) (by rfl) (by rfl)) (by rfl) (by walk_at "o2") (by rfl) (by walk_at "o4")) (@zag _ _ _ _ _ _ _ _ _ _ (@zcI _ _ _ _ _ _ _ _ _ _ _ _ L C.calm (@zcT _ _ _ _ _ (@za3 _ _ _ _ _ _ _ (@ziB _ _ _ _ _ _ _ _ _ _ (@zab _ _ 0 _ _ (by rfl) (by walk_at "o3") (by decide) (by decide)) (@zdc _ _ _ _ (@zae _ _ _ _ _)) (@zdc _ _ _ _ (@zae _ _ _ _ _))) (@DF.val _ _ _ _ (@zbq _ _ _ _ _ (@zaa _ _ _ _ _ _ (@zae _ _ _ _ _) (@zad _ _) (by rfl)))))) (@zaM _ _ 2 _ nd (by rfl) (by walk_at "o2") (by walk_at "o4")) (@zag _ _ _ _ _ _ _ _ _ _ (@zas _ _ _ _ _ _ _ _ 3 nd (@zby _ _ _ _ _ _ _ (@zaj _ _ _ _ _ _ _ _ _ _ C F__law_mix (@zaa _ _ _ _ _ _ (@zab _ _ 2 _ _ (by rfl) (by walk_at "o3") (by decide) (by decide)) (@zaa _ _ _ _ _ _ (@zae _ _ _ _ _) (@zad _ _) (by rfl)) (by rfl)) (by rfl) (by decide) (by rfl) (by rfl)) (@za3 _ _ _ _ _ _ _ (@zch _ _ _ _ _ _ _ n_len (@zaa _ _ _ _ _ _ (@zab _ _ 1 _ _ (by rfl) (by walk_at "o3") (by decide) (by decide)) (@zad _ _) (by rfl)) (by rfl) (by rfl) (by rfl)) (@zae _ _ _ _ _))) (by rfl) (by walk_at "o2") (by rfl) (by walk_at "o4")) (@zai _ _ _ _ _ _ _ (@zcI _ _ _ _ _ _ _ _ _ _ _ _ L C.calm (@zbr _ _ _ _ _ _ _ n_range (@zaa _ _ _ _ _ _ (@zae _ _ _ _ _) (@zad _ _) (by rfl)) (by rfl) (by rfl)) (@zaM _ _ 4 _ nd (by rfl) (by walk_at "o2") (by walk_at "o4")) (@zag _ _ _ _ _ _ _ _ _ _ (@zas _ _ _ _ _ _ _ _ 5 nd (@za3 _ _ _ _ _ _ _ (@za3 _ _ _ _ _ _ _ (@ziB _ _ _ _ _ _ _ _ _ _ (@zab _ _ 1 _ _ (by rfl) (by walk_at "o3") (by decide) (by decide)) (@zem _ _) (@zdc _ _ _ _ (@zab _ _ 3 _ _ (by rfl) (by walk_at "o3") (by decide) (by decide)))) (@DF.val _ _ _ _ (@zbq _ _ _ _ _ (@zaa _ _ _ _ _ _ (@zaj _ _ _ _ _ _ _ _ _ _ C F__law_odd (@zaa _ _ _ _ _ _ (@zab _ _ 1 _ _ (by rfl) (by walk_at "o3") (by decide) (by decide)) (@zaa _ _ _ _ _ _ (@zab _ _ 2 _ _ (by rfl) (by walk_at "o3") (by decide) (by decide)) (@zad _ _) (by rfl)) (by rfl)) (by rfl) (by decide) (by rfl) (by rfl)) (@zad _ _) (by rfl))))) (@ziB _ _ _ _ _ _ _ _ _ _ (@zab _ _ 1 _ _ (by rfl) (by walk_at "o3") (by decide) (by decide)) (@zdc _ _ _ _ (@za3 _ _ _ _ _ _ _ (@zab _ _ 3 _ _ (by rfl) (by walk_at "o3") (by decide) (by decide)) (@zab _ _ 4 _ _ (by rfl) (by walk_at "o3") (by decide) (by decide)))) (@zem _ _))) (by rfl) (by walk_at "o2") (by rfl) (by walk_at "o4")) (@zag _ _ _ _ _ _ _ _ _ _ (@zas _ _ _ _ _ _ _ _ 6 nd (@DF.val _ _ _ _ (@zq6 _ _ _ _ _ _ _ n_list (@zaa _ _ _ _ _ _ (@zab _ _ 5 _ _ (by rfl) (by walk_at "o3") (by decide) (by decide)) (@zad _ _) (by rfl)) (by rfl) (by rfl) (by rfl))) (by rfl) (by walk_at "o2") (by rfl) (by walk_at "o4")) (@zai _ _ _ _ _ _ _ (@zbE _ _ _ _ _ _ _ _ _ _ _ _ (@DW.dt _ _ _ _ (@zhz _ _ _ _ _ _ _ _ (@zb6 _ _ _ _ _ (@zbW _ _ _ _ (@zaj _ _ _ _ _ _ _ _ _ _ C F__law_right (@zaa _ _ _ _ _ _ (@zab _ _ 6 _ _ (by rfl) (by walk_at "o3") (by decide) (by decide)) (@zad _ _) (by rfl)) (by rfl) (by decide) (by rfl) (by rfl)) (by intro _ ; rfl))) (@zet _ _ _ _ _ (@zaF _ _ _ _ _ _ _ _ _ (@zfo _ _ _ C) (@zab _ _ 6 _ _ (by rfl) (by walk_at "o3") (by decide) (by decide)) (@zab _ _ 5 _ _ (by rfl) (by walk_at "o3") (by decide) (by decide)) (by first | exact zak _ (by decide) (by decide) | rfl))))) (@zai _ _ _ _ _ _ _ (@zat _ _ _ _ _ _ _ _ (@zdu _ _ _ _ _))) (@zaC _ _ _ _))))) (by rfl) (by intro _ ; rfl)))) (by rfl) (by intro _ ; rfl)) (@zag _ _ _ _ _ _ _ _ _ _ (@zeu _ _ _ _ _ _ _ _ _ _ _ _ _ _ _ _ _ _ _ _ 7 C.calm nd (LC.of (k := 1) (NY := ["_law_k", "_law_script", "_law_floor_here", "_law_cell", "_law_at", "_law_skip", "_law_thing", "_law_handed", "_law_great"]) (N := ["_law_script", "_law_floor_here", "_law_cell", "_law_at", "_law_skip", "_law_thing", "_law_handed", "_law_great"]) (sc0 := (zaf zgR)) rfl rfl (by decide +kernel)) rfl (@zbr _ _ _ _ _ _ _ n_range (@zaa _ _ _ _ _ _ (@zae _ _ _ _ _) (@zad _ _) (by rfl)) (by rfl) (by rfl)) (fun _ _ _ _ nd2 => ⟨(@zaM _ _ 0 _ nd2 (by rfl) (by walk_at "o2") (by walk_at "o4")), (@zc8 _ _), (@zbR _ _ _ _ _ _ (@zaa _ _ _ _ _ _ (@zab _ _ 0 _ _ (by rfl) (by walk_at "o3") (by decide) (by decide)) (@zaa _ _ _ _ _ _ (@zae _ _ _ _ _) (@zaa _ _ _ _ _ _ (@zae _ _ _ _ _) (@zad _ _) (by rfl)) (by rfl)) (by rfl)))⟩) (by rfl) (by rfl) (by rfl) (by rfl) (by intro _ ; rfl)) (@zag _ _ _ _ _ _ _ _ _ _ (@zcI _ _ _ _ _ _ _ _ _ _ _ _ L C.calm (@zcT _ _ _ _ _ (@DF.val _ _ _ _ (@zbq _ _ _ _ _ (@zaa _ _ _ _ _ _ (@zab _ _ 7 _ _ (by rfl) (by walk_at "o3") (by decide) (by decide)) (@zaa _ _ _ _ _ _ (@ziB _ _ _ _ _ _ _ _ _ _ (@zab _ _ 7 _ _ (by rfl) (by walk_at "o3") (by decide) (by decide)) (@zem _ _) (@zdc _ _ _ _ (@zae _ _ _ _ _))) (@zaa _ _ _ _ _ _ (@ziB _ _ _ _ _ _ _ _ _ _ (@zab _ _ 7 _ _ (by rfl) (by walk_at "o3") (by decide) (by decide)) (@zem _ _) (@zdc _ _ _ _ (@zae _ _ _ _ _))) (@zaa _ _ _ _ _ _ (@DF.val _ _ _ _ (@zbq _ _ _ _ _ (@zad _ _))) (@zaa _ _ _ _ _ _ (@zj5 _ _ _ _ _ _ _ n_tuple (@zaa _ _ _ _ _ _ (@zab _ _ 1 _ _ (by rfl) (by walk_at "o3") (by decide) (by decide)) (@zad _ _) (by rfl)) (by rfl) (by rfl) (by rfl)) (@zaa _ _ _ _ _ _ (@zd3 _ _ _ _) (@zaa _ _ _ _ _ _ (@zae _ _ _ _ _) (@zaa _ _ _ _ _ _ (@zuK _ _ _) (@zaa _ _ _ _ _ _ (@zg0 _ _ _ _ _) (@zaa _ _ _ _ _ _ (@zdu _ _ _ _ _) (@zaa _ _ _ _ _ _ (@zaP _ _ _ _ _ _ _ (@zab _ _ 1 _ _ (by rfl) (by walk_at "o3") (by decide) (by decide)) (@zae _ _ _ _ _) (by intro _ _ ; rfl)) (@zaa _ _ _ _ _ _ (@DF.val _ _ _ _ (@zbq _ _ _ _ _ (@zaa _ _ _ _ _ _ (@zab _ _ 1 _ _ (by rfl) (by walk_at "o3") (by decide) (by decide)) (@zad _ _) (by rfl)))) (@zad _ _) (by rfl)) (by rfl)) (by rfl)) (by rfl)) (by rfl)) (by rfl)) (by rfl)) (by rfl)) (by rfl)) (by rfl)) (by rfl)) (by rfl))))) (@zaM _ _ 5 _ nd (by rfl) (by walk_at "o2") (by walk_at "o4")) (@zai _ _ _ _ _ _ _ (@zbE _ _ _ _ _ _ _ _ _ _ _ _ (@zb6 _ _ _ _ _ (@zbW _ _ _ _ (@zaj _ _ _ _ _ _ _ _ _ _ C F__law_right (@zaa _ _ _ _ _ _ (@zab _ _ 5 _ _ (by rfl) (by walk_at "o3") (by decide) (by decide)) (@zad _ _) (by rfl)) (by rfl) (by decide) (by rfl) (by rfl)) (by intro _ ; rfl))) (@zai _ _ _ _ _ _ _ (@zat _ _ _ _ _ _ _ _ (@zdu _ _ _ _ _))) (@zaC _ _ _ _))) (by rfl) (by intro _ ; rfl)) (@zai _ _ _ _ _ _ _ (@zat _ _ _ _ _ _ _ _ (@zaj _ _ _ _ _ _ _ _ _ _ C F__law_right (@zaa _ _ _ _ _ _ (@zab _ _ 1 _ _ (by rfl) (by walk_at "o3") (by decide) (by decide)) (@zad _ _) (by rfl)) (by rfl) (by decide) (by rfl) (by rfl))))))))
set_option maxHeartbeats 4000000 in
theorem all_mk {l : PySem.W.OpenLaw} {w : World} {K : PySem.W.Frag} {h : Heap} {mg : Str → Option Value} {fa f0 f1 f2 f3 f4 f5 f6 f7 f8 f9 f10 f11 f12 f13 f14 f15 f16 f17 f18 f19 f20 f21 f22 f23 f24 f25 f26 f27 f28 f29 f30 f31 : Addr} (X : K.In h) (G : h.Ns mainGlobals mg) (hfa : mg "law" = some (.ref fa))
  {od0 an0 od1 an1 od2 an2 od3 an3 od4 an4 od5 an5 od6 an6 od7 an7 od8 an8 od9 an9 od10 an10 od11 an11 od12 an12 od13 an13 od14 an14 od15 an15 od16 an16 od17 an17 od18 an18 od19 an19 od20 an20 od21 an21 od22 an22 od23 an23 od24 an24 od25 an25 od26 an26 od27 an27 od28 an28 od29 an29 od30 an30 od31 an31 : Option Addr} {sl0 sl1 sl2 sl3 sl4 sl5 sl6 sl7 sl8 sl9 sl10 sl11 sl12 sl13 sl14 sl15 sl16 sl17 sl18 sl19 sl20 sl21 sl22 sl23 sl24 sl25 sl26 sl27 sl28 sl29 sl30 sl31 : Array (Option Value)} {oc0 kV0 dc0 pm0 cd0 ct0 oc1 kV1 dc1 pm1 cd1 ct1 oc2 kV2 dc2 pm2 cd2 ct2 oc3 kV3 dc3 pm3 cd3 ct3 oc4 kV4 dc4 pm4 cd4 ct4 oc5 kV5 dc5 pm5 cd5 ct5 oc6 kV6 dc6 pm6 cd6 ct6 oc7 kV7 dc7 pm7 cd7 ct7 oc8 kV8 dc8 pm8 cd8 ct8 oc9 kV9 dc9 pm9 cd9 ct9 oc10 kV10 dc10 pm10 cd10 ct10 oc11 kV11 dc11 pm11 cd11 ct11 oc12 kV12 dc12 pm12 cd12 ct12 oc13 kV13 dc13 pm13 cd13 ct13 oc14 kV14 dc14 pm14 cd14 ct14 oc15 kV15 dc15 pm15 cd15 ct15 oc16 kV16 dc16 pm16 cd16 ct16 oc17 kV17 dc17 pm17 cd17 ct17 oc18 kV18 dc18 pm18 cd18 ct18 oc19 kV19 dc19 pm19 cd19 ct19 oc20 kV20 dc20 pm20 cd20 ct20 oc21 kV21 dc21 pm21 cd21 ct21 oc22 kV22 dc22 pm22 cd22 ct22 oc23 kV23 dc23 pm23 cd23 ct23 oc24 kV24 dc24 pm24 cd24 ct24 oc25 kV25 dc25 pm25 cd25 ct25 oc26 kV26 dc26 pm26 cd26 ct26 oc27 kV27 dc27 pm27 cd27 ct27 oc28 kV28 dc28 pm28 cd28 ct28 oc29 kV29 dc29 pm29 cd29 ct29 oc30 kV30 dc30 pm30 cd30 ct30 oc31 kV31 dc31 pm31 cd31 ct31 : Value}
  {C_ChalkError C_NoPlace C_Same C_NoFloor C_Endless C_NoDeed C_NoText C_NoName C_TooMany C_NoChange C_NoFrame C_NoValue C_Unlike C_NoRatio C_NoBow C_NoRow : Addr}
  (a0 : PySem.W.nsIn K mainGlobals "_law_mix" = some (some (.ref f0))) (l0 : K.lookup f0 = some ⟨oc0, od0, .func (PySem.W.fnOf "_law_mix" "_law_mix" (zaz zcm) (zar zcm) (zaf zcm) .none kV0 dc0 pm0 an0 cd0 ct0), sl0⟩) (c0 : PySem.W.codeIn K cd0 "_law_mix" = true) (k0 : PySem.W.keepIn K (.ref f0) = true)
  (a1 : PySem.W.nsIn K mainGlobals "_law_low" = some (some (.ref f1))) (l1 : K.lookup f1 = some ⟨oc1, od1, .func (PySem.W.fnOf "_law_low" "_law_low" (zaz zbN) (zar zbN) (zaf zbN) .none kV1 dc1 pm1 an1 cd1 ct1), sl1⟩) (c1 : PySem.W.codeIn K cd1 "_law_low" = true) (k1 : PySem.W.keepIn K (.ref f1) = true)
  (a2 : PySem.W.nsIn K mainGlobals "_law_spot" = some (some (.ref f2))) (l2 : K.lookup f2 = some ⟨oc2, od2, .func (PySem.W.fnOf "_law_spot" "_law_spot" (zaz zb3) (zar zb3) (zaf zb3) .none kV2 dc2 pm2 an2 cd2 ct2), sl2⟩) (c2 : PySem.W.codeIn K cd2 "_law_spot" = true) (k2 : PySem.W.keepIn K (.ref f2) = true)
  (a3 : PySem.W.nsIn K mainGlobals "_law_on_two" = some (some (.ref f3))) (l3 : K.lookup f3 = some ⟨oc3, od3, .func (PySem.W.fnOf "_law_on_two" "_law_on_two" (zaz zbd) (zar zbd) (zaf zbd) .none kV3 dc3 pm3 an3 cd3 ct3), sl3⟩) (c3 : PySem.W.codeIn K cd3 "_law_on_two" = true) (k3 : PySem.W.keepIn K (.ref f3) = true)
  (a4 : PySem.W.nsIn K mainGlobals "_law_floor" = some (some (.ref f4))) (l4 : K.lookup f4 = some ⟨oc4, od4, .func (PySem.W.fnOf "_law_floor" "_law_floor" (zaz zbs) (zar zbs) (zaf zbs) .none kV4 dc4 pm4 an4 cd4 ct4), sl4⟩) (c4 : PySem.W.codeIn K cd4 "_law_floor" = true) (k4 : PySem.W.keepIn K (.ref f4) = true)
  (a5 : PySem.W.nsIn K mainGlobals "_law_whole" = some (some (.ref f5))) (l5 : K.lookup f5 = some ⟨oc5, od5, .func (PySem.W.fnOf "_law_whole" "_law_whole" (zaz zbO) (zar zbO) (zaf zbO) .none kV5 dc5 pm5 an5 cd5 ct5), sl5⟩) (c5 : PySem.W.codeIn K cd5 "_law_whole" = true) (k5 : PySem.W.keepIn K (.ref f5) = true)
  (a6 : PySem.W.nsIn K mainGlobals "_law_is_place" = some (some (.ref f6))) (l6 : K.lookup f6 = some ⟨oc6, od6, .func (PySem.W.fnOf "_law_is_place" "_law_is_place" (zaz zaY) (zar zaY) (zaf zaY) .none kV6 dc6 pm6 an6 cd6 ct6), sl6⟩) (c6 : PySem.W.codeIn K cd6 "_law_is_place" = true) (k6 : PySem.W.keepIn K (.ref f6) = true)
  (a7 : PySem.W.nsIn K mainGlobals "_law_due" = some (some (.ref f7))) (l7 : K.lookup f7 = some ⟨oc7, od7, .func (PySem.W.fnOf "_law_due" "_law_due" (zaz zcn) (zar zcn) (zaf zcn) .none kV7 dc7 pm7 an7 cd7 ct7), sl7⟩) (c7 : PySem.W.codeIn K cd7 "_law_due" = true) (k7 : PySem.W.keepIn K (.ref f7) = true)
  (a8 : PySem.W.nsIn K mainGlobals "is_whole" = some (some (.ref f8))) (l8 : K.lookup f8 = some ⟨oc8, od8, .func (PySem.W.fnOf "is_whole" "is_whole" (zaz zco) (zar zco) (zaf zco) .none kV8 dc8 pm8 an8 cd8 ct8), sl8⟩) (c8 : PySem.W.codeIn K cd8 "is_whole" = true) (k8 : PySem.W.keepIn K (.ref f8) = true)
  (a9 : PySem.W.nsIn K mainGlobals "makes_place" = some (some (.ref f9))) (l9 : K.lookup f9 = some ⟨oc9, od9, .func (PySem.W.fnOf "makes_place" "makes_place" (zaz zbe) (zar zbe) (zaf zbe) .none kV9 dc9 pm9 an9 cd9 ct9), sl9⟩) (c9 : PySem.W.codeIn K cd9 "makes_place" = true) (k9 : PySem.W.keepIn K (.ref f9) = true)
  (a10 : PySem.W.nsIn K mainGlobals "divisor" = some (some (.ref f10))) (l10 : K.lookup f10 = some ⟨oc10, od10, .func (PySem.W.fnOf "divisor" "divisor" (zaz zc1) (zar zc1) (zaf zc1) .none kV10 dc10 pm10 an10 cd10 ct10), sl10⟩) (c10 : PySem.W.codeIn K cd10 "divisor" = true) (k10 : PySem.W.keepIn K (.ref f10) = true)
  (a11 : PySem.W.nsIn K mainGlobals "in_form" = some (some (.ref f11))) (l11 : K.lookup f11 = some ⟨oc11, od11, .func (PySem.W.fnOf "in_form" "in_form" (zaz zcE) (zar zcE) (zaf zcE) .none kV11 dc11 pm11 an11 cd11 ct11), sl11⟩) (c11 : PySem.W.codeIn K cd11 "in_form" = true) (k11 : PySem.W.keepIn K (.ref f11) = true)
  (a12 : PySem.W.nsIn K mainGlobals "is_place" = some (some (.ref f12))) (l12 : K.lookup f12 = some ⟨oc12, od12, .func (PySem.W.fnOf "is_place" "is_place" (zaz zcp) (zar zcp) (zaf zcp) .none kV12 dc12 pm12 an12 cd12 ct12), sl12⟩) (c12 : PySem.W.codeIn K cd12 "is_place" = true) (k12 : PySem.W.keepIn K (.ref f12) = true)
  (a13 : PySem.W.nsIn K mainGlobals "is_floor" = some (some (.ref f13))) (l13 : K.lookup f13 = some ⟨oc13, od13, .func (PySem.W.fnOf "is_floor" "is_floor" (zaz zb4) (zar zb4) (zaf zb4) .none kV13 dc13 pm13 an13 cd13 ct13), sl13⟩) (c13 : PySem.W.codeIn K cd13 "is_floor" = true) (k13 : PySem.W.keepIn K (.ref f13) = true)
  (a14 : PySem.W.nsIn K mainGlobals "look_at" = some (some (.ref f14))) (l14 : K.lookup f14 = some ⟨oc14, od14, .func (PySem.W.fnOf "look_at" "look_at" (zaz zc2) (zar zc2) (zaf zc2) .none kV14 dc14 pm14 an14 cd14 ct14), sl14⟩) (c14 : PySem.W.codeIn K cd14 "look_at" = true) (k14 : PySem.W.keepIn K (.ref f14) = true)
  (a15 : PySem.W.nsIn K mainGlobals "_law_only" = some (some (.ref f15))) (l15 : K.lookup f15 = some ⟨oc15, od15, .func (PySem.W.fnOf "_law_only" "_law_only" (zaz zbG) (zar zbG) (zaf zbG) .none kV15 dc15 pm15 an15 cd15 ct15), sl15⟩) (c15 : PySem.W.codeIn K cd15 "_law_only" = true) (k15 : PySem.W.keepIn K (.ref f15) = true)
  (a16 : PySem.W.nsIn K mainGlobals "cross" = some (some (.ref f16))) (l16 : K.lookup f16 = some ⟨oc16, od16, .func (PySem.W.fnOf "cross" "cross" (zaz ze1) (zar ze1) (zaf ze1) .none kV16 dc16 pm16 an16 cd16 ct16), sl16⟩) (c16 : PySem.W.codeIn K cd16 "cross" = true) (k16 : PySem.W.keepIn K (.ref f16) = true)
  (a17 : PySem.W.nsIn K mainGlobals "between_two" = some (some (.ref f17))) (l17 : K.lookup f17 = some ⟨oc17, od17, .func (PySem.W.fnOf "between_two" "between_two" (zaz zbx) (zar zbx) (zaf zbx) .none kV17 dc17 pm17 an17 cd17 ct17), sl17⟩) (c17 : PySem.W.codeIn K cd17 "between_two" = true) (k17 : PySem.W.keepIn K (.ref f17) = true)
  (a18 : PySem.W.nsIn K mainGlobals "through" = some (some (.ref f18))) (l18 : K.lookup f18 = some ⟨oc18, od18, .func (PySem.W.fnOf "through" "through" (zaz zc3) (zar zc3) (zaf zc3) .none kV18 dc18 pm18 an18 cd18 ct18), sl18⟩) (c18 : PySem.W.codeIn K cd18 "through" = true) (k18 : PySem.W.keepIn K (.ref f18) = true)
  (a19 : PySem.W.nsIn K mainGlobals "dot" = some (some (.ref f19))) (l19 : K.lookup f19 = some ⟨oc19, od19, .func (PySem.W.fnOf "dot" "dot" (zaz zlC) (zar zlC) (zaf zlC) .none kV19 dc19 pm19 an19 cd19 ct19), sl19⟩) (c19 : PySem.W.codeIn K cd19 "dot" = true) (k19 : PySem.W.keepIn K (.ref f19) = true)
  (a20 : PySem.W.nsIn K mainGlobals "lies" = some (some (.ref f20))) (l20 : K.lookup f20 = some ⟨oc20, od20, .func (PySem.W.fnOf "lies" "lies" (zaz zhl) (zar zhl) (zaf zhl) .none kV20 dc20 pm20 an20 cd20 ct20), sl20⟩) (c20 : PySem.W.codeIn K cd20 "lies" = true) (k20 : PySem.W.keepIn K (.ref f20) = true)
  (a21 : PySem.W.nsIn K mainGlobals "fourth_of" = some (some (.ref f21))) (l21 : K.lookup f21 = some ⟨oc21, od21, .func (PySem.W.fnOf "fourth_of" "fourth_of" (zaz zbH) (zar zbH) (zaf zbH) .none kV21 dc21 pm21 an21 cd21 ct21), sl21⟩) (c21 : PySem.W.codeIn K cd21 "fourth_of" = true) (k21 : PySem.W.keepIn K (.ref f21) = true)
  (a22 : PySem.W.nsIn K mainGlobals "frame_of" = some (some (.ref f22))) (l22 : K.lookup f22 = some ⟨oc22, od22, .func (PySem.W.fnOf "frame_of" "frame_of" (zaz zcq) (zar zcq) (zaf zcq) .none kV22 dc22 pm22 an22 cd22 ct22), sl22⟩) (c22 : PySem.W.codeIn K cd22 "frame_of" = true) (k22 : PySem.W.keepIn K (.ref f22) = true)
  (a23 : PySem.W.nsIn K mainGlobals "on_one" = some (some (.ref f23))) (l23 : K.lookup f23 = some ⟨oc23, od23, .func (PySem.W.fnOf "on_one" "on_one" (zaz zcO) (zar zcO) (zaf zcO) .none kV23 dc23 pm23 an23 cd23 ct23), sl23⟩) (c23 : PySem.W.codeIn K cd23 "on_one" = true) (k23 : PySem.W.keepIn K (.ref f23) = true)
  (a24 : PySem.W.nsIn K mainGlobals "odd_peg" = some (some (.ref f24))) (l24 : K.lookup f24 = some ⟨oc24, od24, .func (PySem.W.fnOf "odd_peg" "odd_peg" (zaz zcF) (zar zcF) (zaf zcF) .none kV24 dc24 pm24 an24 cd24 ct24), sl24⟩) (c24 : PySem.W.codeIn K cd24 "odd_peg" = true) (k24 : PySem.W.keepIn K (.ref f24) = true)
  (a25 : PySem.W.nsIn K mainGlobals "kind_of" = some (some (.ref f25))) (l25 : K.lookup f25 = some ⟨oc25, od25, .func (PySem.W.fnOf "kind_of" "kind_of" (zaz zc4) (zar zc4) (zaf zc4) .none kV25 dc25 pm25 an25 cd25 ct25), sl25⟩) (c25 : PySem.W.codeIn K cd25 "kind_of" = true) (k25 : PySem.W.keepIn K (.ref f25) = true)
  (a26 : PySem.W.nsIn K mainGlobals "comes" = some (some (.ref f26))) (l26 : K.lookup f26 = some ⟨oc26, od26, .func (PySem.W.fnOf "comes" "comes" (zaz ze2) (zar ze2) (zaf ze2) .none kV26 dc26 pm26 an26 cd26 ct26), sl26⟩) (c26 : PySem.W.codeIn K cd26 "comes" = true) (k26 : PySem.W.keepIn K (.ref f26) = true)
  (a27 : PySem.W.nsIn K mainGlobals "_law_refused" = some (some (.ref f27))) (l27 : K.lookup f27 = some ⟨oc27, od27, .func (PySem.W.fnOf "_law_refused" "_law_refused" (zaz zbk) (zar zbk) (zaf zbk) .none kV27 dc27 pm27 an27 cd27 ct27), sl27⟩) (c27 : PySem.W.codeIn K cd27 "_law_refused" = true) (k27 : PySem.W.keepIn K (.ref f27) = true)
  (a28 : PySem.W.nsIn K mainGlobals "_law_right" = some (some (.ref f28))) (l28 : K.lookup f28 = some ⟨oc28, od28, .func (PySem.W.fnOf "_law_right" "_law_right" (zaz zbP) (zar zbP) (zaf zbP) .none kV28 dc28 pm28 an28 cd28 ct28), sl28⟩) (c28 : PySem.W.codeIn K cd28 "_law_right" = true) (k28 : PySem.W.keepIn K (.ref f28) = true)
  (a29 : PySem.W.nsIn K mainGlobals "_law_cell_at" = some (some (.ref f29))) (l29 : K.lookup f29 = some ⟨oc29, od29, .func (PySem.W.fnOf "_law_cell_at" "_law_cell_at" (zaz zbl) (zar zbl) (zaf zbl) .none kV29 dc29 pm29 an29 cd29 ct29), sl29⟩) (c29 : PySem.W.codeIn K cd29 "_law_cell_at" = true) (k29 : PySem.W.keepIn K (.ref f29) = true)
  (a30 : PySem.W.nsIn K mainGlobals "_law_odd" = some (some (.ref f30))) (l30 : K.lookup f30 = some ⟨oc30, od30, .func (PySem.W.fnOf "_law_odd" "_law_odd" (zaz zcr) (zar zcr) (zaf zcr) .none kV30 dc30 pm30 an30 cd30 ct30), sl30⟩) (c30 : PySem.W.codeIn K cd30 "_law_odd" = true) (k30 : PySem.W.keepIn K (.ref f30) = true)
  (a31 : PySem.W.nsIn K mainGlobals "law" = some (some (.ref f31))) (l31 : K.lookup f31 = some ⟨oc31, od31, .func (PySem.W.fnOf "law" "law" (zaz zgR) (zar zgR) (zaf zgR) .none kV31 dc31 pm31 an31 cd31 ct31), sl31⟩) (c31 : PySem.W.codeIn K cd31 "law" = true) (k31 : PySem.W.keepIn K (.ref f31) = true)
  (z_abs : PySem.W.nsIn K mainGlobals "abs" = some none)
  (z_tuple : PySem.W.nsIn K mainGlobals "tuple" = some none)
  (z_range : PySem.W.nsIn K mainGlobals "range" = some none)
  (z_zip : PySem.W.nsIn K mainGlobals "zip" = some none)
  (z_isinstance : PySem.W.nsIn K mainGlobals "isinstance" = some none)
  (z_int : PySem.W.nsIn K mainGlobals "int" = some none)
  (z_bool : PySem.W.nsIn K mainGlobals "bool" = some none)
  (z_len : PySem.W.nsIn K mainGlobals "len" = some none)
  (z_list : PySem.W.nsIn K mainGlobals "list" = some none)
  (z_all : PySem.W.nsIn K mainGlobals "all" = some none)
  (z_set : PySem.W.nsIn K mainGlobals "set" = some none)
  (z_ValueError : PySem.W.nsIn K mainGlobals "ValueError" = some none)
  (z_any : PySem.W.nsIn K mainGlobals "any" = some none)
  (z_min : PySem.W.nsIn K mainGlobals "min" = some none)
  (e_ChalkError : PySem.W.nsIn K mainGlobals "ChalkError" = some (some (.ref C_ChalkError)))
  (e_NoPlace : PySem.W.nsIn K mainGlobals "NoPlace" = some (some (.ref C_NoPlace)))
  (e_Same : PySem.W.nsIn K mainGlobals "Same" = some (some (.ref C_Same)))
  (e_NoFloor : PySem.W.nsIn K mainGlobals "NoFloor" = some (some (.ref C_NoFloor)))
  (e_Endless : PySem.W.nsIn K mainGlobals "Endless" = some (some (.ref C_Endless)))
  (e_NoDeed : PySem.W.nsIn K mainGlobals "NoDeed" = some (some (.ref C_NoDeed)))
  (e_NoText : PySem.W.nsIn K mainGlobals "NoText" = some (some (.ref C_NoText)))
  (e_NoName : PySem.W.nsIn K mainGlobals "NoName" = some (some (.ref C_NoName)))
  (e_TooMany : PySem.W.nsIn K mainGlobals "TooMany" = some (some (.ref C_TooMany)))
  (e_NoChange : PySem.W.nsIn K mainGlobals "NoChange" = some (some (.ref C_NoChange)))
  (e_NoFrame : PySem.W.nsIn K mainGlobals "NoFrame" = some (some (.ref C_NoFrame)))
  (e_NoValue : PySem.W.nsIn K mainGlobals "NoValue" = some (some (.ref C_NoValue)))
  (e_Unlike : PySem.W.nsIn K mainGlobals "Unlike" = some (some (.ref C_Unlike)))
  (e_NoRatio : PySem.W.nsIn K mainGlobals "NoRatio" = some (some (.ref C_NoRatio)))
  (e_NoBow : PySem.W.nsIn K mainGlobals "NoBow" = some (some (.ref C_NoBow)))
  (e_NoRow : PySem.W.nsIn K mainGlobals "NoRow" = some (some (.ref C_NoRow)))
  (y_NoFloor : PySem.W.excIn K C_NoFloor [.type "ValueError", .type "Exception", .type "BaseException", .type "object"] "ValueError.__new__" = true)
  (xga_NoFloor : PySem.W.findIn K (.ref C_NoFloor) "__getattribute__" = some (some (.builtin "BaseException.__getattribute__")))
  (xgh_NoFloor : PySem.W.findIn K (.ref C_NoFloor) "__getattr__" = some none)
  (xbs_NoFloor : PySem.W.mroIn K C_NoFloor (.type "BaseException") = some true)
  (xob_NoFloor : PySem.W.mroIn K C_NoFloor (.type "object") = some true)
  (xca_NoFloor : PySem.W.findIn K (.ref C_NoFloor) "__class__" = some (some (.builtin "object.__class__")))
  (xvv_NoFloor : PySem.W.kitOne K (.ref C_NoFloor) (.type "ValueError") = some true)
  (t_NoFloor_ChalkError : PySem.W.kitOne K (.ref C_NoFloor) (.ref C_ChalkError) = some true)
  (u_NoFloor_ChalkError : PySem.W.exmOne K (.ref C_NoFloor) (.ref C_ChalkError) = some true)
  (t_NoFloor_NoPlace : PySem.W.kitOne K (.ref C_NoFloor) (.ref C_NoPlace) = some false)
  (t_NoFloor_Same : PySem.W.kitOne K (.ref C_NoFloor) (.ref C_Same) = some false)
  (t_NoFloor_NoFloor : PySem.W.kitOne K (.ref C_NoFloor) (.ref C_NoFloor) = some true)
  (u_NoFloor_NoFloor : PySem.W.exmOne K (.ref C_NoFloor) (.ref C_NoFloor) = some true)
  (t_NoFloor_Endless : PySem.W.kitOne K (.ref C_NoFloor) (.ref C_Endless) = some false)
  (t_NoFloor_NoDeed : PySem.W.kitOne K (.ref C_NoFloor) (.ref C_NoDeed) = some false)
  (t_NoFloor_NoText : PySem.W.kitOne K (.ref C_NoFloor) (.ref C_NoText) = some false)
  (t_NoFloor_NoName : PySem.W.kitOne K (.ref C_NoFloor) (.ref C_NoName) = some false)
  (t_NoFloor_TooMany : PySem.W.kitOne K (.ref C_NoFloor) (.ref C_TooMany) = some false)
  (t_NoFloor_NoChange : PySem.W.kitOne K (.ref C_NoFloor) (.ref C_NoChange) = some false)
  (t_NoFloor_NoFrame : PySem.W.kitOne K (.ref C_NoFloor) (.ref C_NoFrame) = some false)
  (t_NoFloor_NoValue : PySem.W.kitOne K (.ref C_NoFloor) (.ref C_NoValue) = some false)
  (t_NoFloor_Unlike : PySem.W.kitOne K (.ref C_NoFloor) (.ref C_Unlike) = some false)
  (t_NoFloor_NoRatio : PySem.W.kitOne K (.ref C_NoFloor) (.ref C_NoRatio) = some false)
  (t_NoFloor_NoBow : PySem.W.kitOne K (.ref C_NoFloor) (.ref C_NoBow) = some false)
  (t_NoFloor_NoRow : PySem.W.kitOne K (.ref C_NoFloor) (.ref C_NoRow) = some false)
  (y_Endless : PySem.W.excIn K C_Endless [.type "ValueError", .type "Exception", .type "BaseException", .type "object"] "ValueError.__new__" = true)
  (xga_Endless : PySem.W.findIn K (.ref C_Endless) "__getattribute__" = some (some (.builtin "BaseException.__getattribute__")))
  (xgh_Endless : PySem.W.findIn K (.ref C_Endless) "__getattr__" = some none)
  (xbs_Endless : PySem.W.mroIn K C_Endless (.type "BaseException") = some true)
  (xob_Endless : PySem.W.mroIn K C_Endless (.type "object") = some true)
  (xca_Endless : PySem.W.findIn K (.ref C_Endless) "__class__" = some (some (.builtin "object.__class__")))
  (xvv_Endless : PySem.W.kitOne K (.ref C_Endless) (.type "ValueError") = some true)
  (t_Endless_ChalkError : PySem.W.kitOne K (.ref C_Endless) (.ref C_ChalkError) = some true)
  (u_Endless_ChalkError : PySem.W.exmOne K (.ref C_Endless) (.ref C_ChalkError) = some true)
  (t_Endless_NoPlace : PySem.W.kitOne K (.ref C_Endless) (.ref C_NoPlace) = some false)
  (t_Endless_Same : PySem.W.kitOne K (.ref C_Endless) (.ref C_Same) = some false)
  (t_Endless_NoFloor : PySem.W.kitOne K (.ref C_Endless) (.ref C_NoFloor) = some false)
  (t_Endless_Endless : PySem.W.kitOne K (.ref C_Endless) (.ref C_Endless) = some true)
  (u_Endless_Endless : PySem.W.exmOne K (.ref C_Endless) (.ref C_Endless) = some true)
  (t_Endless_NoDeed : PySem.W.kitOne K (.ref C_Endless) (.ref C_NoDeed) = some false)
  (t_Endless_NoText : PySem.W.kitOne K (.ref C_Endless) (.ref C_NoText) = some false)
  (t_Endless_NoName : PySem.W.kitOne K (.ref C_Endless) (.ref C_NoName) = some false)
  (t_Endless_TooMany : PySem.W.kitOne K (.ref C_Endless) (.ref C_TooMany) = some false)
  (t_Endless_NoChange : PySem.W.kitOne K (.ref C_Endless) (.ref C_NoChange) = some false)
  (t_Endless_NoFrame : PySem.W.kitOne K (.ref C_Endless) (.ref C_NoFrame) = some false)
  (t_Endless_NoValue : PySem.W.kitOne K (.ref C_Endless) (.ref C_NoValue) = some false)
  (t_Endless_Unlike : PySem.W.kitOne K (.ref C_Endless) (.ref C_Unlike) = some false)
  (t_Endless_NoRatio : PySem.W.kitOne K (.ref C_Endless) (.ref C_NoRatio) = some false)
  (t_Endless_NoBow : PySem.W.kitOne K (.ref C_Endless) (.ref C_NoBow) = some false)
  (t_Endless_NoRow : PySem.W.kitOne K (.ref C_Endless) (.ref C_NoRow) = some false)
  (xcg : PySem.W.specialIn K (.builtin "object.__class__") "__get__" = some (some (.builtin "getset_descriptor.__get__"))) (xct : PySem.W.takesIn K (.builtin "object.__class__") = some true)
  {t_MOST_PEGS : Tok} (q_MOST_PEGS : PySem.W.nsIn K mainGlobals "MOST_PEGS" = some (some (.int 12 t_MOST_PEGS)))
  (hlaw : ∀ ns : List Int, ns.length ≤ 63 → zeQ [.lst (ns.map .int)] = .ok (.bl true))
  : ∃ fd : FuncData, (∀ (s : Shared) (v : Value), BindsTo s fd ⟨[v], []⟩ [("_law_script", v)]) ∧ ∀ base : Heap, K.In base → base.Ns mainGlobals mg → zgT l.prog w K mg base (CXe l.prog w) 10 fa fd ["_law_script"] (zoK K) := by
 have e := hfa.symm.trans (PySem.W.mg_of X G a31)
 cases e
 have F0 := zaT (st := zcm) l0 c0 k0
 have b0 := F0.binds (ps := ["_law_cell", "_law_k"]) fun _ _ _ _ _ _ us hl => match us, hl with | [_, _], _ => rfl
 have m0 := PySem.W.mg_of X G a0
 have F1 := zaT (st := zbN) l1 c1 k1
 have b1 := F1.binds (ps := ["_law_some"]) fun _ _ _ _ _ _ us hl => match us, hl with | [_], _ => rfl
 have m1 := PySem.W.mg_of X G a1
 have F2 := zaT (st := zb3) l2 c2 k2
 have b2 := F2.binds (ps := ["_law_cell", "_law_k"]) fun _ _ _ _ _ _ us hl => match us, hl with | [_, _], _ => rfl
 have m2 := PySem.W.mg_of X G a2
 have F3 := zaT (st := zbd) l3 c3 k3
 have b3 := F3.binds (ps := ["_law_one", "_law_two", "_law_s", "_law_t"]) fun _ _ _ _ _ _ us hl => match us, hl with | [_, _, _, _], _ => rfl
 have m3 := PySem.W.mg_of X G a3
 have F4 := zaT (st := zbs) l4 c4 k4
 have b4 := F4.binds (ps := ["_law_cell", "_law_how"]) fun _ _ _ _ _ _ us hl => match us, hl with | [_, _], _ => rfl
 have m4 := PySem.W.mg_of X G a4
 have F5 := zaT (st := zbO) l5 c5 k5
 have b5 := F5.binds (ps := ["_law_found"]) fun _ _ _ _ _ _ us hl => match us, hl with | [_], _ => rfl
 have m5 := PySem.W.mg_of X G a5
 have F6 := zaT (st := zaY) l6 c6 k6
 have b6 := F6.binds (ps := ["_law_thing"]) fun _ _ _ _ _ _ us hl => match us, hl with | [_], _ => rfl
 have m6 := PySem.W.mg_of X G a6
 have F7 := zaT (st := zcn) l7 c7 k7
 have b7 := F7.binds (ps := ["_law_thing"]) fun _ _ _ _ _ _ us hl => match us, hl with | [_], _ => rfl
 have m7 := PySem.W.mg_of X G a7
 have F8 := zaT (st := zco) l8 c8 k8
 have b8 := F8.binds (ps := ["thing"]) fun _ _ _ _ _ _ us hl => match us, hl with | [_], _ => rfl
 have m8 := PySem.W.mg_of X G a8
 have F9 := zaT (st := zbe) l9 c9 k9
 have b9 := F9.binds (ps := ["three"]) fun _ _ _ _ _ _ us hl => match us, hl with | [_], _ => rfl
 have m9 := PySem.W.mg_of X G a9
 have F10 := zaT (st := zc1) l10 c10 k10
 have b10 := F10.binds (ps := ["one", "other"]) fun _ _ _ _ _ _ us hl => match us, hl with | [_, _], _ => rfl
 have m10 := PySem.W.mg_of X G a10
 have F11 := zaT (st := zcE) l11 c11 k11
 have b11 := F11.binds (ps := ["numbers"]) fun _ _ _ _ _ _ us hl => match us, hl with | [_], _ => rfl
 have m11 := PySem.W.mg_of X G a11
 have F12 := zaT (st := zcp) l12 c12 k12
 have b12 := F12.binds (ps := ["thing"]) fun _ _ _ _ _ _ us hl => match us, hl with | [_], _ => rfl
 have m12 := PySem.W.mg_of X G a12
 have F13 := zaT (st := zb4) l13 c13 k13
 have b13 := F13.binds (ps := ["thing"]) fun _ _ _ _ _ _ us hl => match us, hl with | [_], _ => rfl
 have m13 := PySem.W.mg_of X G a13
 have F14 := zaT (st := zc2) l14 c14 k14
 have b14 := F14.binds (ps := ["floor"]) fun _ _ _ _ _ _ us hl => match us, hl with | [_], _ => rfl
 have m14 := PySem.W.mg_of X G a14
 have F15 := zaT (st := zbG) l15 c15 k15
 have b15 := F15.binds (ps := ["_law_error", "_law_place"]) fun _ _ _ _ _ _ us hl => match us, hl with | [_, _], _ => rfl
 have m15 := PySem.W.mg_of X G a15
 have F16 := zaT (st := ze1) l16 c16 k16
 have b16 := F16.binds (ps := ["one", "other"]) fun _ _ _ _ _ _ us hl => match us, hl with | [_, _], _ => rfl
 have m16 := PySem.W.mg_of X G a16
 have F17 := zaT (st := zbx) l17 c17 k17
 have b17 := F17.binds (ps := ["one", "other"]) fun _ _ _ _ _ _ us hl => match us, hl with | [_, _], _ => rfl
 have m17 := PySem.W.mg_of X G a17
 have F18 := zaT (st := zc3) l18 c18 k18
 have b18 := F18.binds (ps := ["one", "other"]) fun _ _ _ _ _ _ us hl => match us, hl with | [_, _], _ => rfl
 have m18 := PySem.W.mg_of X G a18
 have F19 := zaT (st := zlC) l19 c19 k19
 have b19 := F19.binds (ps := ["one", "other"]) fun _ _ _ _ _ _ us hl => match us, hl with | [_, _], _ => rfl
 have m19 := PySem.W.mg_of X G a19
 have F20 := zaT (st := zhl) l20 c20 k20
 have b20 := F20.binds (ps := ["place", "line"]) fun _ _ _ _ _ _ us hl => match us, hl with | [_, _], _ => rfl
 have m20 := PySem.W.mg_of X G a20
 have F21 := zaT (st := zbH) l21 c21 k21
 have b21 := F21.binds (ps := ["floor", "a", "b", "c"]) fun _ _ _ _ _ _ us hl => match us, hl with | [_, _, _, _], _ => rfl
 have m21 := PySem.W.mg_of X G a21
 have F22 := zaT (st := zcq) l22 c22 k22
 have b22 := F22.binds (ps := ["floor"]) fun _ _ _ _ _ _ us hl => match us, hl with | [_], _ => rfl
 have m22 := PySem.W.mg_of X G a22
 have F23 := zaT (st := zcO) l23 c23 k23
 have b23 := F23.binds (ps := ["places"]) fun _ _ _ _ _ _ us hl => match us, hl with | [_], _ => rfl
 have m23 := PySem.W.mg_of X G a23
 have F24 := zaT (st := zcF) l24 c24 k24
 have b24 := F24.binds (ps := ["floor"]) fun _ _ _ _ _ _ us hl => match us, hl with | [_], _ => rfl
 have m24 := PySem.W.mg_of X G a24
 have F25 := zaT (st := zc4) l25 c25 k25
 have b25 := F25.binds (ps := ["floor"]) fun _ _ _ _ _ _ us hl => match us, hl with | [_], _ => rfl
 have m25 := PySem.W.mg_of X G a25
 have F26 := zaT (st := ze2) l26 c26 k26
 have b26 := F26.binds (ps := ["floor"]) fun _ _ _ _ _ _ us hl => match us, hl with | [_], _ => rfl
 have m26 := PySem.W.mg_of X G a26
 have F27 := zaT (st := zbk) l27 c27 k27
 have b27 := F27.binds (ps := ["_law_how", "_law_thing"]) fun _ _ _ _ _ _ us hl => match us, hl with | [_, _], _ => rfl
 have m27 := PySem.W.mg_of X G a27
 have F28 := zaT (st := zbP) l28 c28 k28
 have b28 := F28.binds (ps := ["_law_thing"]) fun _ _ _ _ _ _ us hl => match us, hl with | [_], _ => rfl
 have m28 := PySem.W.mg_of X G a28
 have F29 := zaT (st := zbl) l29 c29 k29
 have b29 := F29.binds (ps := ["_law_script", "_law_k"]) fun _ _ _ _ _ _ us hl => match us, hl with | [_, _], _ => rfl
 have m29 := PySem.W.mg_of X G a29
 have F30 := zaT (st := zcr) l30 c30 k30
 have b30 := F30.binds (ps := ["_law_floor_here", "_law_cell"]) fun _ _ _ _ _ _ us hl => match us, hl with | [_, _], _ => rfl
 have m30 := PySem.W.mg_of X G a30
 have F31 := zaT (st := zgR) l31 c31 k31
 have m31 := PySem.W.mg_of X G a31
 have n_abs := PySem.W.mg_none_of X G z_abs
 have n_tuple := PySem.W.mg_none_of X G z_tuple
 have n_range := PySem.W.mg_none_of X G z_range
 have n_zip := PySem.W.mg_none_of X G z_zip
 have n_isinstance := PySem.W.mg_none_of X G z_isinstance
 have n_int := PySem.W.mg_none_of X G z_int
 have n_bool := PySem.W.mg_none_of X G z_bool
 have n_len := PySem.W.mg_none_of X G z_len
 have n_list := PySem.W.mg_none_of X G z_list
 have n_all := PySem.W.mg_none_of X G z_all
 have n_set := PySem.W.mg_none_of X G z_set
 have n_ValueError := PySem.W.mg_none_of X G z_ValueError
 have n_any := PySem.W.mg_none_of X G z_any
 have n_min := PySem.W.mg_none_of X G z_min
 have c_ChalkError := PySem.W.mg_of X G e_ChalkError
 have c_NoPlace := PySem.W.mg_of X G e_NoPlace
 have c_Same := PySem.W.mg_of X G e_Same
 have c_NoFloor := PySem.W.mg_of X G e_NoFloor
 have c_Endless := PySem.W.mg_of X G e_Endless
 have c_NoDeed := PySem.W.mg_of X G e_NoDeed
 have c_NoText := PySem.W.mg_of X G e_NoText
 have c_NoName := PySem.W.mg_of X G e_NoName
 have c_TooMany := PySem.W.mg_of X G e_TooMany
 have c_NoChange := PySem.W.mg_of X G e_NoChange
 have c_NoFrame := PySem.W.mg_of X G e_NoFrame
 have c_NoValue := PySem.W.mg_of X G e_NoValue
 have c_Unlike := PySem.W.mg_of X G e_Unlike
 have c_NoRatio := PySem.W.mg_of X G e_NoRatio
 have c_NoBow := PySem.W.mg_of X G e_NoBow
 have c_NoRow := PySem.W.mg_of X G e_NoRow
 have x_NoFloor : zlk K mg "NoFloor" C_NoFloor := zlk.mk' c_NoFloor ⟨by (obtain ⟨_, hc, _⟩ := PySem.W.kw_along xga_NoFloor; rw [hc]; rfl), xga_NoFloor, xgh_NoFloor, xbs_NoFloor, xob_NoFloor, xca_NoFloor, xcg, xct⟩ xvv_NoFloor (zpx (zaQ.of (b := true) c_ChalkError t_NoFloor_ChalkError (fun _ => u_NoFloor_ChalkError)) (zaQ.of (b := false) c_NoPlace t_NoFloor_NoPlace (fun z => nomatch z)) (zaQ.of (b := false) c_Same t_NoFloor_Same (fun z => nomatch z)) (zaQ.of (b := true) c_NoFloor t_NoFloor_NoFloor (fun _ => u_NoFloor_NoFloor)) (zaQ.of (b := false) c_Endless t_NoFloor_Endless (fun z => nomatch z)) (zaQ.of (b := false) c_NoDeed t_NoFloor_NoDeed (fun z => nomatch z)) (zaQ.of (b := false) c_NoText t_NoFloor_NoText (fun z => nomatch z)) (zaQ.of (b := false) c_NoName t_NoFloor_NoName (fun z => nomatch z)) (zaQ.of (b := false) c_TooMany t_NoFloor_TooMany (fun z => nomatch z)) (zaQ.of (b := false) c_NoChange t_NoFloor_NoChange (fun z => nomatch z)) (zaQ.of (b := false) c_NoFrame t_NoFloor_NoFrame (fun z => nomatch z)) (zaQ.of (b := false) c_NoValue t_NoFloor_NoValue (fun z => nomatch z)) (zaQ.of (b := false) c_Unlike t_NoFloor_Unlike (fun z => nomatch z)) (zaQ.of (b := false) c_NoRatio t_NoFloor_NoRatio (fun z => nomatch z)) (zaQ.of (b := false) c_NoBow t_NoFloor_NoBow (fun z => nomatch z)) (zaQ.of (b := false) c_NoRow t_NoFloor_NoRow (fun z => nomatch z)))
 have x_Endless : zlk K mg "Endless" C_Endless := zlk.mk' c_Endless ⟨by (obtain ⟨_, hc, _⟩ := PySem.W.kw_along xga_Endless; rw [hc]; rfl), xga_Endless, xgh_Endless, xbs_Endless, xob_Endless, xca_Endless, xcg, xct⟩ xvv_Endless (zpx (zaQ.of (b := true) c_ChalkError t_Endless_ChalkError (fun _ => u_Endless_ChalkError)) (zaQ.of (b := false) c_NoPlace t_Endless_NoPlace (fun z => nomatch z)) (zaQ.of (b := false) c_Same t_Endless_Same (fun z => nomatch z)) (zaQ.of (b := false) c_NoFloor t_Endless_NoFloor (fun z => nomatch z)) (zaQ.of (b := true) c_Endless t_Endless_Endless (fun _ => u_Endless_Endless)) (zaQ.of (b := false) c_NoDeed t_Endless_NoDeed (fun z => nomatch z)) (zaQ.of (b := false) c_NoText t_Endless_NoText (fun z => nomatch z)) (zaQ.of (b := false) c_NoName t_Endless_NoName (fun z => nomatch z)) (zaQ.of (b := false) c_TooMany t_Endless_TooMany (fun z => nomatch z)) (zaQ.of (b := false) c_NoChange t_Endless_NoChange (fun z => nomatch z)) (zaQ.of (b := false) c_NoFrame t_Endless_NoFrame (fun z => nomatch z)) (zaQ.of (b := false) c_NoValue t_Endless_NoValue (fun z => nomatch z)) (zaQ.of (b := false) c_Unlike t_Endless_Unlike (fun z => nomatch z)) (zaQ.of (b := false) c_NoRatio t_Endless_NoRatio (fun z => nomatch z)) (zaQ.of (b := false) c_NoBow t_Endless_NoBow (fun z => nomatch z)) (zaQ.of (b := false) c_NoRow t_Endless_NoRow (fun z => nomatch z)))
 refine ⟨PySem.W.fnOf "law" "law" (zaz zgR) (zar zgR) (zaf zgR) .none kV31 dc31 pm31 an31 cd31 ct31, fun s v => .of_eq rfl, fun base _ _ => ?_⟩
 have k_MOST_PEGS_is : ∃ u v, mg "MOST_PEGS" = some u ∧ zbz v u ∧ ∀ G, Rep K mg G zbZ v := ⟨_, .int 12, PySem.W.mg_of X G q_MOST_PEGS, ⟨_, rfl⟩, fun _ => rfl⟩
 have G0 : zav l.prog w K mg base 1 "_law_mix" zaG := zjB (k := 0) F0 m0 b0
 have G1 : zav l.prog w K mg base 1 "_law_low" zbh := zjC (k := 0) F1 m1 b1 n_abs n_tuple
 have G2 : zav l.prog w K mg base 2 "_law_spot" zaV := zja (k := 1) F2 m2 b2 n_range G0 G1
 have G3 : zav l.prog w K mg base 2 "_law_on_two" zbJ := zgO (k := 1) F3 m3 b3 n_zip G1
 have G4 : zav l.prog w K mg base 3 "_law_floor" zb0 := zh0 (k := 2) F4 m4 b4 n_range (G0.mono (by decide : 1 ≤ 2)) G2 G3
 have G5 : zav l.prog w K mg base 1 "_law_whole" zaX := zh1 (k := 0) F5 m5 b5 n_isinstance n_int n_bool
 have G6 : zav l.prog w K mg base 2 "_law_is_place" zaA := zfu (k := 1) F6 m6 b6 n_isinstance n_tuple n_len G5 G1
 have G7 : zav l.prog w K mg base 3 "_law_due" zaU := zjD (k := 2) F7 m7 b7 n_isinstance n_list n_len n_range G6
 have G8 : zav l.prog w K mg base 1 "is_whole" zbX := zjE (k := 0) F8 m8 b8 n_isinstance n_int n_bool
 have G9 : zav l.prog w K mg base 2 "makes_place" za9 := zgP (k := 1) F9 m9 b9 n_all G8
 have G10 : zav l.prog w K mg base 1 "divisor" zcx := zly (k := 0) F10 m10 b10 n_abs
 have G11 : zav l.prog w K mg base 2 "in_form" zb9 := zlz (k := 1) F11 m11 b11 G10
 have G12 : zav l.prog w K mg base 3 "is_place" zam := zjF (k := 2) F12 m12 b12 n_isinstance n_tuple n_len G9 G11
 have G13 : zav l.prog w K mg base 4 "is_floor" zap := zjG (k := 3) F13 m13 b13 n_isinstance n_list n_len n_all n_set k_MOST_PEGS_is G12
 have G14 : zav l.prog w K mg base 5 "look_at" zaJ := zlA (k := 4) F14 m14 b14 c_NoFloor y_NoFloor x_NoFloor G13
 have G15 : zav l.prog w K mg base 1 "_law_only" zcl := zjb (k := 0) F15 m15 b15 c_NoFloor c_Same c_NoPlace c_NoText c_NoDeed c_Endless c_NoName c_NoFrame c_NoChange c_TooMany c_NoRatio c_Unlike c_NoValue c_NoRow c_NoBow n_isinstance n_ValueError n_range
 have G16 : zav l.prog w K mg base 1 "cross" zhO := zpd (k := 0) F16 m16 b16
 have G17 : zav l.prog w K mg base 3 "between_two" zbC := zgQ (k := 2) F17 m17 b17 G11 (G16.mono (by decide : 1 ≤ 2))
 have G18 : zav l.prog w K mg base 4 "through" zaI := zlB (k := 3) F18 m18 b18 G17
 have G19 : zav l.prog w K mg base 1 "dot" zoZ := zty (k := 0) F19 m19 b19
 have G20 : zav l.prog w K mg base 2 "lies" zcc := zrG (k := 1) F20 m20 b20 G19
 have G21 : zav l.prog w K mg base 5 "fourth_of" zdg := zjc (k := 4) F21 m21 b21 n_range n_len n_any G18 (G20.mono (by decide : 2 ≤ 4))
 have G22 : zav l.prog w K mg base 6 "frame_of" zaD := zjH (k := 5) F22 m22 b22 n_range n_len G14 (G18.mono (by decide : 4 ≤ 5)) (G20.mono (by decide : 2 ≤ 5)) G21
 have G23 : zav l.prog w K mg base 5 "on_one" zbY := zn3 (k := 4) F23 m23 b23 n_len n_all G18 (G20.mono (by decide : 2 ≤ 4))
 have G24 : zav l.prog w K mg base 6 "odd_peg" zeG := zlD (k := 5) F24 m24 b24 n_min n_range n_len G23
 have G25 : zav l.prog w K mg base 7 "kind_of" za6 := zlE (k := 6) F25 m25 b25 G22 (G23.mono (by decide : 5 ≤ 6)) G24
 have G26 : zav l.prog w K mg base 7 "comes" zdH := zpe (k := 6) F26 m26 b26 c_Endless y_Endless x_Endless n_range n_len G22 (G18.mono (by decide : 4 ≤ 6))
 have G27 : zav l.prog w K mg base 8 "_law_refused" zaw := zgB (k := 7) F27 m27 b27 c_ChalkError (G14.mono (by decide : 5 ≤ 7)) (G22.mono (by decide : 6 ≤ 7)) G25 G26 (G15.mono (by decide : 1 ≤ 7))
 have G28 : zav l.prog w K mg base 9 "_law_right" zao := zh2 (k := 8) F28 m28 b28 n_isinstance n_bool (G7.mono (by decide : 3 ≤ 8)) (G13.mono (by decide : 4 ≤ 8)) (G14.mono (by decide : 5 ≤ 8)) (G26.mono (by decide : 7 ≤ 8)) (G25.mono (by decide : 7 ≤ 8)) (G22.mono (by decide : 6 ≤ 8)) G27
 have G29 : zav l.prog w K mg base 1 "_law_cell_at" zaS := zgC (k := 0) F29 m29 b29 n_len
 have G30 : zav l.prog w K mg base 3 "_law_odd" zbL := zjI (k := 2) F30 m30 b30 n_len (G0.mono (by decide : 1 ≤ 2)) G2
 exact zs5 (ztz (P := l.prog) (w := w) (base := base) (k := 9) F31 n_len n_range n_list n_tuple (G4.mono (by decide : 3 ≤ 9)) (G29.mono (by decide : 1 ≤ 9)) (G0.mono (by decide : 1 ≤ 9)) (G30.mono (by decide : 3 ≤ 9)) G28) hlaw
end Kx
def PySem.W.Fast.tw10923448453349056 := 0
def PySem.W.Fast.tw27305506196900544 := 0
def PySem.W.Fast.tw109102969421565792 := 0
def PySem.W.Fast.tw1545303527829105569 := 0
def PySem.W.Fast.tw4655137300161386433 := 0
def PySem.W.Fast.tw5359740414995241284 := 0
def PySem.W.Fast.tw17725978586387019077 := 0
def PySem.W.Fast.tw6693679848190124199 := 0
def PySem.W.Fast.tw5641491968400811271 := 0
def PySem.W.Fast.tw6453964177672407399 := 0
def PySem.W.Fast.tw16027419383676080903 := 0
def PySem.W.Fast.tw7125849094941151079 := 0
def PySem.W.Fast.tw11780236886000013416 := 0
def PySem.W.Fast.tw9548565020781974952 := 0
def PySem.W.Fast.tw3148691624237557930 := 0
def PySem.W.Fast.tw10140951025881915403 := 0
def PySem.W.Fast.tw7686632331112822893 := 0
def PySem.W.Fast.tw7175362312179213261 := 0
def PySem.W.Fast.tw11254874479472836334 := 0
def PySem.W.Fast.tw5632288902554007920 := 0
def PySem.W.Fast.tw8943145387875072593 := 0
def PySem.W.Fast.tw18342278093677417778 := 0
def PySem.W.Fast.tw11788274551449284018 := 0
def PySem.W.Fast.tw2539987710926878226 := 0
def PySem.W.Fast.tw15315985478207746834 := 0
def PySem.W.Fast.tw3332826957573729202 := 0
def PySem.W.Fast.tw5339705752840366581 := 0
def PySem.W.Fast.tw2645833718255657238 := 0
def PySem.W.Fast.tw6408687870576920470 := 0
def PySem.W.Fast.tw13018541587738750167 := 0
def PySem.W.Fast.tw339494843166813399 := 0
def PySem.W.Fast.tw8491997879431617912 := 0
def PySem.W.Fast.tw11692119901563116920 := 0
def PySem.W.Fast.tw11010333313475228121 := 0
def PySem.W.Fast.tw858409483574497147 := 0
def PySem.W.Fast.tw8911599674143808443 := 0
def PySem.W.Fast.tw2729068791533909212 := 0
def PySem.W.Fast.tw4299300375046559068 := 0
def PySem.W.Fast.tw12825605260377931548 := 0
def PySem.W.Fast.tw6726305700711868765 := 0
def PySem.W.Fast.tw8840007184351810686 := 0
def PySem.W.Fast.tw18188396210525583198 := 0
def PySem.W.Fast.tw6808183719607841695 := 0
open PySem PySem.W PyProof.Rows
set_option maxRecDepth 100000 in
set_option maxHeartbeats 0 in
theorem PySem.Challenge.cw_chalkline_k11_what_is_a_floor_holds : PySem.Challenge.rw_chalkline_k11_what_is_a_floor.Holds := by
 w_on; o_law; k_head; (case hw => w_witness2)
 k_fill
 refine DL.walkD (l := PySem.Challenge.rw_chalkline_k11_what_is_a_floor) 10 ⟨rfl, by decide, by decide⟩ rfl rfl (fun w h Y => PySem.W.kIn_of Y) ?F
 case F =>
  intro w mg fa h KX G hmg
  refine' Kx.all_mk KX G hmg ?a0 ?l0 ?c0 ?k0 ?a1 ?l1 ?c1 ?k1 ?a2 ?l2 ?c2 ?k2 ?a3 ?l3 ?c3 ?k3 ?a4 ?l4 ?c4 ?k4 ?a5 ?l5 ?c5 ?k5 ?a6 ?l6 ?c6 ?k6 ?a7 ?l7 ?c7 ?k7 ?a8 ?l8 ?c8 ?k8 ?a9 ?l9 ?c9 ?k9 ?a10 ?l10 ?c10 ?k10 ?a11 ?l11 ?c11 ?k11 ?a12 ?l12 ?c12 ?k12 ?a13 ?l13 ?c13 ?k13 ?a14 ?l14 ?c14 ?k14 ?a15 ?l15 ?c15 ?k15 ?a16 ?l16 ?c16 ?k16 ?a17 ?l17 ?c17 ?k17 ?a18 ?l18 ?c18 ?k18 ?a19 ?l19 ?c19 ?k19 ?a20 ?l20 ?c20 ?k20 ?a21 ?l21 ?c21 ?k21 ?a22 ?l22 ?c22 ?k22 ?a23 ?l23 ?c23 ?k23 ?a24 ?l24 ?c24 ?k24 ?a25 ?l25 ?c25 ?k25 ?a26 ?l26 ?c26 ?k26 ?a27 ?l27 ?c27 ?k27 ?a28 ?l28 ?c28 ?k28 ?a29 ?l29 ?c29 ?k29 ?a30 ?l30 ?c30 ?k30 ?a31 ?l31 ?c31 ?k31 ?z_abs ?z_tuple ?z_range ?z_zip ?z_isinstance ?z_int ?z_bool ?z_len ?z_list ?z_all ?z_set ?z_ValueError ?z_any ?z_min ?e_ChalkError ?e_NoPlace ?e_Same ?e_NoFloor ?e_Endless ?e_NoDeed ?e_NoText ?e_NoName ?e_TooMany ?e_NoChange ?e_NoFrame ?e_NoValue ?e_Unlike ?e_NoRatio ?e_NoBow ?e_NoRow ?y_NoFloor ?xga_NoFloor ?xgh_NoFloor ?xbs_NoFloor ?xob_NoFloor ?xca_NoFloor ?xvv_NoFloor ?t_NoFloor_ChalkError ?u_NoFloor_ChalkError ?t_NoFloor_NoPlace ?t_NoFloor_Same ?t_NoFloor_NoFloor ?u_NoFloor_NoFloor ?t_NoFloor_Endless ?t_NoFloor_NoDeed ?t_NoFloor_NoText ?t_NoFloor_NoName ?t_NoFloor_TooMany ?t_NoFloor_NoChange ?t_NoFloor_NoFrame ?t_NoFloor_NoValue ?t_NoFloor_Unlike ?t_NoFloor_NoRatio ?t_NoFloor_NoBow ?t_NoFloor_NoRow ?y_Endless ?xga_Endless ?xgh_Endless ?xbs_Endless ?xob_Endless ?xca_Endless ?xvv_Endless ?t_Endless_ChalkError ?u_Endless_ChalkError ?t_Endless_NoPlace ?t_Endless_Same ?t_Endless_NoFloor ?t_Endless_Endless ?u_Endless_Endless ?t_Endless_NoDeed ?t_Endless_NoText ?t_Endless_NoName ?t_Endless_TooMany ?t_Endless_NoChange ?t_Endless_NoFrame ?t_Endless_NoValue ?t_Endless_Unlike ?t_Endless_NoRatio ?t_Endless_NoBow ?t_Endless_NoRow ?xcg ?xct ?q_MOST_PEGS ?hlaw
  (case a0 => k_is)
  (case l0 => k_is)
  (case c0 => k_is)
  (case k0 => k_is)
  (case a1 => k_is)
  (case l1 => k_is)
  (case c1 => k_is)
  (case k1 => k_is)
  (case a2 => k_is)
  (case l2 => k_is)
  (case c2 => k_is)
  (case k2 => k_is)
  (case a3 => k_is)
  (case l3 => k_is)
  (case c3 => k_is)
  (case k3 => k_is)
  (case a4 => k_is)
  (case l4 => k_is)
  (case c4 => k_is)
  (case k4 => k_is)
  (case a5 => k_is)
  (case l5 => k_is)
  (case c5 => k_is)
  (case k5 => k_is)
  (case a6 => k_is)
  (case l6 => k_is)
  (case c6 => k_is)
  (case k6 => k_is)
  (case a7 => k_is)
  (case l7 => k_is)
  (case c7 => k_is)
  (case k7 => k_is)
  (case a8 => k_is)
  (case l8 => k_is)
  (case c8 => k_is)
  (case k8 => k_is)
  (case a9 => k_is)
  (case l9 => k_is)
  (case c9 => k_is)
  (case k9 => k_is)
  (case a10 => k_is)
  (case l10 => k_is)
  (case c10 => k_is)
  (case k10 => k_is)
  (case a11 => k_is)
  (case l11 => k_is)
  (case c11 => k_is)
  (case k11 => k_is)
  (case a12 => k_is)
  (case l12 => k_is)
  (case c12 => k_is)
  (case k12 => k_is)
  (case a13 => k_is)
  (case l13 => k_is)
  (case c13 => k_is)
  (case k13 => k_is)
  (case a14 => k_is)
  (case l14 => k_is)
  (case c14 => k_is)
  (case k14 => k_is)
  (case a15 => k_is)
  (case l15 => k_is)
  (case c15 => k_is)
  (case k15 => k_is)
  (case a16 => k_is)
  (case l16 => k_is)
  (case c16 => k_is)
  (case k16 => k_is)
  (case a17 => k_is)
  (case l17 => k_is)
  (case c17 => k_is)
  (case k17 => k_is)
  (case a18 => k_is)
  (case l18 => k_is)
  (case c18 => k_is)
  (case k18 => k_is)
  (case a19 => k_is)
  (case l19 => k_is)
  (case c19 => k_is)
  (case k19 => k_is)
  (case a20 => k_is)
  (case l20 => k_is)
  (case c20 => k_is)
  (case k20 => k_is)
  (case a21 => k_is)
  (case l21 => k_is)
  (case c21 => k_is)
  (case k21 => k_is)
  (case a22 => k_is)
  (case l22 => k_is)
  (case c22 => k_is)
  (case k22 => k_is)
  (case a23 => k_is)
  (case l23 => k_is)
  (case c23 => k_is)
  (case k23 => k_is)
  (case a24 => k_is)
  (case l24 => k_is)
  (case c24 => k_is)
  (case k24 => k_is)
  (case a25 => k_is)
  (case l25 => k_is)
  (case c25 => k_is)
  (case k25 => k_is)
  (case a26 => k_is)
  (case l26 => k_is)
  (case c26 => k_is)
  (case k26 => k_is)
  (case a27 => k_is)
  (case l27 => k_is)
  (case c27 => k_is)
  (case k27 => k_is)
  (case a28 => k_is)
  (case l28 => k_is)
  (case c28 => k_is)
  (case k28 => k_is)
  (case a29 => k_is)
  (case l29 => k_is)
  (case c29 => k_is)
  (case k29 => k_is)
  (case a30 => k_is)
  (case l30 => k_is)
  (case c30 => k_is)
  (case k30 => k_is)
  (case a31 => k_is)
  (case l31 => k_is)
  (case c31 => k_is)
  (case k31 => k_is)
  (case z_abs => k_is)
  (case z_tuple => k_is)
  (case z_range => k_is)
  (case z_zip => k_is)
  (case z_isinstance => k_is)
  (case z_int => k_is)
  (case z_bool => k_is)
  (case z_len => k_is)
  (case z_list => k_is)
  (case z_all => k_is)
  (case z_set => k_is)
  (case z_ValueError => k_is)
  (case z_any => k_is)
  (case z_min => k_is)
  (case e_ChalkError => k_is)
  (case e_NoPlace => k_is)
  (case e_Same => k_is)
  (case e_NoFloor => k_is)
  (case e_Endless => k_is)
  (case e_NoDeed => k_is)
  (case e_NoText => k_is)
  (case e_NoName => k_is)
  (case e_TooMany => k_is)
  (case e_NoChange => k_is)
  (case e_NoFrame => k_is)
  (case e_NoValue => k_is)
  (case e_Unlike => k_is)
  (case e_NoRatio => k_is)
  (case e_NoBow => k_is)
  (case e_NoRow => k_is)
  (case y_NoFloor => k_exc)
  (case xga_NoFloor => k_is)
  (case xgh_NoFloor => k_is)
  (case xbs_NoFloor => k_is)
  (case xob_NoFloor => k_is)
  (case xca_NoFloor => k_is)
  (case xvv_NoFloor => kit_is)
  (case t_NoFloor_ChalkError => kit_is)
  (case u_NoFloor_ChalkError => kts_exm)
  (case t_NoFloor_NoPlace => kit_is)
  (case t_NoFloor_Same => kit_is)
  (case t_NoFloor_NoFloor => kit_is)
  (case u_NoFloor_NoFloor => kts_exm)
  (case t_NoFloor_Endless => kit_is)
  (case t_NoFloor_NoDeed => kit_is)
  (case t_NoFloor_NoText => kit_is)
  (case t_NoFloor_NoName => kit_is)
  (case t_NoFloor_TooMany => kit_is)
  (case t_NoFloor_NoChange => kit_is)
  (case t_NoFloor_NoFrame => kit_is)
  (case t_NoFloor_NoValue => kit_is)
  (case t_NoFloor_Unlike => kit_is)
  (case t_NoFloor_NoRatio => kit_is)
  (case t_NoFloor_NoBow => kit_is)
  (case t_NoFloor_NoRow => kit_is)
  (case y_Endless => k_exc)
  (case xga_Endless => k_is)
  (case xgh_Endless => k_is)
  (case xbs_Endless => k_is)
  (case xob_Endless => k_is)
  (case xca_Endless => k_is)
  (case xvv_Endless => kit_is)
  (case t_Endless_ChalkError => kit_is)
  (case u_Endless_ChalkError => kts_exm)
  (case t_Endless_NoPlace => kit_is)
  (case t_Endless_Same => kit_is)
  (case t_Endless_NoFloor => kit_is)
  (case t_Endless_Endless => kit_is)
  (case u_Endless_Endless => kts_exm)
  (case t_Endless_NoDeed => kit_is)
  (case t_Endless_NoText => kit_is)
  (case t_Endless_NoName => kit_is)
  (case t_Endless_TooMany => kit_is)
  (case t_Endless_NoChange => kit_is)
  (case t_Endless_NoFrame => kit_is)
  (case t_Endless_NoValue => kit_is)
  (case t_Endless_Unlike => kit_is)
  (case t_Endless_NoRatio => kit_is)
  (case t_Endless_NoBow => kit_is)
  (case t_Endless_NoRow => kit_is)
  (case xcg => k_is)
  (case xct => k_is)
  (case q_MOST_PEGS => k_is)
  (case hlaw => exact Lk11.law_ok)
end