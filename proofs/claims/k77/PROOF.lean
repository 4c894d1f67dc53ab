import PyProof.Rows.All
import Wide.All
import OpenK.AllK
import Wide.FinOn
import Lean
import PyProof.EqAt
import PyProof.EqKinds
import PyProof.TupleCall
import PyProof.NeKinds
import KE.KTryMore
import PyProof.NsDelKeeps
import PySem.SetTable
import PyProof.DictTable
import PyProof.SliceStr2
import PyProof.MeetsStr
import PyProof.StrWalks
import PyProof.TupleKey
import PyProof.SetKind
import PyProof.Rows.SetFrom
import PyProof.ZipIter
import PyProof.Rows.ZipGen
import PyProof.LayNew
import PySem.Challenge.RW_chalkline_k77_bows
section
set_option Elab.async false
set_option linter.all false
set_option maxRecDepth 100000
namespace L2
open PySem PySem.Spec PyProof.Rows
abbrev Key := Sum Int Str
def zsX : Key → Value → Bool
 | .inl k, v => Value.isInt k v
 | .inr x, v => Value.isStrOf x v
def keyH (w : World) : Key → Int
 | .inl k => hashInt k
 | .inr x => hashStr w x
theorem zbl : ∀ {k : Key} {v : Value}, zsX k v = true → (∃ i t, k = Sum.inl i ∧ v = Value.int i t) ∨ (∃ x t, k = Sum.inr x ∧ v = Value.str x t)
 | .inl i, v, h => by
  obtain ⟨t, e⟩ := Value.isInt_shape (k := i) (v := v) h
  exact .inl ⟨i, t, rfl, e⟩
 | .inr x, v, h => by
  obtain ⟨t, e⟩ := Value.isStrOf_shape (x := x) (v := v) h
  exact .inr ⟨x, t, rfl, e⟩
theorem zsY (a b : Int) : decide ((Sum.inl a : Key) = Sum.inl b) = (a == b) := by
 by_cases e : a = b
 ·subst e; simp
 ·have h : ¬ (Sum.inl a : Key) = Sum.inl b := fun q => e (Sum.inl.inj q)
  rw [decide_eq_false h]
  exact (beq_eq_false_iff_ne.mpr e).symm
theorem zsZ (a b : Str) : decide ((Sum.inr a : Key) = Sum.inr b) = decide (a = b) := by
 by_cases e : a = b
 ·subst e; simp
 ·have h : ¬ (Sum.inr a : Key) = Sum.inr b := fun q => e (Sum.inr.inj q)
  rw [decide_eq_false h, decide_eq_false e]
theorem zs0 (a : Int) (b : Str) : decide ((Sum.inl a : Key) = Sum.inr b) = false := decide_eq_false (fun q => nomatch q)
theorem zs1 (a : Str) (b : Int) : decide ((Sum.inr a : Key) = Sum.inl b) = false := decide_eq_false (fun q => nomatch q)
def zmM (prog : Program) (w : World) : PySem.KeyKind prog w Key where
 is := zsX
 hash := keyH w
 inj := fun v a b ha hb => by
  rcases zbl ha with ⟨i, t, rfl, rfl⟩ | ⟨x, t, rfl, rfl⟩
  ·rcases zbl hb with ⟨j, u, rfl, e⟩ | ⟨y, u, rfl, e⟩
   ·injection e with e1 _; rw [e1]
   ·exact nomatch e
  ·rcases zbl hb with ⟨j, u, rfl, e⟩ | ⟨y, u, rfl, e⟩
   ·exact nomatch e
   ·injection e with e1 _; rw [e1]
 byValue := fun k v h => by
  rcases zbl h with ⟨i, t, rfl, rfl⟩ | ⟨x, t, rfl, rfl⟩ <;> rfl
 pyHash := fun hv h => by
  rcases zbl hv with ⟨i, t, rfl, rfl⟩ | ⟨x, t, rfl, rfl⟩
  ·exact wpAny_pyHash_int h
  ·exact wpAny_pyHash_str h
 eqBool := fun hu hv h => by
  rcases zbl hu with ⟨i, t, rfl, rfl⟩ | ⟨x, t, rfl, rfl⟩
  ·rcases zbl hv with ⟨j, u, rfl, rfl⟩ | ⟨y, u, rfl, rfl⟩
   ·rw [zsY] at h; exact wpAny_eqBool_int h
   ·rw [zs0] at h; exact SeqAt.EqAt.int_str i t y u _ _ _ _ h
  ·rcases zbl hv with ⟨j, u, rfl, rfl⟩ | ⟨y, u, rfl, rfl⟩
   ·rw [zs1] at h; exact SeqAt.EqAt.str_int x t j u _ _ _ _ h
   ·rw [zsZ] at h; exact wpAny_eqBool_str h
 «strs» := fun k x t v h => by
  rcases zbl h with ⟨i, u, rfl, e⟩ | ⟨y, u, rfl, e⟩
  ·exact nomatch e
  ·injection e with e1 _
   subst e1
   cases v <;> rfl
end L2
namespace L2
open PySem PySem.Spec PyProof.Rows
inductive V where
 | non | bl (b : Bool) | int (i : Int) | str (x : Str) | byt (b : Array UInt8) | flt (b : UInt64) | ref (a : Addr) | ty (n : String)
 deriving DecidableEq
def zcb : V → Value → Prop
 | .non, u => u = Value.none
 | .bl b, u => u = Value.bool b
 | .int i, u => ∃ t, u = Value.int i t
 | .str x, u => ∃ t, u = Value.str x t
 | .byt b, u => ∃ t, u = Value.bytes b t
 | .flt b, u => ∃ t, u = Value.float b t
 | .ref a, u => u = Value.ref a
 | .ty n, u => u = Value.type n
abbrev zca : List V → List Value → Prop := Paired zcb
theorem zca.length {xs : List V} {us : List Value} (r : zca xs us) : xs.length = us.length := Paired.length r
theorem zca.get : ∀ {xs : List V} {us : List Value} {i : Nat} {x : V}, zca xs us → xs[i]? = some x → ∃ u, us[i]? = some u ∧ zcb x u
 | _, _, _, _, .nil, e => by simp at e
 | _, _, 0, _, .cons r _, e => by simp at e; subst e; exact ⟨_, rfl, r⟩
 | _, _, i + 1, x, .cons _ t, e => by
  obtain ⟨u, h1, h2⟩ := zca.get (i := i) (x := x) t (by simpa using e)
  exact ⟨u, by simpa using h1, h2⟩
theorem zca.append : ∀ {xs ys : List V} {us ws : List Value}, zca xs us → zca ys ws → zca (xs ++ ys) (us ++ ws)
 | _, _, _, _, .nil, s => s
 | _, _, _, _, .cons r t, s => .cons r (zca.append t s)
theorem zca.take : ∀ {xs : List V} {us : List Value} (n : Nat), zca xs us → zca (xs.take n) (us.take n)
 | _, _, 0, _ => .nil
 | _, _, _ + 1, .nil => .nil
 | _, _, n + 1, .cons r t => .cons r (zca.take n t)
theorem zca.drop : ∀ {xs : List V} {us : List Value} (n : Nat), zca xs us → zca (xs.drop n) (us.drop n)
 | _, _, 0, r => r
 | _, _, _ + 1, .nil => .nil
 | _, _, n + 1, .cons _ t => zca.drop n t
def RelO : Option V → Option Value → Prop
 | some v, some u => zcb v u
 | none, none => True
 | _, _ => False
def KV {κ : Type} : List (κ × V) → List (κ × Value) → Prop := Paired fun (p : κ × V) (q : κ × Value) => p.1 = q.1 ∧ zcb p.2 q.2
def kV : Key → V
 | .inl i => .int i
 | .inr x => .str x
inductive HO where
 | lst (xs : List V)
 | tup (xs : List V)
 | dK (kvs : List (Key × V)) | dT (kvs : List (List Key × V))
 | set (S : Int → Bool) (n : Nat)
 | ins (C dx : Addr) (fs : List (Str × V))
 | own (x : Addr)
 | xd (fs : List (Str × V))
 | met (f x : Addr)
 | rng (lo hi : Int)
 | frz (o : Obj) (u : HO)
 | tbl (ps : Array Value)
 | ext (φ : Heap → Prop)
abbrev Hp := Addr → Option HO
def upd (H : Hp) (a : Addr) (o : HO) : Hp := fun b => if b = a then some o else H b
theorem zaA {H : Hp} {a : Addr} {o : HO} : upd H a o a = some o := by unfold upd; rw [if_pos rfl]
theorem zay {H : Hp} {a b : Addr} {o : HO} (h : b ≠ a) : upd H a o b = H b := by unfold upd; rw [if_neg h]
theorem zas {H : Hp} {a b : Addr} {o : HO} (h : H a = some o) (h' : H b = none) : a ≠ b := by
 intro e; subst e; rw [h] at h'; cases h'
section
variable (P : Program) (w : World)
def zd0 (H : Hp) (h : Heap) (a : Addr) : HO → Prop
 | .lst xs => xs.length ≤ sizeLine ∧ ∃ (its : List Value) (n : Nat), zca xs its ∧ h.get? a = some { cls := .type "list", data := .seq its.toArray n }
 | .tup xs => xs.length ≤ sizeLine ∧ ∃ its : List Value, zca xs its ∧ IsTup h a its.toArray
 | .dK kvs => kvs.length ≤ sizeLine ∧ (a == sysModules) = false ∧ ∃ vs, KV kvs vs ∧ h.DictOf (zmM P w) a vs
 | .dT kvs => kvs.length ≤ sizeLine ∧ (a == sysModules) = false ∧ ∃ xs : List (List Key × Addr × Value),
   Paired (fun (p : List Key × V) (q : List Key × Addr × Value) => p.1 = q.1 ∧ H q.2.1 = some (.tup (p.1.map kV)) ∧ zcb p.2 q.2.2) kvs xs ∧
   ∃ o es ep, h.get? a = some o ∧ o.ExactDict ∧ o.data = .dict es ep ∧ es.toList = xs.map (entryOfKey (tupleKind (zmM P w))) ∧ (xs.map (·.1)).Nodup
 | .set S n => h.SetOf (intKind P w) a S n
 | .ins C dx fs => H dx = some (.own a) ∧ fs.length ≤ 1000 ∧ dx ≠ a ∧ h.get? a = some (PySem.W.instObj C dx) ∧
   ∃ mA, h.Ns1 dx mA ∧ (∀ f, RelO (fs.lookup f) (mA f)) ∧ PySem.Within mA (fs.map (·.1))
 | .own _ => ∃ o, h.get? a = some o
 | .xd fs => ∃ mA, h.Ns1 a mA ∧ ∀ f, RelO (fs.lookup f) (mA f)
 | .rng lo hi => ∃ t u v, h.get? a = some { cls := .type "range", data := .fields #[.int lo t, .int hi u, .int 1 v] }
 | .frz o u => h.get? a = some o ∧ zd0 H h a u
 | .tbl ps => h.get? a = some { cls := .none, data := .fields ps }
 | .met f x => h.get? a = some (PySem.W.methodObj (.ref f) (.ref x))
 | .ext φ => φ h ∧ (∃ o, h.get? a = some o) ∧ ∀ h1 h2 : Heap, φ h1 → (∀ o, h1.get? a = some o → h2.get? a = some o) → φ h2
def HOk (H : Hp) (h : Heap) : Prop := ∀ a o, H a = some o → zd0 P w H h a o
end
section
variable {P : Program} {w : World} {H H' : Hp} {h h' : Heap} {a : Addr} {o : HO}
theorem zd0.lt (x : zd0 P w H h a o) : a < h.objs.size := by
 cases o with
 | lst xs => obtain ⟨_, _, _, _, e⟩ := x; exact Heap.lt_size e
 | tup xs => obtain ⟨_, _, _, p⟩ := x; exact p.lt
 | dK kvs => obtain ⟨_, _, _, _, o, _, _, e, _⟩ := x; exact Heap.lt_size e
 | dT kvs => obtain ⟨_, _, _, _, o, _, _, e, _⟩ := x; exact Heap.lt_size e
 | set S n => obtain ⟨o, _, _, _, e, _⟩ := x; exact Heap.lt_size e
 | ins C dx fs => obtain ⟨_, _, _, e, _⟩ := x; exact Heap.lt_size e
 | own y => obtain ⟨_, e⟩ := x; exact Heap.lt_size e
 | xd fs => obtain ⟨_, ⟨_, _, _, e, _⟩, _⟩ := x; exact Heap.lt_size e
 | rng lo hi => obtain ⟨_, _, _, e⟩ := x; exact Heap.lt_size e
 | frz ob u => obtain ⟨e, _⟩ := x; exact Heap.lt_size e
 | tbl ps => exact Heap.lt_size (show h.get? a = some _ from x)
 | met f y => exact Heap.lt_size (show h.get? a = some _ from x)
 | ext φ => obtain ⟨_, ⟨_, e⟩, _⟩ := x; exact Heap.lt_size e
theorem Paired.mapP {α β : Type} {F G : α → β → Prop} : ∀ {l₁ : List α} {l₂ : List β}, Paired F l₁ l₂ → (∀ a b, F a b → G a b) → Paired G l₁ l₂
 | _, _, .nil, _ => .nil
 | _, _, .cons r t, f => .cons (f _ _ r) (Paired.mapP t f)
theorem zd0.stay (x : zd0 P w H h a o) (k : ∀ b u, (b = a ∨ H b = some (.own a)) → h.get? b = some u → h'.get? b = some u)
  (ho : ∀ b, H b = some (.own a) → H' b = some (.own a)) (ht : ∀ b xs, H b = some (.tup xs) → H' b = some (.tup xs)) : zd0 P w H' h' a o := by
 induction o with
 | lst xs => obtain ⟨z, its, n, r, e⟩ := x; exact ⟨z, its, n, r, k _ _ (.inl rfl) e⟩
 | tup xs => obtain ⟨z, its, r, ob, e, c⟩ := x; exact ⟨z, its, r, ob, k _ _ (.inl rfl) e, c⟩
 | dK kvs => obtain ⟨z, y, vs, r, ob, es, ep, e, c⟩ := x; exact ⟨z, y, vs, r, ob, es, ep, k _ _ (.inl rfl) e, c⟩
 | dT kvs =>
  obtain ⟨z, y, xs, r, ob, es, ep, e, c⟩ := x
  exact ⟨z, y, xs, Paired.mapP r fun p q z => ⟨z.1, ht _ _ z.2.1, z.2.2⟩, ob, es, ep, k _ _ (.inl rfl) e, c⟩
 | set S n => obtain ⟨ob, es, ep, t, e, c⟩ := x; exact ⟨ob, es, ep, t, k _ _ (.inl rfl) e, c⟩
 | ins C dx fs =>
  obtain ⟨d, z, ne, e, mA, ⟨od, es, ep, e2, c⟩, r⟩ := x
  exact ⟨ho _ d, z, ne, k _ _ (.inl rfl) e, mA, ⟨od, es, ep, k _ _ (.inr d) e2, c⟩, r⟩
 | own y => obtain ⟨ob, e⟩ := x; exact ⟨ob, k _ _ (.inl rfl) e⟩
 | xd fs => obtain ⟨mA, ⟨od, es, ep, e, c⟩, r⟩ := x; exact ⟨mA, ⟨od, es, ep, k _ _ (.inl rfl) e, c⟩, r⟩
 | rng lo hi => obtain ⟨t, u, v, e⟩ := x; exact ⟨t, u, v, k _ _ (.inl rfl) e⟩
 | frz ob u ih => obtain ⟨e, q⟩ := x; exact ⟨k _ _ (.inl rfl) e, ih q⟩
 | tbl ps =>
  have e : h.get? a = some { cls := .none, data := .fields ps } := x
  show h'.get? a = some { cls := .none, data := .fields ps }
  exact k a _ (.inl rfl) e
 | met f y =>
  have e : h.get? a = some (PySem.W.methodObj (.ref f) (.ref y)) := x
  show h'.get? a = some (PySem.W.methodObj (.ref f) (.ref y))
  exact k a _ (.inl rfl) e
 | ext φ => obtain ⟨p, ⟨o, e⟩, st⟩ := x; exact ⟨st _ _ p fun o q => k _ _ (.inl rfl) q, ⟨o, k _ _ (.inl rfl) e⟩, st⟩
theorem HOk.lt (x : HOk P w H h) (e : H a = some o) : a < h.objs.size := (x a o e).lt
theorem HOk.fresh (x : HOk P w H h) (e : h.objs.size ≤ a) : H a = none := by
 cases q : H a with
 | none => rfl
 | some u => exact absurd (Nat.lt_of_lt_of_le (x.lt q) e) (Nat.lt_irrefl _)
theorem HOk.kept (x : HOk P w H h) (k : ∀ b u, h.get? b = some u → h'.get? b = some u) : HOk P w H h' := fun a o e =>
 (x a o e).stay (fun b u _ q => k b u q) (fun _ q => q) fun _ _ q => q
theorem HOk.laid (x : HOk P w H h) (k : ∀ b u, h.get? b = some u → h'.get? b = some u) (hp : h.objs.size ≤ a) (new : zd0 P w (upd H a o) h' a o) : HOk P w (upd H a o) h' := fun b u e => by
 have hn := x.fresh hp
 by_cases hb : b = a
 ·subst hb; rw [zaA] at e; cases e; exact new
 ·rw [zay hb] at e
  exact (x b u e).stay (fun c v _ q => k c v q) (fun c q => by rw [zay (zas q hn)]; exact q) fun c xs q => by rw [zay (zas q hn)]; exact q
end
def Rd (H : Hp) (a : Addr) (u : HO) : Prop := H a = some u ∨ ∃ o, H a = some (.frz o u)
theorem Rd.ok {P : Program} {w : World} {H : Hp} {h : Heap} {a : Addr} {u : HO} (r : Rd H a u) (x : HOk P w H h) : zd0 P w H h a u := by
 rcases r with r | ⟨o, r⟩
 ·exact x a u r
 ·obtain ⟨_, q⟩ := x a _ r
  exact q
def Mut : Option HO → Prop
 | some (.lst _) => True
 | some (.dK _) => True
 | some (.dT _) => True
 | some (.set _ _) => True
 | some (.ins _ _ _) => True
 | some (.ext _) => True
 | _ => False
section
variable {P : Program} {w : World} {H : Hp} {h h' : Heap} {x e : Addr} {o' : HO}
theorem HOk.write (ok : HOk P w H h) (mu : Mut (H x)) (he : e = x ∨ H e = some (.own x)) (k : ∀ b u, b ≠ e → h.get? b = some u → h'.get? b = some u) (heo : ∃ u, h'.get? e = some u)
  (new : zd0 P w (upd H x o') h' x o') : HOk P w (upd H x o') h' := fun b u q => by
 have nown : ∀ c y, H c = some (.own y) → c ≠ x := fun c y r z => by subst z; rw [r] at mu; exact mu
 have ntup : ∀ c xs, H c = some (.tup xs) → c ≠ x := fun c xs r z => by subst z; rw [r] at mu; exact mu
 by_cases hb : b = x
 ·subst hb; rw [zaA] at q; cases q; exact new
 ·rw [zay hb] at q
  by_cases hbe : b = e
  ·have q' : H b = some (.own x) := by
    rcases he with z | z
    ·exact absurd (hbe.trans z) hb
    ·rw [hbe]; exact z
   rw [q] at q'; cases q'
   obtain ⟨v, hv⟩ := heo
   exact ⟨v, by rw [hbe]; exact hv⟩
  ·refine (ok b u q).stay (fun c v hc r => k c v ?_ r) (fun c r => by rw [zay (nown c b r)]; exact r) fun c xs r => by rw [zay (ntup c xs r)]; exact r
   rcases hc with rfl | hc
   ·exact hbe
   ·rintro rfl
    rcases he with z | z
    ·exact nown c b hc z
    ·rw [hc] at z; cases z; exact hb rfl
end
structure Un (fs ex : List Addr) (H H' : Hp) (h h' : Heap) : Prop where
 keep : ∀ b o, h.get? b = some o → H b = none → b ∉ fs → b ∉ ex → h'.get? b = some o
 slot : ∀ b o, h.get? b = some o → H b = none → b ∈ fs → b ∉ ex → ∃ sl, h'.get? b = some { o with slots := sl }
 free : ∀ b o, h.get? b = some o → H b = none → b ∉ ex → H' b = none
 there : ∀ b o, h.get? b = some o → b ∉ ex → ∃ o', h'.get? b = some o'
 tups : ∀ b xs, H b = some (.tup xs) → H' b = some (.tup xs)
 frzs : ∀ b o u, H b = some (.frz o u) → H' b = some (.frz o u)
 tbls : ∀ b ps, H b = some (.tbl ps) → ∃ more, H' b = some (.tbl (ps ++ more))
section
variable {fs fs' ex ex' : List Addr} {H H1 H2 : Hp} {h h1 h2 h' : Heap} {a x e : Addr} {o : HO}
theorem Un.any (u : Un fs ex H H1 h h1) {b : Addr} {ob : Obj} (q : h.get? b = some ob) (n : H b = none) (hx : b ∉ ex) : ∃ sl, h1.get? b = some { ob with slots := sl } := by
 by_cases hb : b ∈ fs
 ·exact u.slot b ob q n hb hx
 ·exact ⟨ob.slots, u.keep b ob q n hb hx⟩
theorem Un.kept (k : ∀ b u, h.get? b = some u → h'.get? b = some u) : Un fs ex H H h h' :=
 ⟨fun b ob q _ _ _ => k b ob q, fun b ob q _ _ _ => ⟨ob.slots, k b ob q⟩, fun _ _ _ n _ => n, fun b ob q _ => ⟨ob, k b ob q⟩, fun _ _ q => q, fun _ _ _ q => q, fun _ ps q => ⟨#[], by rw [q]; simp⟩⟩
theorem Un.refl : Un fs ex H H h h := Un.kept fun _ _ q => q
theorem Un.laid (k : ∀ b u, h.get? b = some u → h'.get? b = some u) (hp : h.objs.size ≤ a) (hn : H a = none) : Un fs ex H (upd H a o) h h' where
 keep := fun b u q _ _ _ => k b u q
 slot := fun b u q _ _ _ => ⟨u.slots, k b u q⟩
 free := fun b u q n _ => by rw [zay (Nat.ne_of_lt (Nat.lt_of_lt_of_le (Heap.lt_size q) hp))]; exact n
 there := fun b u q _ => ⟨u, k b u q⟩
 tups := fun b xs q => by rw [zay (zas q hn)]; exact q
 frzs := fun b u xs q => by rw [zay (zas q hn)]; exact q
 tbls := fun b ps q => ⟨#[], by rw [zay (zas q hn), q]; simp⟩
theorem Un.write (mu : Mut (H x)) (he : e = x ∨ H e = some (.own x)) (k : ∀ b u, b ≠ e → h.get? b = some u → h'.get? b = some u) (heo : ∃ u, h'.get? e = some u) : Un fs ex H (upd H x o) h h' := by
 have hx : ∀ b, H b = none → b ≠ x := fun b n z => by subst z; rw [n] at mu; exact mu
 have hb : ∀ b, H b = none → b ≠ e := fun b n z => by
  subst z
  rcases he with r | r
  ·exact hx b n r
  ·rw [n] at r; cases r
 have hm : ∀ b u, H b = some u → ¬ Mut (some u) → b ≠ x := fun b u q nm z => by subst z; rw [q] at mu; exact nm mu
 refine ⟨fun b u q n _ _ => k b u (hb b n) q, fun b u q n _ _ => ⟨u.slots, k b u (hb b n) q⟩, fun b u q n _ => by rw [zay (hx b n)]; exact n, fun b u q _ => ?_,
  fun b xs q => by rw [zay (hm b _ q fun z => z)]; exact q, fun b u xs q => by rw [zay (hm b _ q fun z => z)]; exact q, fun b ps q => ⟨#[], by rw [zay (hm b _ q fun z => z), q]; simp⟩⟩
 by_cases hbe : b = e
 ·subst hbe; exact heo
 ·exact ⟨u, k b u hbe q⟩
end
def trk (h : Heap) (H : Hp) : List Addr := (List.range h.objs.size).filter fun a => (H a).isSome
def zo9 (h : Heap) (H : Hp) : Heap := PySem.W.hideAll h (trk h H)
theorem zmN (h : Heap) (H : Hp) : (zo9 h H).objs.size = h.objs.size := PySem.W.hideAll_size _ _
theorem zpa {h : Heap} {H : Hp} {b : Addr} {o : Obj} (e : h.get? b = some o) (n : H b = none) : (zo9 h H).get? b = some o :=
 PySem.W.hideAll_get _ e fun hm => by
  have q : (H b).isSome = true := (List.mem_filter.mp hm).2
  rw [n] at q; simp at q
theorem zrB {h : Heap} {H : Hp} {b : Addr} {o : Obj} (e : (zo9 h H).get? b = some o) : h.get? b = some o ∧ H b = none := by
 have e' : h.get? b = some o := PySem.W.of_hideAll (trk h H) e
 refine ⟨e', ?_⟩
 cases q : H b with
 | none => rfl
 | some x =>
  have hm : b ∈ trk h H := List.mem_filter.mpr ⟨List.mem_range.mpr (Heap.lt_size e'), by simp [q]⟩
  have z : (zo9 h H).get? b = none := PySem.W.hideAll_none (trk h H) hm
  rw [z] at e; cases e
def zrC (g h : Heap) (L : Addr) : List (Addr × Obj) := (List.range h.objs.size).filterMap fun a => if a = L ∨ (g.get? a).isSome = true then none else (h.get? a).map fun o => (a, o)
def zcB (g h : Heap) (L d : Addr) : List (Addr × Obj) := (zrC g h L).filter fun p => decide (p.1 ≠ d)
end L2
namespace L2
open PySem PySem.Spec PyProof.Rows
structure Mod (K : PySem.W.Frag) (mg : Str → Option Value) (base : Heap) : Prop where
 kin : K.In base
 glob : base.Ns mainGlobals mg
 blt : ∃ mb, base.Ns builtinsNs mb ∧ ∀ x : Str, x ≠ "__name__" → mb x = bootBuiltins x
 nolimit : base.NoLimit
structure Cx where
 prog : Program
 w : World
 K : PySem.W.Frag
 mg : Str → Option Value
 base : Heap
 A : Around
 N : List Str
 s₀ : Shared
 H₀ : Hp
 env : Env
 outer : List Env
 stack : List Env
 ex : List Addr
 fn : Str → Bool
 calm : Bool
 pn : List (Addr × Obj)
 xe : Value → Shared → Prop
def frs (l : List Env) : List Addr := l.filterMap (·.frame)
abbrev Cx.fs (X : Cx) : List Addr := frs X.outer
def Vis (sc : Scope) (x : Str) : Prop := sc.names.lookup x = some .local ∨ sc.names.lookup x = some .cell ∨ sc.names.lookup x = some .free
def Loc (sc : Scope) (x : Str) : Prop := sc.names.lookup x = some .local ∨ sc.names.lookup x = some .cell
def Look (env : Env) (h : Heap) (m : Str → Option Value) (x : Str) (u : Value) : Prop :=
 (env.kindOf x = some .local ∧ m x = some u) ∨ ((env.kindOf x = some .cell ∨ env.kindOf x = some .free) ∧ ∃ c, env.cells.lookup x = some c ∧ h.IsCell c (some u))
structure Cx.Ok (X : Cx) : Prop where
 mod : Mod X.K X.mg X.base
 kind : X.env.scope.kind = .function
 glob : X.env.globals = mainGlobals
 blt : X.env.builtins = builtinsNs
 above : X.s₀.heap.objs.size ≤ X.env.locals
 inj : ∀ x y c, X.env.cells.lookup x = some c → X.env.cells.lookup y = some c → x = y
 has : ∀ x, (X.env.kindOf x = some .cell ∨ X.env.kindOf x = some .free) → ∃ c, X.env.cells.lookup x = some c
 cab : ∀ x c, X.fn x = true → X.env.cells.lookup x = some c → X.s₀.heap.objs.size ≤ c
 hd : X.calm = true → X.A.handled = none
 frames : X.A.frames = some X.stack
 stk : X.stack = X.outer ∨ (X.stack = X.env :: X.outer ∧ X.env.frame = some X.env.locals)
 exf : ∀ b ∈ X.ex, b ≠ X.env.locals ∧ ∀ x c, X.env.cells.lookup x = some c → c ≠ b
 bs : ∀ b o, X.base.get? b = some o → X.s₀.heap.get? b = some o ∧ X.H₀ b = none
 bsz : X.base.objs.size ≤ X.s₀.heap.objs.size
 noex : ∀ b o, X.base.get? b = some o → b ∉ X.ex
 exfs : ∀ b ∈ X.ex, b ∉ X.fs
 funs : X.s₀.heap.FunFrames X.base X.outer
 frf : ∀ b ∈ X.fs, X.H₀ b = none
structure Inv (X : Cx) (pins : List (Addr × Obj)) (σ : List (Option V)) (H : Hp) (s : Shared) : Prop where
 ok : X.Ok
 os : s.os = X.s₀.os
 bare : AllBare s.gens
 base : Un X.fs X.ex X.H₀ H X.s₀.heap s.heap
 loc : ∃ m, s.heap.Ns X.env.locals m ∧ ∀ (i : Nat) (x : Str) (v : V), X.N[i]? = some x → σ[i]? = some (some v) → Vis X.env.scope x → ∃ u, zcb v u ∧ Look X.env s.heap m x u
 cell : ∀ x c, X.env.cells.lookup x = some c → ∃ v, s.heap.IsCell c v
 free : H X.env.locals = none
 freeC : ∀ x c, X.env.cells.lookup x = some c → H c = none
 pin : ∀ p ∈ X.pn ++ pins, s.heap.get? p.1 = some p.2 ∧ H p.1 = none ∧ p.1 ≠ X.env.locals ∧ p.1 ∉ X.fs ∧ ∀ v, p.2.data ≠ .cell v
 hok : HOk X.prog X.w H s.heap
 len : σ.length = X.N.length
section
variable {X : Cx} {pins : List (Addr × Obj)} {σ : List (Option V)} {H H' : Hp} {s : Shared} {h' : Heap}
theorem Cx.Ok.nofr (ok : X.Ok) {b : Addr} {o : Obj} (e : X.base.get? b = some o) : b ∉ X.fs := fun hb => by
 have := (ok.funs.mem hb).1
 rw [e] at this; cases this
theorem Inv.bs (I : Inv X pins σ H s) : ∀ b o, X.base.get? b = some o → s.heap.get? b = some o ∧ H b = none := fun b o e =>
 ⟨I.base.keep b o (I.ok.bs b o e).1 (I.ok.bs b o e).2 (I.ok.nofr e) (I.ok.noex b o e), I.base.free b o (I.ok.bs b o e).1 (I.ok.bs b o e).2 (I.ok.noex b o e)⟩
theorem Inv.bk (I : Inv X pins σ H s) : ∀ b o, X.base.get? b = some o → s.heap.get? b = some o := fun b o e => (I.bs b o e).1
theorem Inv.mod (I : Inv X pins σ H s) : Mod X.K X.mg X.base := I.ok.mod
theorem Inv.kIn (I : Inv X pins σ H s) : X.K.In s.heap := I.ok.mod.kin.keeps I.bk
theorem Inv.fr (I : Inv X pins σ H s) : ∃ m, Fr X.base X.env.locals s.heap m :=
 let ⟨m, hn, _⟩ := I.loc
 ⟨m, hn, I.bk, Nat.le_trans I.ok.bsz I.ok.above⟩
theorem Inv.lt (I : Inv X pins σ H s) : X.env.locals < s.heap.objs.size := let ⟨_, hn, _⟩ := I.loc; hn.lt
theorem Inv.sz (I : Inv X pins σ H s) : X.s₀.heap.objs.size ≤ s.heap.objs.size := Nat.le_trans I.ok.above (Nat.le_of_lt I.lt)
theorem Inv.nofs (I : Inv X pins σ H s) {a : Addr} (h : s.heap.objs.size ≤ a) : a ∉ X.fs := fun hb => by
 obtain ⟨_, o, ho, _⟩ := I.ok.funs.mem hb
 exact absurd (Nat.lt_of_lt_of_le (Heap.lt_size ho) (Nat.le_trans I.sz h)) (Nat.lt_irrefl _)
theorem Inv.cne (I : Inv X pins σ H s) : ∀ x c, X.env.cells.lookup x = some c → c ≠ X.env.locals := fun x c e z => by
 obtain ⟨v, o, ho, hd⟩ := I.cell x c e
 obtain ⟨m, ⟨o', es, ep, ho', hd', _⟩, _⟩ := I.loc
 rw [z, ho'] at ho; cases ho; rw [hd'] at hd; cases hd
theorem Inv.funs (I : Inv X pins σ H s) : s.heap.FunFrames X.base X.outer := by
 have all : ∀ (l : List Env), (∀ b ∈ frs l, b ∈ X.fs) → X.s₀.heap.FunFrames X.base l → s.heap.FunFrames X.base l := by
  intro l
  induction l with
  | nil => intro _ _; trivial
  | cons env r ih =>
   intro hs hl
   obtain ⟨hk, ⟨L, o, hf, hn, ho, hd⟩, hr⟩ := hl
   have hL : L ∈ X.fs := hs L (by unfold frs; rw [List.filterMap_cons, hf]; exact List.mem_cons_self)
   obtain ⟨sl, e⟩ := I.base.slot L o ho (I.ok.frf L hL) hL fun z => I.ok.exfs L z hL
   exact ⟨hk, ⟨L, _, hf, hn, e, hd⟩, ih (fun b hb => hs b (by unfold frs; rw [List.filterMap_cons, hf]; exact List.mem_cons_of_mem _ hb)) hr⟩
 exact all X.outer (fun _ hb => hb) I.ok.funs
theorem Inv.stack (I : Inv X pins σ H s) : s.heap.FunFrames X.base X.stack := by
 rcases I.ok.stk with e | ⟨e, hf⟩
 ·rw [e]; exact I.funs
 ·rw [e]
  obtain ⟨m, hn, _⟩ := I.loc
  refine .cons (by rw [I.ok.kind]; decide) hf hn ?_ I.funs
  exact Heap.get?_none_of_le (Nat.le_trans I.ok.bsz I.ok.above)
theorem Inv.stkSub (I : Inv X pins σ H s) : ∀ b ∈ frs X.stack, b ∈ X.env.locals :: X.fs := fun b hb => by
 rcases I.ok.stk with e | ⟨e, hf⟩
 ·rw [e] at hb; exact List.mem_cons_of_mem _ hb
 ·rw [e] at hb
  unfold frs at hb
  rw [List.filterMap_cons, hf] at hb
  exact hb
theorem Inv.stkFree (I : Inv X pins σ H s) : ∀ b ∈ frs X.stack, H b = none := fun b hb => by
 rcases List.mem_cons.mp (I.stkSub b hb) with e | hb
 ·rw [e]; exact I.free
 ·obtain ⟨_, o, ho, _⟩ := I.ok.funs.mem hb
  exact I.base.free b o ho (I.ok.frf b hb) fun z => I.ok.exfs b z hb
theorem Inv.step {g' : Array GenState} {t' : Nat} {d' : Drawn} {ch : List Addr} (I : Inv X pins σ H s)
  (hch : ∀ b ∈ ch, (b ∈ X.ex ∨ X.s₀.heap.objs.size ≤ b) ∧ b ≠ X.env.locals ∧ (∀ x c, X.env.cells.lookup x = some c → c ≠ b) ∧ ∀ p ∈ X.pn ++ pins, p.1 ≠ b)
  (keep : ∀ b o, b ≠ X.env.locals → b ∉ X.fs → b ∉ ch → s.heap.get? b = some o → H b = none → h'.get? b = some o)
  (slot : ∀ b o, b ≠ X.env.locals → b ∈ X.fs → b ∉ ch → s.heap.get? b = some o → H b = none → ∃ sl, h'.get? b = some { o with slots := sl }) (free : ∀ b o, b ∉ ch → s.heap.get? b = some o → H b = none → H' b = none)
  (there : ∀ b o, b ∉ ch → s.heap.get? b = some o → ∃ o', h'.get? b = some o')
  (tups : ∀ b xs, H b = some (.tup xs) → H' b = some (.tup xs)) (frzs : ∀ b o u, H b = some (.frz o u) → H' b = some (.frz o u)) (tbls : ∀ b ps, H b = some (.tbl ps) → ∃ more, H' b = some (.tbl (ps ++ more)))
  (ns : ∀ m, s.heap.Ns X.env.locals m → h'.Ns X.env.locals m) (hok : HOk X.prog X.w H' h') (hg : AllBare g') :
  Inv X pins σ H' { s with heap := h', gens := g', drawn := d', toks := t' } := by
 have neL : ∀ b o, X.s₀.heap.get? b = some o → b ≠ X.env.locals := fun b o e => Nat.ne_of_lt (Nat.lt_of_lt_of_le (Heap.lt_size e) I.ok.above)
 have neC : ∀ b o, X.s₀.heap.get? b = some o → b ∉ X.ex → b ∉ ch := fun b o e hx hb => by
  rcases (hch b hb).1 with z | z
  ·exact hx z
  ·exact absurd (Nat.lt_of_lt_of_le (Heap.lt_size e) z) (Nat.lt_irrefl _)
 have cellK : ∀ x c, X.env.cells.lookup x = some c → ∀ v, s.heap.IsCell c v → h'.IsCell c v := fun x c e v ⟨o, ho, hd⟩ => by
  have nch : c ∉ ch := fun z => (hch c z).2.2.1 x c e rfl
  by_cases hc : c ∈ X.fs
  ·obtain ⟨sl, q⟩ := slot c o (I.cne x c e) hc nch ho (I.freeC x c e)
   exact ⟨_, q, hd⟩
  ·exact ⟨o, keep c o (I.cne x c e) hc nch ho (I.freeC x c e), hd⟩
 refine ⟨I.ok, I.os, hg, ⟨fun b o e n hb hx => ?_, fun b o e n hb hx => ?_, fun b o e n hx => ?_, fun b o e hx => ?_, fun b xs e => tups b xs (I.base.tups b xs e), fun b o xs e => frzs b o xs (I.base.frzs b o xs e), fun b ps e => ?_⟩, ?_, fun x c e => ?_, ?_, fun x c e => ?_, fun p hp => ?_, hok, I.len⟩
 ·exact keep b o (neL b o e) hb (neC b o e hx) (I.base.keep b o e n hb hx) (I.base.free b o e n hx)
 ·obtain ⟨sl, e1⟩ := I.base.slot b o e n hb hx
  obtain ⟨sl', e2⟩ := slot b _ (neL b o e) hb (neC b o e hx) e1 (I.base.free b o e n hx)
  exact ⟨sl', e2⟩
 ·obtain ⟨o', e1⟩ := I.base.there b o e hx
  exact free b o' (neC b o e hx) e1 (I.base.free b o e n hx)
 ·obtain ⟨o', e1⟩ := I.base.there b o e hx
  exact there b o' (neC b o e hx) e1
 ·obtain ⟨m1, e1⟩ := I.base.tbls b ps e
  obtain ⟨m2, e2⟩ := tbls b _ e1
  exact ⟨m1 ++ m2, by rw [e2, Array.append_assoc]⟩
 ·obtain ⟨m, hn, hl⟩ := I.loc
  refine ⟨m, ns m hn, fun i x v e1 e2 e3 => ?_⟩
  obtain ⟨u, r, l⟩ := hl i x v e1 e2 e3
  refine ⟨u, r, ?_⟩
  rcases l with l | ⟨k, c, e, z⟩
  ·exact .inl l
  ·exact .inr ⟨k, c, e, cellK x c e _ z⟩
 ·obtain ⟨v, z⟩ := I.cell x c e
  exact ⟨v, cellK x c e v z⟩
 ·obtain ⟨m, ⟨o, _, _, ho, _⟩, _⟩ := I.loc
  exact free _ o (fun z => (hch _ z).2.1 rfl) ho I.free
 ·obtain ⟨v, o, ho, hd⟩ := I.cell x c e
  exact free c o (fun z => (hch c z).2.2.1 x c e rfl) ho (I.freeC x c e)
 ·obtain ⟨e, n, ne, nf, d⟩ := I.pin p hp
  have nch : p.1 ∉ ch := fun z => (hch p.1 z).2.2.2 p hp rfl
  exact ⟨keep p.1 p.2 ne nf nch e n, free p.1 p.2 nch e n, ne, nf, d⟩
theorem Inv.un {t' : Nat} (I : Inv X pins σ H s) (u : Un X.fs [] H H' s.heap h') (hok : HOk X.prog X.w H' h') : Inv X pins σ H' { s with heap := h', toks := t' } := by
 obtain ⟨m, ⟨o, es, ep, ho, r⟩, _⟩ := id I.loc
 obtain ⟨sl, hL⟩ := u.any ho I.free (by simp)
 exact I.step (g' := s.gens) (d' := s.drawn) (ch := []) (fun _ z => nomatch z) (fun b o _ hb _ e n => u.keep b o e n hb (by simp)) (fun b o _ hb _ e n => u.slot b o e n hb (by simp)) (fun b o _ e n => u.free b o e n (by simp)) (fun b o _ e => u.there b o e (by simp)) u.tups u.frzs u.tbls (fun m' hm => by
  obtain ⟨o', es', ep', ho', r'⟩ := hm
  rw [ho] at ho'; cases ho'
  exact ⟨_, es', ep', hL, r'⟩) hok I.bare
theorem Inv.call {g' : Array GenState} {t' : Nat} {d' : Drawn} {ch : List Addr} (I : Inv X pins σ H s) (u : Un (frs X.stack) ch H H' s.heap h') (hok : HOk X.prog X.w H' h') (hg : AllBare g')
  (hch : ∀ b ∈ ch, (b ∈ X.ex ∨ X.s₀.heap.objs.size ≤ b) ∧ b ≠ X.env.locals ∧ (∀ x c, X.env.cells.lookup x = some c → c ≠ b) ∧ ∀ p ∈ X.pn ++ pins, p.1 ≠ b) :
  Inv X pins σ H' { s with heap := h', gens := g', drawn := d', toks := t' } := by
 obtain ⟨m, ⟨o, es, ep, ho, r⟩, _⟩ := id I.loc
 obtain ⟨sl, hL⟩ := u.any ho I.free fun z => (hch _ z).2.1 rfl
 exact I.step (ch := ch) hch (fun b o hL hb hc e n => u.keep b o e n (fun z => (List.mem_cons.mp (I.stkSub b z)).elim hL hb) hc) (fun b o _ _ hc e n => u.any e n hc) (fun b o hc e n => u.free b o e n hc) (fun b o hc e => u.there b o e hc) u.tups u.frzs u.tbls (fun m' hm => by
  obtain ⟨o', es', ep', ho', r'⟩ := hm
  rw [ho] at ho'; cases ho'
  exact ⟨_, es', ep', hL, r'⟩) hok hg
theorem Inv.turned {t' : Nat} {it : Addr} (I : Inv X pins σ H s) (k : ∀ b o, b ≠ it → s.heap.get? b = some o → h'.get? b = some o) (hn : H it = none) (hL : it ≠ X.env.locals)
  (h1 : it ∈ X.ex ∨ X.s₀.heap.objs.size ≤ it) (h2 : ∀ x c, X.env.cells.lookup x = some c → c ≠ it) (h3 : ∀ p ∈ X.pn ++ pins, p.1 ≠ it) : Inv X pins σ H { s with heap := h', toks := t' } := by
 have nit : ∀ b u, H b = some u → b ≠ it := fun b u e z => by rw [z, hn] at e; cases e
 refine I.step (g' := s.gens) (d' := s.drawn) (ch := [it]) (fun b hb => ?_) (fun b o _ _ hc e _ => k b o (fun z => hc (by simp [z])) e) (fun b o _ _ hc e _ => ⟨o.slots, k b o (fun z => hc (by simp [z])) e⟩) (fun _ _ _ _ n => n)
  (fun b o hc e => ⟨o, k b o (fun z => hc (by simp [z])) e⟩) (fun _ _ e => e) (fun _ _ _ e => e) (fun b ps e => ⟨#[], by rw [e]; simp⟩) (fun m hm => ?_) (fun b u e => ?_) I.bare
 ·have e : b = it := by simpa using hb
  subst e
  exact ⟨h1, hL, h2, h3⟩
 ·obtain ⟨o, es, ep, ho, r⟩ := hm
  exact ⟨o, es, ep, k _ o (Ne.symm hL) ho, r⟩
 ·refine (I.hok b u e).stay (fun c v hc q => k c v ?_ q) (fun _ q => q) fun _ _ q => q
  rcases hc with z | z
  ·rw [z]; exact nit b u e
  ·exact nit c _ z
theorem Inv.tok (I : Inv X pins σ H s) (t : Nat) : Inv X pins σ H { s with toks := t } := I.un (h' := s.heap) (t' := t) Un.refl I.hok
theorem Inv.kept {t' : Nat} (I : Inv X pins σ H s) (k : ∀ b u, s.heap.get? b = some u → h'.get? b = some u) : Inv X pins σ H { s with heap := h', toks := t' } := I.un (Un.kept k) (I.hok.kept k)
theorem Inv.laid {a : Addr} {o : HO} {t' : Nat} (I : Inv X pins σ H s) (k : ∀ b u, s.heap.get? b = some u → h'.get? b = some u) (hp : s.heap.objs.size ≤ a) (new : zd0 X.prog X.w (upd H a o) h' a o) :
  Inv X pins σ (upd H a o) { s with heap := h', toks := t' } := I.un (Un.laid k hp (I.hok.fresh hp)) (I.hok.laid k hp new)
theorem Inv.write {x e : Addr} {o : HO} {t' : Nat} (I : Inv X pins σ H s) (mu : Mut (H x)) (he : e = x ∨ H e = some (.own x)) (k : ∀ b u, b ≠ e → s.heap.get? b = some u → h'.get? b = some u) (heo : ∃ u, h'.get? e = some u)
  (new : zd0 X.prog X.w (upd H x o) h' x o) : Inv X pins σ (upd H x o) { s with heap := h', toks := t' } := I.un (Un.write mu he k heo) (I.hok.write mu he k heo new)
theorem Inv.weak {σ' : List (Option V)} (I : Inv X pins σ H s) (hl : σ'.length = σ.length) (w : ∀ (i : Nat) v, σ'[i]? = some (some v) → σ[i]? = some (some v)) : Inv X pins σ' H s :=
 ⟨I.ok, I.os, I.bare, I.base, let ⟨m, hn, hl'⟩ := I.loc; ⟨m, hn, fun i x v e1 e2 e3 => hl' i x v e1 (w i v e2) e3⟩, I.cell, I.free, I.freeC, I.pin, I.hok, hl.trans I.len⟩
theorem Inv.pins_of {pins' : List (Addr × Obj)} (I : Inv X pins σ H s) (h : ∀ p ∈ pins', s.heap.get? p.1 = some p.2 ∧ H p.1 = none ∧ p.1 ≠ X.env.locals ∧ p.1 ∉ X.fs ∧ ∀ v, p.2.data ≠ .cell v) : Inv X pins' σ H s :=
 ⟨I.ok, I.os, I.bare, I.base, I.loc, I.cell, I.free, I.freeC, fun p hp => (List.mem_append.mp hp).elim (fun z => I.pin p (List.mem_append_left _ z)) (h p), I.hok, I.len⟩
theorem ziu {N : List Str} (hN : N.Nodup) {i j : Nat} {x : Str} (a : N[i]? = some x) (b : N[j]? = some x) : i = j := by
 obtain ⟨h1, e1⟩ := List.getElem?_eq_some_iff.mp a
 obtain ⟨h2, e2⟩ := List.getElem?_eq_some_iff.mp b
 exact (List.getElem_inj hN).mp (e1.trans e2.symm)
theorem zmO {M : Model} {A : Around} {E : Value → Shared → Prop} {i : Nat} {x : Str} {v : V} {u : Value} {Q : Unit → Shared → Prop} (I : Inv X pins σ H s) (hN : X.N.Nodup) (hi : X.N[i]? = some x) (hx : Loc X.env.scope x) (r : zcb v u)
  (h : ∀ s', Inv X pins (σ.set i (some v)) H s' → (∃ a, Heap.SameBut a s.heap s'.heap ∧ (a = X.env.locals ∨ X.env.cells.lookup x = some a)) → Q () s') (hf : X.fn x = true ∨ X.env.scope.names.lookup x = some .local := by first | exact .inl rfl | exact .inr rfl | assumption) : wpAny M A (storeName X.env x u) Q E s := by
 obtain ⟨m, hn, hl⟩ := id I.loc
 have hcls : (X.env.scope.kind == .class || (X.env.scope.kind == .module && X.env.locals != X.env.globals)) = false := by rw [I.ok.kind]; rfl
 have hiσ : i < σ.length := by rw [I.len]; exact (List.getElem?_eq_some_iff.mp hi).1
 have cne := I.cne
 have tracked : ∀ {a : Addr} {h' : Heap}, (∃ o, s.heap.get? a = some o ∧ H a = none) → Heap.SameBut a s.heap h' → HOk X.prog X.w H h' := fun {a h'} ha hs b ob e => by
  obtain ⟨_, _, hfree⟩ := ha
  refine (I.hok b ob e).stay (fun c w' hc q => (hs.2 c ?_).trans q) (fun _ q => q) fun _ _ q => q
  rintro rfl
  rcases hc with rfl | hc
  ·rw [hfree] at e; cases e
  ·rw [hfree] at hc; cases hc
 rcases hx with hk | hk
 ·refine wpAny_storeName_local hk hn (fun h' hn' hs => ?_) hcls
  obtain ⟨oL, _, _, hoL, _⟩ := id hn
  refine h _ ⟨I.ok, I.os, I.bare, ⟨fun b o e n hb hx => ?_, fun b o e n hb hx => ?_, I.base.free, fun b o e hx => ?_, I.base.tups, I.base.frzs, I.base.tbls⟩, ⟨_, hn', fun j y v' e1 e2 e3 => ?_⟩, fun y c e => ?_, I.free, I.freeC, fun p hp => ?_, tracked ⟨oL, hoL, I.free⟩ hs, by simpa using I.len⟩ ⟨_, hs, .inl rfl⟩
  ·exact (hs.2 b (Nat.ne_of_lt (Nat.lt_of_lt_of_le (Heap.lt_size e) I.ok.above))).trans (I.base.keep b o e n hb hx)
  ·obtain ⟨sl, e1⟩ := I.base.slot b o e n hb hx
   exact ⟨sl, (hs.2 b (Nat.ne_of_lt (Nat.lt_of_lt_of_le (Heap.lt_size e) I.ok.above))).trans e1⟩
  ·obtain ⟨o', e1⟩ := I.base.there b o e hx
   exact ⟨o', (hs.2 b (Nat.ne_of_lt (Nat.lt_of_lt_of_le (Heap.lt_size e) I.ok.above))).trans e1⟩
  ·by_cases hj : j = i
   ·subst hj
    rw [hi] at e1; cases e1
    rw [List.getElem?_set_self hiσ] at e2
    cases e2
    exact ⟨u, r, .inl ⟨hk, by simp⟩⟩
   ·rw [List.getElem?_set_ne (Ne.symm hj)] at e2
    obtain ⟨u', r', q⟩ := hl j y v' e1 e2 e3
    refine ⟨u', r', ?_⟩
    rcases q with ⟨k, e⟩ | ⟨k, c, e, z⟩
    ·refine .inl ⟨k, ?_⟩
     have : y ≠ x := fun e => hj (ziu hN e1 (e ▸ hi))
     simp [this, e]
    ·exact .inr ⟨k, c, e, z.sameBut hs (cne y c e)⟩
  ·obtain ⟨w', z⟩ := I.cell y c e
   exact ⟨w', z.sameBut hs (cne y c e)⟩
  ·obtain ⟨e, n, ne, nf, d⟩ := I.pin p hp
   exact ⟨(hs.2 p.1 ne).trans e, n, ne, nf, d⟩
 ·have hfn : X.fn x = true := by
   rcases hf with z | z
   ·exact z
   ·rw [z] at hk; cases hk
  obtain ⟨c, hc⟩ := I.ok.has x (.inl hk)
  obtain ⟨w', z⟩ := I.cell x c hc
  refine wpAny_storeName_cell I.ok.kind hk hc z (fun h' hc' hs => ?_)
  obtain ⟨oc, hoc, hocd⟩ := id z
  refine h { s with heap := h' } ⟨I.ok, I.os, I.bare, ⟨fun b o e n hb hx => ?_, fun b o e n hb hx => ?_, I.base.free, fun b o e hx => ?_, I.base.tups, I.base.frzs, I.base.tbls⟩, ⟨m, hn.sameBut hs (Ne.symm (cne x c hc)), fun j y v' e1 e2 e3 => ?_⟩, fun y c' e => ?_, I.free, I.freeC, fun p hp => ?_, tracked ⟨oc, hoc, I.freeC x c hc⟩ hs, by simpa using I.len⟩ ⟨c, hs, .inr hc⟩
  ·exact (hs.2 b (Nat.ne_of_lt (Nat.lt_of_lt_of_le (Heap.lt_size e) (I.ok.cab x c hfn hc)))).trans (I.base.keep b o e n hb hx)
  ·obtain ⟨sl, e1⟩ := I.base.slot b o e n hb hx
   exact ⟨sl, (hs.2 b (Nat.ne_of_lt (Nat.lt_of_lt_of_le (Heap.lt_size e) (I.ok.cab x c hfn hc)))).trans e1⟩
  ·obtain ⟨o', e1⟩ := I.base.there b o e hx
   exact ⟨o', (hs.2 b (Nat.ne_of_lt (Nat.lt_of_lt_of_le (Heap.lt_size e) (I.ok.cab x c hfn hc)))).trans e1⟩
  ·by_cases hj : j = i
   ·subst hj
    rw [hi] at e1; cases e1
    rw [List.getElem?_set_self hiσ] at e2
    cases e2
    exact ⟨u, r, .inr ⟨.inl hk, c, hc, hc'⟩⟩
   ·rw [List.getElem?_set_ne (Ne.symm hj)] at e2
    obtain ⟨u', r', q⟩ := hl j y v' e1 e2 e3
    refine ⟨u', r', ?_⟩
    rcases q with q | ⟨k, c', e, z'⟩
    ·exact .inl q
    ·refine .inr ⟨k, c', e, z'.sameBut hs ?_⟩
     rintro rfl
     exact hj (ziu hN e1 (I.ok.inj _ _ _ e hc ▸ hi))
  ·by_cases hcc : c' = c
   ·subst hcc; exact ⟨_, hc'⟩
   ·obtain ⟨w2, z2⟩ := I.cell y c' e
    exact ⟨w2, z2.sameBut hs hcc⟩
  ·obtain ⟨e, n, ne, nf, d⟩ := I.pin p hp
   refine ⟨(hs.2 p.1 ?_).trans e, n, ne, nf, d⟩
   intro q
   rw [q, hoc] at e
   have q' : oc = p.2 := Option.some.inj e
   exact d w' (by rw [← q']; exact hocd)
theorem zeI {M : Model} {A : Around} {E : Value → Shared → Prop} {i : Nat} {x : Str} {v : V} {u : Value} {Q : Unit → Shared → Prop} (I : Inv X pins σ H s) (hN : X.N.Nodup) (hi : X.N[i]? = some x) (hx : Loc X.env.scope x) (r : zcb v u)
  (h : ∀ s', Inv X pins (σ.set i (some v)) H s' → Q () s') (hf : X.fn x = true ∨ X.env.scope.names.lookup x = some .local := by first | exact .inl rfl | exact .inr rfl | assumption) : wpAny M A (storeName X.env x u) Q E s :=
 zmO I hN hi hx r (fun s' I' _ => h s' I') hf
theorem Inv.call' {s' : Shared} {ch : List Addr} (I : Inv X pins σ H s) (ho : s'.os = s.os) (u : Un (frs X.stack) ch H H' s.heap s'.heap) (hok : HOk X.prog X.w H' s'.heap) (hg : AllBare s'.gens)
  (hch : ∀ b ∈ ch, (b ∈ X.ex ∨ X.s₀.heap.objs.size ≤ b) ∧ b ≠ X.env.locals ∧ (∀ x c, X.env.cells.lookup x = some c → c ≠ b) ∧ ∀ p ∈ X.pn ++ pins, p.1 ≠ b) : Inv X pins σ H' s' := by
 obtain ⟨h', g', d', t', o'⟩ := s'
 have e : o' = s.os := ho
 subst e
 exact I.call (g' := g') (t' := t') (d' := d') u hok hg hch
end
abbrev XK := Value → Option Addr → Hp → Prop
abbrev St := List (Option V)
abbrev VK := V → Hp → Prop
abbrev TE := St → Hp → VK → Prop
abbrev TT := St → Hp → (Bool → Hp → Prop) → Prop
abbrev TA := St → Hp → (List V → Hp → Prop) → Prop
structure zmP where
 nx : St → Hp → Prop
 rt : VK
 bk : St → Hp → Prop := fun _ _ => False
 ct : St → Hp → Prop := fun _ _ => False
abbrev TS := zmP → St → Hp → Prop
def EP (X : Cx) (pins : List (Addr × Obj)) (σ : St) (Q : VK) (u : Value) (s' : Shared) : Prop := ∃ v H', Inv X pins σ H' s' ∧ zcb v u ∧ Q v H'
def TP (X : Cx) (pins : List (Addr × Obj)) (σ : St) (Q : Bool → Hp → Prop) (b : Bool) (s' : Shared) : Prop := ∃ H', Inv X pins σ H' s' ∧ Q b H'
def AP (X : Cx) (pins : List (Addr × Obj)) (σ : St) (Q : List V → Hp → Prop) (us : List Value) (s' : Shared) : Prop := ∃ vs H', Inv X pins σ H' s' ∧ zca vs us ∧ Q vs H'
def SP (X : Cx) (pins : List (Addr × Obj)) (D : zmP) (f : Flow) (s' : Shared) : Prop :=
 match f with
 | .next => ∃ σ' H', Inv X pins σ' H' s' ∧ D.nx σ' H'
 | .brk => ∃ σ' H', Inv X pins σ' H' s' ∧ D.bk σ' H'
 | .cont => ∃ σ' H', Inv X pins σ' H' s' ∧ D.ct σ' H'
 | .ret u => ∃ v σ' H', Inv X pins σ' H' s' ∧ zcb v u ∧ D.rt v H'
def PE (X : Cx) (e : Expr) (t : TE) : Prop :=
 ∀ (pins : List (Addr × Obj)) (s : Shared) (σ : St) (H : Hp) (Q : VK), Inv X pins σ H s → t σ H Q → wpAny (model X.prog X.w) X.A (eval e X.env) (EP X pins σ Q) X.xe s
def PT (X : Cx) (e : Expr) (t : TT) : Prop :=
 ∀ (pins : List (Addr × Obj)) (s : Shared) (σ : St) (H : Hp) (Q : Bool → Hp → Prop), Inv X pins σ H s → t σ H Q → wpAny (model X.prog X.w) X.A (isTrue e X.env (eval e X.env)) (TP X pins σ Q) X.xe s
def PW (X : Cx) (e : Expr) (t : TT) : Prop :=
 ∀ (whole : Sem Value) (pins : List (Addr × Obj)) (s : Shared) (σ : St) (H : Hp) (Q : Bool → Hp → Prop), Inv X pins σ H s → t σ H Q → wpAny (model X.prog X.w) X.A (isTrue e X.env whole) (TP X pins σ Q) X.xe s
def PA (X : Cx) (es : List Expr) (t : TA) : Prop :=
 ∀ (pos : Pos) (pins : List (Addr × Obj)) (s : Shared) (σ : St) (H : Hp) (Q : List V → Hp → Prop), Inv X pins σ H s → t σ H Q → wpAny (model X.prog X.w) X.A (spliced (backTo pos (starEach es X.env))) (AP X pins σ Q) X.xe s
def PS (X : Cx) (st : Stmt) (t : TS) : Prop :=
 ∀ (pins : List (Addr × Obj)) (s : Shared) (σ : St) (H : Hp) (D : zmP), Inv X pins σ H s → t D σ H → wpAny (model X.prog X.w) X.A (exec st X.env) (SP X pins D) X.xe s
def PSs (X : Cx) (st : List Stmt) (t : TS) : Prop :=
 ∀ (pins : List (Addr × Obj)) (s : Shared) (σ : St) (H : Hp) (D : zmP), Inv X pins σ H s → t D σ H → wpAny (model X.prog X.w) X.A (execs st X.env) (SP X pins D) X.xe s
theorem thn {α : Type} {t : Sem α} {Q Q' : α → Shared → Prop} {M : Model} {A : Around} {E : Value → Shared → Prop} {s : Shared} (h : wpAny M A t Q E s) (hQ : ∀ a s, Q a s → Q' a s) : wpAny M A t Q' E s := wpAny_mono h hQ fun _ _ x => x
end L2
namespace L2
open PySem PySem.Spec PyProof.Rows
section
variable {X : Cx}
theorem bin {a b : Expr} {ta tb : TE} (ha : PE X a ta) (hb : PE X b tb) {pins : List (Addr × Obj)} {s : Shared} {σ : St} {H : Hp} {R : V → V → Hp → Prop} (I : Inv X pins σ H s) (h : ta σ H fun x H1 => tb σ H1 fun y H2 => R x y H2)
  {α : Type} {Q : α → Shared → Prop} {f : Value → Value → Sem α}
  (hf : ∀ v u s2 x y H2, Inv X pins σ H2 s2 → zcb x v → zcb y u → R x y H2 → wpAny (model X.prog X.w) X.A (f v u) Q X.xe s2) :
  wpAny (model X.prog X.w) X.A (eval a X.env) (fun v s₁ => wpAny (model X.prog X.w) X.A (eval b X.env) (fun u s₂ => wpAny (model X.prog X.w) X.A (f v u) Q X.xe s₂) X.xe s₁) X.xe s := by
 refine thn (ha pins s σ H _ I h) fun v s1 ⟨x, H1, I1, r1, q1⟩ => ?_
 refine thn (hb pins s1 σ H1 _ I1 q1) fun u s2 ⟨y, H2, I2, r2, q2⟩ => ?_
 exact hf v u s2 x y H2 I2 r1 r2 q2
def tVar (i : Nat) : TE := fun σ H Q => ∃ v, σ[i]? = some (some v) ∧ Q v H
def tC (v : V) : TE := fun _ H Q => Q v H
theorem zs2 {i : Nat} {x : Str} {pos : Pos} (hN : X.N[i]? = some x) (hv : Vis X.env.scope x) (hd : (x == ("__debug__" : Str)) = false := by decide) (hcd : (x == ("__classdict__" : Str)) = false := by decide) : PE X (.Name x pos) (tVar i) := by
 intro pins s σ H Q I h
 obtain ⟨v, e, h⟩ := h
 obtain ⟨m, hn, hl⟩ := I.loc
 obtain ⟨u, r, l⟩ := hl i x v hN e hv
 have fin : EP X pins σ Q u s := ⟨v, H, I, r, h⟩
 rcases l with ⟨hk, hm⟩ | ⟨hk, c, hc, hcell⟩
 ·exact wpAny_Name (wpAny_loadName_local I.ok.kind hk hn hm fin) hd
 ·rcases hk with hk | hk
  ·exact wpAny_Name (wpAny_loadName_cell I.ok.kind hk hc hcell fin) hd
  ·exact wpAny_Name (wpAny_loadName_free I.ok.kind hk hc hcell fin hcd) hd
theorem zs3 {i j pos} : PE X (.Constant (.int i) j pos) (tC (.int i)) := fun _ _ _ H _ I h => wpAny_Constant_int ⟨.int i, H, I.tok _, ⟨_, rfl⟩, h⟩
theorem zu2 {b j pos} : PE X (.Constant (.bool b) j pos) (tC (.bl b)) := fun _ _ _ H _ I h => Constant_bool ⟨.bl b, H, I, rfl, h⟩
theorem zs4 {j pos} : PE X (.Constant .none j pos) (tC .non) := fun _ _ _ H _ I h => Constant_none ⟨.non, H, I, rfl, h⟩
theorem zs5 {x j pos} : PE X (.Constant (.str x) j pos) (tC (.str x)) := fun _ _ _ H _ I h => Calls.Constant_str ⟨.str x, H, I.tok _, ⟨_, rfl⟩, h⟩
def Gl (X : Cx) (x : Str) : Prop := X.env.kindOf x = some .globalImplicit
theorem zgB {E : Value → Shared → Prop} {pins : List (Addr × Obj)} {s : Shared} {σ : St} {H : Hp} {x : Str} {u : Value} {pos : Pos} {Q : Value → Shared → Prop} (I : Inv X pins σ H s) (hg : Gl X x) (hm : X.mg x = some u) (h : Q u s)
  (hd : (x == ("__debug__" : Str)) = false := by decide) : wpAny (model X.prog X.w) X.A (eval (.Name x pos) X.env) Q E s :=
 Calls.Name_function_global I.ok.kind hg (Calls.loadGlobal_global (by rw [I.ok.glob]; exact I.mod.glob.keeps I.bk) hm h) hd
theorem zi7 {E : Value → Shared → Prop} {pins : List (Addr × Obj)} {s : Shared} {σ : St} {H : Hp} {x : Str} {u : Value} {pos : Pos} {Q : Value → Shared → Prop} (I : Inv X pins σ H s) (hg : Gl X x) (hm : X.mg x = none) (hv : bootBuiltins x = some u) (h : Q u s)
  (hn : x ≠ "__name__" := by decide) (hd : (x == ("__debug__" : Str)) = false := by decide) : wpAny (model X.prog X.w) X.A (eval (.Name x pos) X.env) Q E s := by
 obtain ⟨mb, h1, h2⟩ := I.mod.blt
 exact Calls.Name_function_global I.ok.kind hg (Calls.loadGlobal_builtin (by rw [I.ok.glob]; exact I.mod.glob.keeps I.bk) hm (by rw [I.ok.blt]; exact h1.keeps I.bk) ((h2 x hn).trans hv) h) hd
theorem zrD {x : Str} {v : V} {u : Value} {pos : Pos} (hg : Gl X x) (hm : X.mg x = some u) (r : zcb v u) (hd : (x == ("__debug__" : Str)) = false := by decide) : PE X (.Name x pos) (tC v) :=
 fun _ _ _ H _ I h => zgB I hg hm ⟨v, H, I, r, h⟩ hd
theorem zrE {x : Str} {v : V} {u : Value} {pos : Pos} (hg : Gl X x) (hm : X.mg x = none) (hv : bootBuiltins x = some u) (r : zcb v u) (hn : x ≠ "__name__" := by decide) (hd : (x == ("__debug__" : Str)) = false := by decide) : PE X (.Name x pos) (tC v) :=
 fun _ _ _ H _ I h => zi7 I hg hm hv ⟨v, H, I, r, h⟩ hn hd
variable {a b : Expr} {ta tb : TE} {pos : Pos}
def PC (X : Cx) (op : CmpOp) (a b : Expr) (t : TE) : Prop :=
 ∀ (pins : List (Addr × Obj)) (s : Shared) (σ : St) (H : Hp) (Q : VK), Inv X pins σ H s → t σ H Q →
  wpAny (model X.prog X.w) X.A (eval a X.env) (fun v s₁ => wpAny (model X.prog X.w) X.A (eval b X.env) (fun u s₂ => wpAny (model X.prog X.w) X.A (compareOp op v u) (EP X pins σ Q) X.xe s₂) X.xe s₁) X.xe s
theorem zal (b : Expr) {op : CmpOp} (h : op ≠ .In) (h2 : op ≠ .NotIn) : behindInMarks op b = false := by
 have e1 : (op == CmpOp.In) = false := by cases op <;> first | rfl | exact absurd rfl h
 have e2 : (op == CmpOp.NotIn) = false := by cases op <;> first | rfl | exact absurd rfl h2
 cases b <;> simp [behindInMarks, e1, e2]
def tB (t : TE) : TT := fun σ H Q => t σ H fun x H1 => ∃ c, x = .bl c ∧ Q c H1
theorem pt_cmp {op : CmpOp} {t : TE} (h : PC X op a b t) (h1 : behindInMarks op b = false := by first | exact zal _ (by decide) (by decide) | rfl) : PT X (.Compare a [op] [b] pos) (tB t) := by
 intro pins s σ H Q I hw
 refine wpAny_isTrue_Compare1 (thn (h pins s σ H _ I hw) fun v s1 h1 => thn h1 fun u s2 h2 => thn h2 fun c s3 ⟨x, H1, I1, r1, q1⟩ => ?_) h1
 obtain ⟨d, rfl, q⟩ := q1
 cases r1
 exact wpAny_truthy_bool ⟨H1, I1, q⟩
theorem zs6 {e : Expr} {t : TE} (h : PE X e t) (he : ∀ whole, isTrue e X.env whole = (do let v ← whole; standAt e.pos; holding [v] (truthy v)) := by intro _; rfl) : PT X e (tB t) := by
 intro pins s σ H Q I hw
 refine isTrue_plain (thn (h pins s σ H _ I hw) fun v s1 ⟨x, H1, I1, r1, q1⟩ => ?_) (he _)
 obtain ⟨d, rfl, q⟩ := q1
 cases r1
 exact wpAny_truthy_bool ⟨H1, I1, q⟩
variable {tA tB' : TT} {zcB : List Expr}
def tAnd (t u : TT) : TT := fun σ H Q => t σ H fun c H1 => if c = true then u σ H1 Q else Q false H1
def tOr (t u : TT) : TT := fun σ H Q => t σ H fun c H1 => if c = true then Q true H1 else u σ H1 Q
def tNot (t : TT) : TT := fun σ H Q => t σ H fun c H1 => Q (!c) H1
theorem zrF (ha : PT X a tA) : PW X (.BoolOp .And [a] pos) tA := by
 intro wh pins s σ H Q I h
 refine isTrue_and (thn (ha pins s σ H Q I h) fun c s1 e => ?_)
 cases c with
 | true => exact isTrue_and_nil e
 | false => exact e
theorem zs7 (ha : PT X a tA) : PW X (.BoolOp .Or [a] pos) tA := by
 intro wh pins s σ H Q I h
 refine isTrue_or (thn (ha pins s σ H Q I h) fun c s1 e => ?_)
 cases c with
 | false => exact isTrue_or_nil e
 | true => exact e
theorem zs8 (ha : PT X a tA) (hb : PW X (.BoolOp .And (b :: zcB) pos) tB') : PW X (.BoolOp .And (a :: b :: zcB) pos) (tAnd tA tB') := by
 intro wh pins s σ H Q I h
 refine isTrue_and (thn (ha pins s σ H _ I h) fun c s1 ⟨H1, I1, q1⟩ => ?_)
 cases c with
 | true => exact hb wh pins s1 σ H1 Q I1 q1
 | false => exact ⟨H1, I1, q1⟩
theorem zu3 (ha : PT X a tA) (hb : PW X (.BoolOp .Or (b :: zcB) pos) tB') : PW X (.BoolOp .Or (a :: b :: zcB) pos) (tOr tA tB') := by
 intro wh pins s σ H Q I h
 refine isTrue_or (thn (ha pins s σ H _ I h) fun c s1 ⟨H1, I1, q1⟩ => ?_)
 cases c with
 | true => exact ⟨H1, I1, q1⟩
 | false => exact hb wh pins s1 σ H1 Q I1 q1
theorem zs9 (ha : PT X a tA) : PT X (.UnaryOp .Not a pos) (tNot tA) := by
 intro pins s σ H Q I h
 exact isTrue_not (ha pins s σ H (fun c H1 => Q (!c) H1) I h)
def zu4 (ta tb : TE) : TE := fun σ H Q => ta σ H fun x H1 => ∃ c, x = .bl c ∧ if c = true then tb σ H1 Q else Q (.bl false) H1
def zu5 (ta : TE) : TE := fun σ H Q => ta σ H fun x H1 => ∃ c, x = .bl c ∧ Q (.bl (!c)) H1
theorem zta {op} {t : TE} (h : PE X a t) : PE X (.BoolOp op [a] pos) t := fun pins s σ H Q I hw => BoolOp_one (h pins s σ H Q I hw)
theorem ztb (ha : PE X a ta) (hb : PE X (.BoolOp .And (b :: zcB) pos) tb) : PE X (.BoolOp .And (a :: b :: zcB) pos) (zu4 ta tb) := by
 intro pins s σ H Q I h
 refine BoolOp_and (thn (ha pins s σ H _ I h) fun v s1 ⟨x, H1, I1, r1, q1⟩ => ?_)
 obtain ⟨c, rfl, q1⟩ := q1
 cases r1
 refine wpAny_truthy_bool ?_
 cases c with
 | true => exact hb pins s1 σ H1 Q I1 q1
 | false => exact ⟨.bl false, H1, I1, rfl, q1⟩
theorem ztc (ha : PE X a ta) : PE X (.UnaryOp .Not a pos) (zu5 ta) := by
 intro pins s σ H Q I h
 refine UnaryOp_ (thn (ha pins s σ H _ I h) fun v s1 ⟨x, H1, I1, r1, q1⟩ => ?_)
 obtain ⟨c, rfl, q1⟩ := q1
 cases r1
 exact not_of (wpAny_truthy_bool ⟨.bl (!c), H1, I1, rfl, q1⟩)
end
end L2
namespace L2
open PySem PySem.Spec PyProof.Rows
def SqL (K : PySem.W.Frag) (H : Hp) (a : Addr) (xs : List V) : Prop :=
 Rd H a (.lst xs) ∨
  ∃ (o : Obj) (its : Array Value) (n : Nat), K.lookup a = some o ∧ o.cls = .type "list" ∧ o.dict = none ∧ o.data = .seq its n ∧ its.size ≤ sizeLine ∧ zca xs its.toList
def SqT (K : PySem.W.Frag) (H : Hp) (a : Addr) (xs : List V) : Prop :=
 Rd H a (.tup xs) ∨
  ∃ (o : Obj) (its : Array Value) (n : Nat), K.lookup a = some o ∧ o.cls = .type "tuple" ∧ o.data = .seq its n ∧ its.size ≤ sizeLine ∧ zca xs its.toList
def absV : Value → Option V
 | .none => some .non
 | .bool b => some (.bl b)
 | .int i _ => some (.int i)
 | .str x _ => some (.str x)
 | .bytes b _ => some (.byt b)
 | .float b _ => some (.flt b)
 | .ref a => some (.ref a)
 | .type n => some (.ty n)
 | _ => none
theorem zcb.abs {x : V} {u : Value} (r : zcb x u) : absV u = some x := by
 cases x with
 | non => cases r; rfl
 | bl _ => cases r; rfl
 | int _ => obtain ⟨t, rfl⟩ := r; rfl
 | str _ => obtain ⟨t, rfl⟩ := r; rfl
 | byt _ => obtain ⟨t, rfl⟩ := r; rfl
 | flt _ => obtain ⟨t, rfl⟩ := r; rfl
 | ref _ => cases r; rfl
 | ty _ => cases r; rfl
theorem zcb.inj {x y : V} {u : Value} (r : zcb x u) (q : zcb y u) : x = y := Option.some.inj (r.abs.symm.trans q.abs)
theorem zca.inj : ∀ {xs ys : List V} {us : List Value}, zca xs us → zca ys us → xs = ys
 | _, _, _, .nil, .nil => rfl
 | _, _, _, .cons r t, .cons r' t' => by rw [r.inj r', zca.inj t t']
section
variable {X : Cx} {pins : List (Addr × Obj)} {σ : St} {H : Hp} {s : Shared} {a : Addr} {xs ys : List V}
theorem SqL.of {K : PySem.W.Frag} (h : H a = some (.lst xs)) : SqL K H a xs := .inl (.inl h)
theorem SqT.of {K : PySem.W.Frag} (h : H a = some (.tup xs)) : SqT K H a xs := .inl (.inl h)
theorem Inv.list (I : Inv X pins σ H s) (h : SqL X.K H a xs) : ∃ its : List Value, zca xs its ∧ PlainL s.heap a its.toArray ∧ xs.length ≤ sizeLine := by
 rcases h with h | ⟨o, its, n, hk, hc, hd, hs, hz, r⟩
 ·obtain ⟨z, its, n, r, e⟩ := h.ok I.hok
  exact ⟨its, r, ⟨_, n, e, rfl, rfl, rfl⟩, z⟩
 ·refine ⟨its.toList, r, ⟨o, n, I.kIn a o hk, hc, hd, by simpa using hs⟩, ?_⟩
  have e := r.length
  simp only [Array.length_toList] at e
  omega
theorem Inv.tuple (I : Inv X pins σ H s) (h : SqT X.K H a xs) : ∃ its : List Value, zca xs its ∧ IsTup s.heap a its.toArray ∧ xs.length ≤ sizeLine := by
 rcases h with h | ⟨o, its, n, hk, hc, hs, hz, r⟩
 ·obtain ⟨z, its, r, p⟩ := h.ok I.hok
  exact ⟨its, r, p, z⟩
 ·refine ⟨its.toList, r, ⟨o, I.kIn a o hk, hc, n, by simpa using hs⟩, ?_⟩
  have e := r.length
  simp only [Array.length_toList] at e
  omega
theorem Inv.list_inj (I : Inv X pins σ H s) (h : SqL X.K H a xs) (h' : SqL X.K H a ys) : xs = ys := by
 obtain ⟨its, r, ⟨o, n, e, _, _, d⟩, _⟩ := I.list h
 obtain ⟨its', r', ⟨o', n', e', _, _, d'⟩, _⟩ := I.list h'
 rw [e] at e'; cases e'
 rw [d] at d'
 injection d' with d1 _
 have : its = its' := by simpa using congrArg Array.toList d1
 subst this
 exact r.inj r'
theorem Inv.tuple_inj (I : Inv X pins σ H s) (h : SqT X.K H a xs) (h' : SqT X.K H a ys) : xs = ys := by
 obtain ⟨its, r, ⟨o, e, _, n, d⟩, _⟩ := I.tuple h
 obtain ⟨its', r', ⟨o', e', _, n', d'⟩, _⟩ := I.tuple h'
 rw [e] at e'; cases e'
 rw [d] at d'
 injection d' with d1 _
 have : its = its' := by simpa using congrArg Array.toList d1
 subst this
 exact r.inj r'
end
abbrev Cx.wish (X : Cx) (E : Value → Shared → Prop) : Cx := { X with xe := E }
abbrev Cx.nox (X : Cx) : Cx := X.wish fun _ _ => False
theorem Cx.Ok.wish {X : Cx} (ok : X.Ok) (E : Value → Shared → Prop) : (X.wish E).Ok :=
 ⟨ok.mod, ok.kind, ok.glob, ok.blt, ok.above, ok.inj, ok.has, ok.cab, ok.hd, ok.frames, ok.stk, ok.exf, ok.bs, ok.bsz, ok.noex, ok.exfs, ok.funs, ok.frf⟩
theorem Cx.Ok.unwish {X : Cx} {E : Value → Shared → Prop} (ok : (X.wish E).Ok) : X.Ok :=
 ⟨ok.mod, ok.kind, ok.glob, ok.blt, ok.above, ok.inj, ok.has, ok.cab, ok.hd, ok.frames, ok.stk, ok.exf, ok.bs, ok.bsz, ok.noex, ok.exfs, ok.funs, ok.frf⟩
section
variable {X : Cx} {pins : List (Addr × Obj)} {σ : St} {H : Hp} {s : Shared} {E : Value → Shared → Prop}
theorem Inv.wish (I : Inv X pins σ H s) (E : Value → Shared → Prop) : Inv (X.wish E) pins σ H s := ⟨I.ok.wish E, I.os, I.bare, I.base, I.loc, I.cell, I.free, I.freeC, I.pin, I.hok, I.len⟩
theorem Inv.unwish (I : Inv (X.wish E) pins σ H s) : Inv X pins σ H s := ⟨I.ok.unwish, I.os, I.bare, I.base, I.loc, I.cell, I.free, I.freeC, I.pin, I.hok, I.len⟩
end
section
variable {X : Cx} {st : Stmt} {zcB : List Stmt} {t u : TS} {e : Expr} {te : TE} {pos : Pos}
def zu6 : TS := fun D σ H => D.nx σ H
def tSeq (t u : TS) : TS := fun D σ H => t { D with nx := u D } σ H
theorem zrG : PSs X [] zu6 := fun _ _ σ H _ I h => wpAny_execs_nil ⟨σ, H, I, h⟩
theorem zpb (h1 : PS X st t) (h2 : PSs X zcB u) : PSs X (st :: zcB) (tSeq t u) := by
 intro pins s σ H D I h
 refine wpAny_execs_cons (thn (h1 pins s σ H { D with nx := u D } I h) fun f s1 q => ?_)
 cases f with
 | next =>
  obtain ⟨σ', H', I', q⟩ := q
  exact h2 pins s1 σ' H' D I' q
 | ret v => exact q
 | brk => exact q
 | cont => exact q
theorem zrH (h1 : PS X st t) : PSs X [st] t := by
 intro pins s σ H D I h
 refine wpAny_execs_cons (thn (h1 pins s σ H D I h) fun f s1 q => ?_)
 cases f with
 | next => exact wpAny_execs_nil q
 | ret v => exact q
 | brk => exact q
 | cont => exact q
theorem Inv.quiet {pins : List (Addr × Obj)} {σ : St} {H : Hp} {s : Shared} (I : Inv X pins σ H s) : interactive X.env = false := by simp [interactive, I.ok.kind]
def zu7 (te : TE) : TS := fun D σ H => te σ H fun _ H1 => D.nx σ H1
theorem zmQ (he : PE X e te) (hs : swapsWith e none pos.line X.env = pure false := by rfl) : PS X (.Expr e pos) (zu7 te) := by
 intro pins s σ H D I h
 exact wpAny_Expr_any (thn (he pins s σ H _ I h) fun v s1 ⟨x, H1, I1, r1, q1⟩ => ⟨σ, H1, I1, q1⟩) I.quiet hs
def tRet (te : TE) : TS := fun D σ H => te σ H D.rt
theorem ztd (he : PE X e te) : PS X (.Return (some e) pos) (tRet te) := by
 intro pins s σ H D I h
 exact wpAny_Return_some (thn (he pins s σ H _ I h) fun v s1 ⟨x, H1, I1, r1, q1⟩ => ⟨x, σ, H1, I1, r1, q1⟩)
def tIfS (c : TT) (t u : TS) : TS := fun D σ H => c σ H fun b H1 => if b = true then t D σ H1 else u D σ H1
theorem zu8 {c : Expr} {a b : List Stmt} {tc : TT} (hc : PT X c tc) (ha : PSs X a t) (hb : PSs X b u) : PS X (.If c a b pos) (tIfS tc t u) := by
 intro pins s σ H D I h
 refine wpAny_If (thn (hc pins s σ H _ I h) fun d s1 ⟨H1, I1, q1⟩ => ?_)
 cases d with
 | true => exact ha pins s1 σ H1 D I1 q1
 | false => exact hb pins s1 σ H1 D I1 q1
def zte : TS := fun _ _ _ => False
theorem zpc : PS X st zte := fun _ _ _ _ _ _ h => h.elim
end
abbrev TG := V → St → Hp → (St → Hp → Prop) → Prop
abbrev TGs := List V → St → Hp → (St → Hp → Prop) → Prop
def PG (X : Cx) (target : Expr) (t : TG) : Prop :=
 ∀ (pins : List (Addr × Obj)) (s : Shared) (σ : St) (H : Hp) (v : V) (u : Value) (Q : St → Hp → Prop), Inv X pins σ H s → zcb v u → t v σ H Q →
  wpAny (model X.prog X.w) X.A (assign target X.env u) (fun _ s' => ∃ σ' H', Inv X pins σ' H' s' ∧ Q σ' H') X.xe s
def PGs (X : Cx) (ts : List Expr) (t : TGs) : Prop :=
 ∀ (pins : List (Addr × Obj)) (s : Shared) (σ : St) (H : Hp) (vs : List V) (us : List Value) (Q : St → Hp → Prop), Inv X pins σ H s → zca vs us → t vs σ H Q →
  wpAny (model X.prog X.w) X.A (assignInOrder ((assignEach ts X.env).map (·.2)) us) (fun _ s' => ∃ σ' H', Inv X pins σ' H' s' ∧ Q σ' H') X.xe s
abbrev TSet := V → V → V → Hp → (Hp → Prop) → Prop
section
variable {X : Cx} {pos : Pos}
def zkn (i : Nat) : TG := fun v σ H Q => Q (σ.set i (some v)) H
theorem zbU {i : Nat} {x : Str} (hN : X.N.Nodup) (hi : X.N[i]? = some x) (hx : Loc X.env.scope x) (hf : X.fn x = true ∨ X.env.scope.names.lookup x = some .local := by first | exact .inl rfl | exact .inr rfl | assumption) : PG X (.Name x pos) (zkn i) := by
 intro pins s σ H v u Q I r h
 exact wpAny_assign_Name (zeI I hN hi hx r (fun s' I' => ⟨_, H, I', h⟩) hf)
def gNil : TGs := fun vs σ H Q => vs = [] ∧ Q σ H
def ztf (t : TG) (u : TGs) : TGs := fun vs σ H Q => ∃ v r, vs = v :: r ∧ t v σ H fun σ' H' => u r σ' H' Q
theorem zfZ : PGs X [] gNil := by
 intro pins s σ H vs us Q I r h
 obtain ⟨e, h⟩ := h
 subst e
 cases r
 exact assignInOrder_nil ⟨σ, H, I, h⟩
theorem zbm {e : Expr} {es : List Expr} {t : TG} {u : TGs} (h1 : PG X e t) (h2 : PGs X es u)
  (hs : (assignEach (e :: es) X.env).map (·.2) = assign e X.env :: (assignEach es X.env).map (·.2) := by rfl) : PGs X (e :: es) (ztf t u) := by
 intro pins s σ H vs us Q I r h
 obtain ⟨v, vr, e1, h⟩ := h
 subst e1
 cases r with
 | cons r rr =>
  rw [hs]
  refine assignInOrder_cons (thn (h1 pins s σ H _ _ _ I r h) fun _ s1 ⟨σ1, H1, I1, q1⟩ => ?_)
  exact h2 pins s1 σ1 H1 _ _ Q I1 rr q1
def gTup (K : PySem.W.Frag) (n : Nat) (t : TGs) : TG := fun v σ H Q => ∃ a xs, v = .ref a ∧ SqT K H a xs ∧ xs.length = n ∧ t xs σ H Q
theorem ztg {es : List Expr} {k : Nat} {t : TGs} {n : Nat} (hc : X.calm = true) (h : PGs X es t)
  (hn : (assignEach es X.env).length = n := by rfl) (hst : (assignEach es X.env).findIdx? (·.1) = none := by rfl) : PG X (.Tuple es k pos) (gTup X.K n t) := by
 intro pins s σ H v u Q I r hw
 obtain ⟨a, xs, e1, hq, hl, hw⟩ := hw
 subst e1
 cases r
 obtain ⟨its, rv, ht, hz⟩ := I.tuple hq
 refine assign_Tuple_tuple (I.ok.hd hc) ht (by simp [hn, ← hl, rv.length]) hst fun h' hx => ?_
 have I1 : Inv X pins σ H { s with heap := h' } := I.kept (t' := s.toks) fun b o e => hx b o (Nat.ne_of_lt (Heap.lt_size e)) e
 exact h pins _ σ H xs _ Q I1 (by simpa using rv) hw
def gSub (to ti : TE) (t : TSet) : TG := fun v σ H Q => to σ H fun o H1 => ti σ H1 fun i H2 => t o i v H2 fun H3 => Q σ H3
def zsR (te : TE) (g : TG) : TS := fun D σ H => te σ H fun x H1 => g x σ H1 D.nx
theorem zth {tg e : Expr} {te : TE} {g : TG} (he : PE X e te) (hg : PG X tg g) (hs : swapsWithSole [tg] e pos.line X.env = pure false := by rfl) (hw : swappedStores [tg] e X.env = pure none := by rfl)
  (h1 : (assignEach [tg] X.env).map (·.2) = [assign tg X.env] := by rfl) : PS X (.Assign [tg] e pos) (zsR te g) := by
 intro pins s σ H D I h
 refine wpAny_Assign_stores (thn (he pins s σ H _ I h) fun v s1 ⟨x, H1, I1, r1, q1⟩ => ?_) hs hw
 rw [h1]
 exact thn (hg pins s1 σ H1 x v _ I1 r1 q1) fun _ s2 q => q
theorem zmR {i : Nat} {x : Str} {e : Expr} {te : TE} {pos' : Pos} (hN : X.N.Nodup) (hi : X.N[i]? = some x) (hx : Loc X.env.scope x) (he : PE X e te) (hs : swapsWith e (some (.Name x pos')) pos.line X.env = pure false := by rfl) (hf : X.fn x = true ∨ X.env.scope.names.lookup x = some .local := by first | exact .inl rfl | exact .inr rfl | assumption) :
  PS X (.Assign [.Name x pos'] e pos) (zsR te (zkn i)) := by
 intro pins s σ H D I h
 refine wpAny_Assign_Name (thn (he pins s σ H _ I h) fun v s1 ⟨y, H1, I1, r1, q1⟩ => ?_) hs
 exact zeI I1 hN hi hx r1 (fun s2 I2 => ⟨_, H1, I2, q1⟩) hf
def tPar (i j : Nat) (ta : TA) : TS := fun D σ H => ta σ H fun vs H1 => ∃ v w, vs = [v, w] ∧ D.nx ((σ.set i (some v)).set j (some w)) H1
theorem ztj {i j : Nat} {x y : Str} {a b : Expr} {ta : TA} {px py pt : Pos} {kt k2 pt2} (hc : X.calm = true) (hN : X.N.Nodup) (hi : X.N[i]? = some x) (hj : X.N[j]? = some y) (hij : i ≠ j)
  (hx : X.env.scope.names.lookup x = some .local) (hy : X.env.scope.names.lookup y = some .local) (ha : PA X [a, b] ta)
  (hw : swappedStores [.Tuple [.Name x px, .Name y py] kt pt] (.Tuple [a, b] k2 pt2) X.env = pure (some [x, y]))
  (hs : swapsWithSole [.Tuple [.Name x px, .Name y py] kt pt] (.Tuple [a, b] k2 pt2) pos.line X.env = pure false := by rfl) :
  PS X (.Assign [.Tuple [.Name x px, .Name y py] kt pt] (.Tuple [a, b] k2 pt2) pos) (tPar i j ta) := by
 intro pins s σ H D I h
 rw [exec_Assign_arm]
 refine wpAny_bind (wpAny_standAt ?_)
 rw [hs]
 refine wpAny_bind (wpAny_pure ?_)
 rw [if_neg (by decide)]
 refine wpAny_bind (Tuple_ (thn (ha _ pins s σ H _ I h) fun us s1 ⟨vs, H1, I1, r1, q1⟩ => ?_))
 obtain ⟨v, w, e1, q1⟩ := q1
 subst e1
 obtain ⟨u1, u2, rfl, rv, rw'⟩ : ∃ u1 u2, us = [u1, u2] ∧ zcb v u1 ∧ zcb w u2 := by
  cases r1 with
  | cons p q =>
   cases q with
   | cons p' q' =>
    cases q'
    exact ⟨_, _, rfl, p, p'⟩
 refine wpAny_newObj_type ?_ (by show 2 ≤ sizeLine; decide)
 have I2 : Inv X pins σ H1 { s1 with heap := s1.heap.push { cls := .type "tuple", data := .seq [u1, u2].toArray } } := I1.kept (t' := s1.toks) fun b o e => Heap.get?_push_of_some _ e
 rw [hw]
 refine wpAny_bind (wpAny_pure ?_)
 show wpAny (model X.prog X.w) X.A (do rule "assign.swapped-stores"; let items ← unpackItems (.ref s1.heap.objs.size) 2 none; assignInOrder [fun v => bindName X.env y v, fun v => bindName X.env x v] items.reverse; pure Flow.next) _ _ _
 refine wpAny_bind (wpAny_rule (wpAny_bind (unpackItems_tuple (items := #[u1, u2]) (I.ok.hd hc) (IsTup.new s1.heap _) fun h' hx' => ?_)))
 have I3 := I2.kept (h' := h') (t' := s1.toks) fun b o e => hx' b o (Nat.ne_of_lt (Heap.lt_size e)) e
 show wpAny _ _ (assignInOrder [fun v => bindName X.env y v, fun v => bindName X.env x v] [u2, u1] >>= fun _ => pure Flow.next) _ _ _
 refine wpAny_bind (assignInOrder_cons (wpAny_bindName (zeI I3 hN hj (.inl hy) rw' (fun s2 I4 => ?_) (.inr hy))))
 refine assignInOrder_cons (wpAny_bindName (zeI I4 hN hi (.inl hx) rv (fun s3 I5 => assignInOrder_nil (wpAny_pure ?_)) (.inr hx)))
 rw [List.set_comm _ _ (Ne.symm hij)] at I5
 exact ⟨_, H1, I5, q1⟩
end
section
variable {X : Cx} {pos : Pos}
def ztk (c : TT) (tb : TS) : TS := fun D σ H => ∃ W : Nat → St → Hp → Prop, (∃ m, W m σ H) ∧ ∀ m σ H, W m σ H →
 c σ H fun b H1 => if b = true then ∃ N : St → Hp → Prop, (∀ σ' H', N σ' H' → ∃ m', m' < m ∧ W m' σ' H') ∧ tb { D with nx := N, ct := N, bk := D.nx } σ H1 else D.nx σ H1
theorem zpd {c : Expr} {body : List Stmt} {tc : TT} {tb : TS} (hp : PassesOwn (model X.prog X.w) X.A X.env X.xe) (hc : PT X c tc) (hb : PSs X body tb) : PS X (.While c body [] pos) (ztk tc tb) := by
 intro pins s σ H D I h
 obtain ⟨W, ⟨m0, w0⟩, turn⟩ := h
 refine wpAny_While (codeAny_whileLoop (fun n s' => ∃ σ' H', Inv X pins σ' H' s' ∧ W n σ' H') ?_ m0 ⟨σ, H, I, w0⟩)
 rintro n s1 ⟨σ1, H1, I1, w1⟩
 refine wpAny_passesOwn hp (thn (hc pins s1 σ1 H1 _ I1 (turn n σ1 H1 w1)) fun b s2 ⟨H2, I2, q2⟩ => ?_)
 cases b with
 | true =>
  obtain ⟨N, hN, q2⟩ := q2
  rw [if_pos rfl]
  refine wpAny_passesOwn hp (thn (hb pins s2 σ1 H2 _ I2 q2) fun f s3 q3 => ?_)
  cases f with
  | next =>
   obtain ⟨σ3, H3, I3, n3⟩ := q3
   obtain ⟨m', hm, w3⟩ := hN σ3 H3 n3
   exact ⟨m', hm, σ3, H3, I3, w3⟩
  | cont =>
   obtain ⟨σ3, H3, I3, n3⟩ := q3
   obtain ⟨m', hm, w3⟩ := hN σ3 H3 n3
   exact ⟨m', hm, σ3, H3, I3, w3⟩
  | brk => exact q3
  | ret v => exact q3
 | false =>
  rw [if_neg Bool.false_ne_true]
  exact wpAny_execs_nil ⟨σ1, H2, I2, q2⟩
end
structure It where
 go : Nat → Hp → Prop
 yld : Nat → Hp → V → Hp → Prop
 stop : Nat → Hp → Prop
def zmf (X : Cx) (pins : List (Addr × Obj)) (H : Hp) (b : Addr) : Prop :=
 H b = none ∧ b ≠ X.env.locals ∧ b ∉ X.fs ∧ (b ∈ X.ex ∨ X.s₀.heap.objs.size ≤ b) ∧ (∀ x c, X.env.cells.lookup x = some c → c ≠ b) ∧ ∀ p ∈ X.pn ++ pins, p.1 ≠ b
theorem Inv.fpOk {X : Cx} {pins : List (Addr × Obj)} {σ : St} {H H' : Hp} {s : Shared} {b : Addr} (I : Inv X pins σ H s) (hb : s.heap.objs.size ≤ b) (hn : H' b = none) : zmf X pins H' b := by
 refine ⟨hn, Nat.ne_of_gt (Nat.lt_of_lt_of_le I.lt hb), I.nofs hb, .inr (Nat.le_trans I.sz hb), fun x c e z => ?_, fun p hp z => ?_⟩
 ·obtain ⟨v, q⟩ := I.cell x c e
  exact absurd (Nat.lt_of_lt_of_le q.lt (by rw [z]; exact hb)) (Nat.lt_irrefl _)
 ·exact absurd (Nat.lt_of_lt_of_le (Heap.lt_size (I.pin p hp).1) (by rw [z]; exact hb)) (Nat.lt_irrefl _)
structure zrI (P : Program) (w : World) (K : PySem.W.Frag) (tg : Expr) (J : It) (fp : List Addr) (it : Addr) (tn : Nat → Heap → Prop) : Prop where
 mem : it ∈ fp
 obj : ∀ i h, tn i h → ∀ b ∈ fp, ∃ o, h.get? b = some o ∧ ∀ v, o.data ≠ .cell v
 keep : ∀ i h h', tn i h → (∀ b ∈ fp, ∀ o, h.get? b = some o → h'.get? b = some o) → tn i h'
 item : ∀ (X : Cx), X.prog = P → X.w = w → X.K = K → X.calm = true → ∀ (i : Nat) (pins : List (Addr × Obj)) (s : Shared) (σ : St) (H : Hp) (E : Value → Shared → Prop), Inv X pins σ H s → (∀ b ∈ fp, zmf X pins H b) → tn i s.heap → J.go i H →
  wpAny (model P w) X.A (pyNext (.ref it)) (fun r s1 => ∃ u, r = some u ∧
   wpAny (model P w) X.A (letOwnedTupleGo tg (.ref it) u) (fun _ s2 => ∃ x H', Inv X pins σ H' s2 ∧ zcb x u ∧ J.yld i H x H' ∧ tn (i + 1) s2.heap ∧ ∀ b ∈ fp, H' b = none) E s1) E s
 done : ∀ (X : Cx), X.prog = P → X.w = w → X.K = K → X.calm = true → ∀ (i : Nat) (pins : List (Addr × Obj)) (s : Shared) (σ : St) (H : Hp) (E : Value → Shared → Prop), Inv X pins σ H s → (∀ b ∈ fp, zmf X pins H b) → tn i s.heap → J.stop i H →
  wpAny (model P w) X.A (pyNext (.ref it)) (fun r s1 => r = none ∧ Inv X pins σ H s1) E s
 self : ∀ (A : Around) (i : Nat) (s : Shared) (Q : Value → Shared → Prop) (E : Value → Shared → Prop), tn i s.heap → Q (.ref it) s → wpAny (model P w) A (pyIter (.ref it)) Q E s
abbrev TI := St → Hp → (It → Hp → Prop) → Prop
def PIE (X : Cx) (pins : List (Addr × Obj)) (σ : St) (tg : Expr) (R : It → Hp → Prop) (itv : Value) (s2 : Shared) : Prop :=
 ∃ (it : Addr) (fp : List Addr) (tn : Nat → Heap → Prop) (J : It) (H' : Hp), itv = .ref it ∧ Inv X pins σ H' s2 ∧ zrI X.prog X.w X.K tg J fp it tn ∧ tn 0 s2.heap ∧ (∀ b ∈ fp, zmf X pins H' b) ∧ R J H'
def PI (X : Cx) (tg iter : Expr) (wi : TI) : Prop :=
 ∀ (pins : List (Addr × Obj)) (s : Shared) (σ : St) (H : Hp) (R : It → Hp → Prop), Inv X pins σ H s → wi σ H R →
  wpAny (model X.prog X.w) X.A (eval iter X.env) (fun v s1 => wpAny (model X.prog X.w) X.A (pyIter v) (PIE X pins σ tg R) X.xe s1) X.xe s
theorem zrJ {M : Model} {A : Around} {E : Value → Shared → Prop} {s : Shared} {tg : Expr} {it : Addr} {u : Value} {o : Obj} {n : String} {vs : Array Value} {Q : Unit → Shared → Prop} (ho : s.heap.get? it = some o) (hc : o.cls = .type n) (hd : o.data = .fields vs)
  (hn : ["enumerate", "zip", "dict_itemiterator", "dict_reverseitemiterator", "odict_iterator", "itertools.zip_longest", "itertools.pairwise"].contains n = false) (hQ : Q () s) : wpAny M A (letOwnedTupleGo tg (.ref it) u) Q E s := by
 unfold letOwnedTupleGo
 cases tg <;> first
  | exact wpAny_pure hQ
  | (cases u <;> first
    | exact wpAny_pure hQ
    | (refine wpAny_bind (wpAny_load ho ?_)
       rw [hc, hd]
       show wpAny M A (if (["enumerate", "zip", "dict_itemiterator", "dict_reverseitemiterator", "odict_iterator", "itertools.zip_longest", "itertools.pairwise"].contains n && vs[0]? == some (rawInt _)) = true then _ else _) Q E s
       rw [if_neg (by intro h; rw [hn, Bool.false_and] at h; cases h)]
       exact wpAny_pure hQ))
def Itl (K : PySem.W.Frag) (a : Addr) : It :=
 ⟨fun i H => ∃ xs x, SqL K H a xs ∧ xs[i]? = some x, fun i H x H' => H' = H ∧ ∀ xs, SqL K H a xs → xs[i]? = some x, fun i H => ∃ xs, SqL K H a xs ∧ xs.length ≤ i⟩
def Itt (K : PySem.W.Frag) (a : Addr) : It :=
 ⟨fun i H => ∃ xs x, SqT K H a xs ∧ xs[i]? = some x, fun i H x H' => H' = H ∧ ∀ xs, SqT K H a xs → xs[i]? = some x, fun i H => ∃ xs, SqT K H a xs ∧ xs.length ≤ i⟩
def Itr (lo : Int) (n : Nat) : It := ⟨fun i _ => i < n, fun i H x H' => H' = H ∧ x = .int (lo + i), fun i _ => n ≤ i⟩
theorem zmS {P : Program} {w : World} {K : PySem.W.Frag} {tg : Expr} (a it : Addr) : zrI P w K tg (Itl K a) [it] it (fun i h => h.IsListIter it a i) where
 mem := by simp
 obj := fun i h st b hb => by
  have e : b = it := by simpa using hb
  subst e
  obtain ⟨o, e, c, d⟩ := st
  exact ⟨o, e, fun v z => by rw [d] at z; cases z⟩
 keep := fun i h h' st k => st.at fun o e => k it (by simp) o e
 item := by
  intro X hP hw hK hc i pins s σ H E I hf st hg
  subst hP hw hK
  obtain ⟨xs, x, hq, hx⟩ := hg
  obtain ⟨its, rv, p, hz⟩ := I.list hq
  obtain ⟨u, hu, ru⟩ := rv.get hx
  obtain ⟨f0, f1, f2, f3, f4, f5⟩ := hf it (by simp)
  refine wpAny_pyNext_list_item st p.isList (x := u) (by simpa using hu) fun h' st' sb => ?_
  have I1 : Inv X pins σ H { s with heap := h' } := I.turned (t' := s.toks) (fun b o hb e => (sb.2 b hb).trans e) f0 f1 f3 f4 f5
  obtain ⟨o, e, c, d⟩ := id st'
  exact ⟨u, rfl, zrJ (s := { s with heap := h' }) e c d (by decide) ⟨x, H, I1, ru, ⟨rfl, fun ys hy => by rw [I.list_inj hy hq]; exact hx⟩, st', fun b hb => (hf b hb).1⟩⟩
 done := by
  intro X hP hw hK hc i pins s σ H E I hf st hg
  subst hP hw hK
  obtain ⟨xs, hq, hx⟩ := hg
  obtain ⟨its, rv, p, hz⟩ := I.list hq
  obtain ⟨f0, f1, f2, f3, f4, f5⟩ := hf it (by simp)
  have hl := rv.length
  exact wpAny_pyNext_list_end (I.ok.hd hc) st p.isList (by simp; omega) fun h' eb => ⟨rfl, I.turned (t' := s.toks) (fun b o hb e => eb b o hb e) f0 f1 f3 f4 f5⟩
 self := fun _ _ _ _ _ st h => wpAny_pyIter_listiter st h
theorem zmg {P : Program} {w : World} {K : PySem.W.Frag} {tg : Expr} (a it : Addr) : zrI P w K tg (Itt K a) [it] it (fun i h => h.IsTupleIter it a i) where
 mem := by simp
 obj := fun i h st b hb => by
  have e : b = it := by simpa using hb
  subst e
  obtain ⟨o, e, c, d⟩ := st
  exact ⟨o, e, fun v z => by rw [d] at z; cases z⟩
 keep := fun i h h' st k => st.at fun o e => k it (by simp) o e
 item := by
  intro X hP hw hK hc i pins s σ H E I hf st hg
  subst hP hw hK
  obtain ⟨xs, x, hq, hx⟩ := hg
  obtain ⟨its, rv, p, hz⟩ := I.tuple hq
  obtain ⟨u, hu, ru⟩ := rv.get hx
  obtain ⟨f0, f1, f2, f3, f4, f5⟩ := hf it (by simp)
  refine wpAny_pyNext_tuple_item st (show s.heap.IsTuple a its.toArray from p) (x := u) (by simpa using hu) fun h' st' sb => ?_
  have I1 : Inv X pins σ H { s with heap := h' } := I.turned (t' := s.toks) (fun b o hb e => (sb.2 b hb).trans e) f0 f1 f3 f4 f5
  obtain ⟨o, e, c, d⟩ := id st'
  exact ⟨u, rfl, zrJ (s := { s with heap := h' }) e c d (by decide) ⟨x, H, I1, ru, ⟨rfl, fun ys hy => by rw [I.tuple_inj hy hq]; exact hx⟩, st', fun b hb => (hf b hb).1⟩⟩
 done := by
  intro X hP hw hK hc i pins s σ H E I hf st hg
  subst hP hw hK
  obtain ⟨xs, hq, hx⟩ := hg
  obtain ⟨its, rv, p, hz⟩ := I.tuple hq
  obtain ⟨f0, f1, f2, f3, f4, f5⟩ := hf it (by simp)
  have hl := rv.length
  exact wpAny_pyNext_tuple_end (I.ok.hd hc) st (show s.heap.IsTuple a its.toArray from p) (by simp; omega) fun h' eb => ⟨rfl, I.turned (t' := s.toks) (fun b o hb e => eb b o hb e) f0 f1 f3 f4 f5⟩
 self := fun _ _ _ _ _ st h => wpAny_pyIter_tupleiter st h
theorem zmh {P : Program} {w : World} {K : PySem.W.Frag} {tg : Expr} (it : Addr) (lo : Int) (n : Nat) : zrI P w K tg (Itr lo n) [it] it (fun i h => IsRangeIter h it (lo + (i : Nat) * 1) ((n : Int) - (i : Nat)) 1) where
 mem := by simp
 obj := fun i h st b hb => by
  have e : b = it := by simpa using hb
  subst e
  exact ⟨_, st, fun v z => by
   have z' : Data.fields _ = Data.cell v := z
   cases z'⟩
 keep := fun i h h' st k => k it (by simp) _ st
 item := by
  intro X hP hw hK hc i pins s σ H E I hf st hg
  subst hP hw hK
  obtain ⟨f0, f1, f2, f3, f4, f5⟩ := hf it (by simp)
  have W := Walks.range (prog := X.prog) (w := X.w) (I.ok.hd hc) it lo 1 n
  refine W.item i s _ _ hg st fun v h' tk hv st' kk => ?_
  obtain ⟨t, rfl⟩ := hv
  have I1 : Inv X pins σ H { s with heap := h', toks := tk } := I.turned (fun b o hb e => kk b o (by simpa using hb) e) f0 f1 f3 f4 f5
  refine ⟨_, rfl, zrJ (s := { s with heap := h', toks := tk }) (n := "range_iterator") st' rfl rfl (by decide) ⟨.int (lo + i), H, I1, ⟨t, ?_⟩, ⟨rfl, rfl⟩, st', fun b hb => (hf b hb).1⟩⟩
  rw [Int.mul_one]
 done := by
  intro X hP hw hK hc i pins s σ H E I hf st hg
  subst hP hw hK
  obtain ⟨f0, f1, f2, f3, f4, f5⟩ := hf it (by simp)
  exact wpAny_pyNext_range_end (I.ok.hd hc) st (by have : n ≤ i := hg; omega) fun h' eb => ⟨rfl, I.turned (t' := s.toks) (fun b o hb e => eb b o hb e) f0 f1 f3 f4 f5⟩
 self := fun _ _ _ _ _ st h => wpAny_pyIter_rangeiter st h
end L2
namespace L2
open PySem PySem.Spec PyProof.Rows
section
variable {X : Cx} {tg : Expr}
def ztl (K : PySem.W.Frag) (tl : TE) : TI := fun σ H R => tl σ H fun x H1 => ∃ a, x = .ref a ∧ (∃ xs, SqL K H1 a xs) ∧ R (Itl K a) H1
def iTup (K : PySem.W.Frag) (tl : TE) : TI := fun σ H R => tl σ H fun x H1 => ∃ a, x = .ref a ∧ (∃ xs, SqT K H1 a xs) ∧ R (Itt K a) H1
theorem zrK {l : Expr} {tl : TE} (hl : PE X l tl) : PI X tg l (ztl X.K tl) := by
 intro pins s σ H R I h
 refine thn (hl pins s σ H _ I h) fun v s1 ⟨x, H1, I1, r1, q1⟩ => ?_
 obtain ⟨a, e, ⟨xs, hq⟩, q⟩ := q1
 subst e
 cases r1
 obtain ⟨its, rv, p, hz⟩ := I1.list hq
 refine wpAny_pyIter_list p.isList ?_
 refine ⟨s1.heap.objs.size, [s1.heap.objs.size], _, _, H1, rfl, I1.kept (t' := s1.toks) fun b o e => Heap.get?_push_of_some _ e, zmS a _, ⟨_, Heap.get?_push_size _ rfl, rfl, rfl⟩, fun b hb => ?_, q⟩
 have e : b = s1.heap.objs.size := by simpa using hb
 subst e
 exact I1.fpOk (Nat.le_refl _) (I1.hok.fresh (Nat.le_refl _))
theorem ztm {l : Expr} {tl : TE} (hl : PE X l tl) : PI X tg l (iTup X.K tl) := by
 intro pins s σ H R I h
 refine thn (hl pins s σ H _ I h) fun v s1 ⟨x, H1, I1, r1, q1⟩ => ?_
 obtain ⟨a, e, ⟨xs, hq⟩, q⟩ := q1
 subst e
 cases r1
 obtain ⟨its, rv, p, hz⟩ := I1.tuple hq
 refine wpAny_pyIter_tuple (show s1.heap.IsTuple a its.toArray from p) ?_
 refine ⟨s1.heap.objs.size, [s1.heap.objs.size], _, _, H1, rfl, I1.kept (t' := s1.toks) fun b o e => Heap.get?_push_of_some _ e, zmg a _, ⟨_, Heap.get?_push_size _ rfl, rfl, rfl⟩, fun b hb => ?_, q⟩
 have e : b = s1.heap.objs.size := by simpa using hb
 subst e
 exact I1.fpOk (Nat.le_refl _) (I1.hok.fresh (Nat.le_refl _))
theorem zpe {pins : List (Addr × Obj)} {σ : St} {H : Hp} {s : Shared} {R : It → Hp → Prop} {E : Value → Shared → Prop} {lo hi : Int} {t u v : Tok} {tk : Nat} (I : Inv X pins σ H s) (h1 : -(2 ^ 62) ≤ lo) (h2 : lo < 2 ^ 62) (h3 : -(2 ^ 62) ≤ hi) (h4 : hi < 2 ^ 62)
  (q : R (Itr lo (hi - lo).toNat) H) : wpAny (model X.prog X.w) X.A (pyIter (.ref s.heap.objs.size)) (PIE X pins σ tg R) E { s with heap := s.heap.push { cls := .type "range", data := .fields #[.int lo t, .int hi u, .int 1 v] }, toks := tk } := by
 refine wpAny_pyIter_range (IsRange.new ..) (small_one h1 h2 h3 h4) ?_
 have I1 : Inv X pins σ H { s with heap := s.heap.push { cls := .type "range", data := .fields #[.int lo t, .int hi u, .int 1 v] }, toks := tk } := I.kept fun b o e => Heap.get?_push_of_some _ e
 refine ⟨(s.heap.push { cls := .type "range", data := .fields #[.int lo t, .int hi u, .int 1 v] }).objs.size, [(s.heap.push { cls := .type "range", data := .fields #[.int lo t, .int hi u, .int 1 v] }).objs.size], _, _, H, rfl,
  I1.kept (t' := tk) fun b o e => Heap.get?_push_of_some _ e, zmh _ lo (hi - lo).toNat, ?_, fun b hb => ?_, q⟩
 ·have e1 : lo + ((0 : Nat) : Int) * 1 = lo := by simp
  have e2 : (((hi - lo).toNat : Nat) : Int) - ((0 : Nat) : Int) = Builtin.Range.rangeSize lo hi 1 := by rw [rangeSize_one]; split <;> omega
  show IsRangeIter _ _ (lo + ((0 : Nat) : Int) * 1) ((((hi - lo).toNat : Nat) : Int) - ((0 : Nat) : Int)) 1
  rw [e1, e2]
  exact Heap.get?_push_size _ rfl
 ·have e : b = (s.heap.push { cls := .type "range", data := .fields #[.int lo t, .int hi u, .int 1 v] }).objs.size := by simpa using hb
  subst e
  exact I1.fpOk (Nat.le_refl _) (I1.hok.fresh (Nat.le_refl _))
def zu9 (ta : TA) : TI := fun σ H R => ta σ H fun vs H1 => ∃ j : Int, vs = [.int j] ∧ -(2 ^ 62) ≤ j ∧ j < 2 ^ 62 ∧ R (Itr 0 j.toNat) H1
theorem zmT {a : Expr} {ta : TA} {p pos : Pos} (hg : Gl X "range") (hm : X.mg "range" = none) (ha : PA X [a] ta) (hs : starEach [a] X.env = [(false, eval a X.env)] := by rfl) : PI X tg (.Call (.Name "range" p) [a] [] pos) (zu9 ta) := by
 intro pins s σ H R I h
 refine Call_ (zi7 I hg hm boot_range (PyProof.Rows.callWith_type1 (thn (ha pos pins s σ H _ I h) fun us s1 ⟨vs, H1, I1, r1, q1⟩ => ?_) hs rfl))
 obtain ⟨j, e, q1, q2, q⟩ := q1
 subst e
 cases r1 with
 | cons r rr =>
  cases rr
  obtain ⟨t, rfl⟩ := r
  exact call_range_1 (zpe I1 (by omega) (by omega) q1 q2 (by simpa using q))
def tFor (wi : TI) (g : TG) (tb : TS) : TS := fun D σ H => wi σ H fun J H1 => ∃ W : Nat → Nat → St → Hp → Prop, (∃ m, W 0 m σ H1) ∧ ∀ i m σ H, W i m σ H →
 (J.stop i H ∧ D.nx σ H) ∨ (J.go i H ∧ ∃ N : St → Hp → Prop, (∀ σ' H', N σ' H' → ∃ m', m' < m ∧ W (i + 1) m' σ' H') ∧ ∀ x H', J.yld i H x H' → g x σ H' fun σ2 H2 => tb { D with nx := N, ct := N, bk := D.nx } σ2 H2)
def zi8 (fp : List Addr) (h : Heap) : List (Addr × Obj) := fp.filterMap fun b => (h.get? b).map fun o => (b, o)
theorem zeJ {fp : List Addr} {h : Heap} {b : Addr} {o : Obj} (hb : b ∈ fp) (e : h.get? b = some o) : (b, o) ∈ zi8 fp h := List.mem_filterMap.mpr ⟨b, hb, by rw [e]; rfl⟩
theorem zmU {fp : List Addr} {h : Heap} {p : Addr × Obj} (hp : p ∈ zi8 fp h) : p.1 ∈ fp ∧ h.get? p.1 = some p.2 := by
 obtain ⟨b, hb, e⟩ := List.mem_filterMap.mp hp
 cases q : h.get? b with
 | none => rw [q] at e; cases e
 | some o =>
  rw [q] at e
  have e' : (b, o) = p := Option.some.inj e
  subst e'
  exact ⟨hb, q⟩
theorem Inv.pinned {pins : List (Addr × Obj)} {σ : St} {H : Hp} {s : Shared} {fp : List Addr} (I : Inv X pins σ H s) (hf : ∀ b ∈ fp, zmf X pins H b) (ho : ∀ b ∈ fp, ∃ o, s.heap.get? b = some o ∧ ∀ v, o.data ≠ .cell v) : Inv X (pins ++ zi8 fp s.heap) σ H s :=
 I.pins_of fun p hp => (List.mem_append.mp hp).elim (fun z => I.pin p (List.mem_append_right _ z)) fun z => by
  obtain ⟨hb, e⟩ := zmU z
  obtain ⟨f0, f1, f2, _⟩ := hf p.1 hb
  obtain ⟨o, e', d⟩ := ho p.1 hb
  rw [e] at e'; cases e'
  exact ⟨e, f0, f1, f2, d⟩
theorem Inv.unpinned {pins pl : List (Addr × Obj)} {σ : St} {H : Hp} {s : Shared} (I : Inv X (pins ++ pl) σ H s) : Inv X pins σ H s := I.pins_of fun p hp => I.pin p (List.mem_append_right _ (List.mem_append_left _ hp))
theorem ztn {iter : Expr} {body : List Stmt} {wi : TI} {g : TG} {tb : TS} {pos : Pos} (hp : PassesOwn (model X.prog X.w) X.A X.env X.xe) (hc : X.calm = true) (hi : PI X tg iter wi) (hg : PG X tg g) (hb : PSs X body tb)
  (hs : ∀ x, foldedSetIterable iter X.env x = pure x := by intro _; rfl) : PS X (.For tg iter body [] pos) (tFor wi g tb) := by
 intro pins s σ H D I h
 refine wpAny_For (thn (hi pins s σ H _ I h) fun v s1 h1 => thn h1 fun itv s2 h2 => ?_) hs
 obtain ⟨it, fp, tn, J, H2, e, I2, T, st2, f2, W, ⟨m0, w0⟩, turn⟩ := h2
 subst e
 have stat : ∀ {H' : Hp}, (∀ b ∈ fp, H' b = none) → ∀ b ∈ fp, zmf X pins H' b := fun hn b hb => ⟨hn b hb, (f2 b hb).2⟩
 refine codeAny_forLoop_any (fun n s' => ∃ i σ' H', Inv X pins σ' H' s' ∧ tn i s'.heap ∧ (∀ b ∈ fp, H' b = none) ∧ W i n σ' H') ?_ m0 ⟨0, σ, H2, I2, st2, fun b hb => (f2 b hb).1, w0⟩
 rintro n s3 ⟨i, σ3, H3, I3, st3, fr3, w3⟩
 rcases turn i n σ3 H3 w3 with ⟨stop, qn⟩ | ⟨go, N, hN, step⟩
 ·refine wpAny_passesOwn hp (thn (T.done X rfl rfl rfl hc i pins s3 σ3 H3 X.xe I3 (stat fr3) st3 stop) fun r s4 ⟨hr, I4⟩ => ?_)
  subst hr
  exact wpAny_execs_nil ⟨σ3, H3, I4, qn⟩
 ·refine wpAny_passesOwn hp (thn (T.item X rfl rfl rfl hc i pins s3 σ3 H3 X.xe I3 (stat fr3) st3 go) fun r s4 ⟨u, hr, h4⟩ => ?_)
  subst hr
  refine wpAny_passesOwn hp (thn h4 fun _ s5 ⟨x, H5, I5, r5, y5, st5, fr5⟩ => ?_)
  have I5' := I5.pinned (stat fr5) (T.obj _ _ st5)
  refine wpAny_passesOwn hp (thn (hg _ s5 σ3 H5 x u _ I5' r5 (step x H5 y5)) fun _ s6 ⟨σ6, H6, I6, q6⟩ => ?_)
  refine wpAny_passesOwn hp (thn (hb _ s6 σ6 H6 _ I6 q6) fun f s7 q7 => ?_)
  have again : ∀ {σ7 : St} {H7 : Hp}, Inv X (pins ++ zi8 fp s5.heap) σ7 H7 s7 → N σ7 H7 → ∃ m, m < n ∧ ∃ i σ' H', Inv X pins σ' H' s7 ∧ tn i s7.heap ∧ (∀ b ∈ fp, H' b = none) ∧ W i m σ' H' := fun {σ7 H7} I7 n7 => by
   obtain ⟨m', hm, w7⟩ := hN σ7 H7 n7
   refine ⟨m', hm, i + 1, σ7, H7, I7.unpinned, T.keep _ _ _ st5 fun b hb o e => (I7.pin (b, o) (List.mem_append_right _ (List.mem_append_right _ (zeJ hb e)))).1, fun b hb => ?_, w7⟩
   obtain ⟨o, e, d⟩ := T.obj _ _ st5 b hb
   exact (I7.pin (b, o) (List.mem_append_right _ (List.mem_append_right _ (zeJ hb e)))).2.1
  cases f with
  | next => obtain ⟨σ7, H7, I7, n7⟩ := q7; exact again I7 n7
  | cont => obtain ⟨σ7, H7, I7, n7⟩ := q7; exact again I7 n7
  | brk => obtain ⟨σ7, H7, I7, q7⟩ := q7; exact ⟨σ7, H7, I7.unpinned, q7⟩
  | ret v => obtain ⟨x7, σ7, H7, I7, r7, q7⟩ := q7; exact ⟨x7, σ7, H7, I7.unpinned, r7, q7⟩
end
end L2
namespace L2
open PySem PySem.Spec PyProof.Rows
abbrev R2 := V → V → Hp → VK → Prop
def OpR (X : Cx) (f : Value → Value → Sem Value) (r : R2) : Prop :=
 ∀ (pins : List (Addr × Obj)) (s : Shared) (σ : St) (H : Hp) (x y : V) (v u : Value) (Q : VK), Inv X pins σ H s → zcb x v → zcb y u → r x y H Q →
  wpAny (model X.prog X.w) X.A (f v u) (EP X pins σ Q) X.xe s
def UnR (X : Cx) (f : Value → Sem Value) (r : V → Hp → VK → Prop) : Prop :=
 ∀ (pins : List (Addr × Obj)) (s : Shared) (σ : St) (H : Hp) (x : V) (v : Value) (Q : VK), Inv X pins σ H s → zcb x v → r x H Q →
  wpAny (model X.prog X.w) X.A (f v) (EP X pins σ Q) X.xe s
def zde (X : Cx) (f : Value) (r : List V → Hp → VK → Prop) : Prop :=
 ∀ (pins : List (Addr × Obj)) (s : Shared) (σ : St) (H : Hp) (xs : List V) (us : List Value) (Q : VK), Inv X pins σ H s → zca xs us → r xs H Q →
  wpAny (model X.prog X.w) X.A (call f us) (EP X pins σ Q) X.xe s
def tOp (r : R2) (ta tb : TE) : TE := fun σ H Q => ta σ H fun x H1 => tb σ H1 fun y H2 => r x y H2 Q
def tUn (r : V → Hp → VK → Prop) (ta : TE) : TE := fun σ H Q => ta σ H fun x H1 => r x H1 Q
def rI (C : Int → Int → Prop) (g : Int → Int → V) : R2 := fun x y H Q => ∃ i j, x = .int i ∧ y = .int j ∧ C i j ∧ Q (g i j) H
def rI0 (g : Int → Int → V) : R2 := fun x y H Q => ∃ i j, x = .int i ∧ y = .int j ∧ Q (g i j) H
def rU (g : Int → V) : V → Hp → VK → Prop := fun x H Q => ∃ i, x = .int i ∧ Q (g i) H
section
variable {X : Cx} {a b c : Expr} {ta tb tc : TE} {pos : Pos}
theorem zva (ha : PE X a ta) (hb : PE X b tb) {pins : List (Addr × Obj)} {s : Shared} {σ : St} {H : Hp} {R : V → V → Hp → Prop} (I : Inv X pins σ H s)
  (h : ta σ H fun x H1 => tb σ H1 fun y H2 => R x y H2) {Q : Value → Shared → Prop} {f : Value → Value → Sem Value}
  (hf : ∀ v u s2 x y H2, Inv X pins σ H2 s2 → zcb x v → zcb y u → R x y H2 → wpAny (model X.prog X.w) X.A (f v u) Q X.xe s2) :
  wpAny (model X.prog X.w) X.A (eval a X.env) (fun v s₁ => wpAny (model X.prog X.w) X.A (eval b X.env) (fun u s₂ => wpAny (model X.prog X.w) X.A (f v u) Q X.xe s₂) X.xe s₁) X.xe s := by
 refine thn (ha pins s σ H _ I h) fun v s1 ⟨x, H1, I1, r1, q1⟩ => ?_
 refine thn (hb pins s1 σ H1 _ I1 q1) fun u s2 ⟨y, H2, I2, r2, q2⟩ => ?_
 exact hf v u s2 x y H2 I2 r1 r2 q2
theorem zvb {op : Operator} {r : R2} (ho : OpR X (binaryOp op) r) (ha : PE X a ta) (hb : PE X b tb) : PE X (.BinOp a op b pos) (tOp r ta tb) := by
 intro pins s σ H Q I h
 exact wpAny_BinOp (zva ha hb I h fun v u s2 x y H2 I2 rx ry q => ho pins s2 σ H2 x y v u Q I2 rx ry q)
theorem zvc {op : UnaryOp} {r : V → Hp → VK → Prop} (ho : UnR X (unaryOp op) r) (ha : PE X a ta) : PE X (.UnaryOp op a pos) (tUn r ta) := by
 intro pins s σ H Q I h
 exact UnaryOp_ (thn (ha pins s σ H _ I h) fun v s1 ⟨x, H1, I1, r1, q1⟩ => ho pins s1 σ H1 x v Q I1 r1 q1)
theorem opI {f : Value → Value → Sem Value} {C : Int → Int → Prop} {g : Int → Int → Int}
  (rule : ∀ (i j : Int) (t u : Tok) (s : Shared) (Q : Value → Shared → Prop) (E : Value → Shared → Prop), C i j → Q (.int (g i j) s.toks) { s with toks := s.toks + 1 } → wpAny (model X.prog X.w) X.A (f (.int i t) (.int j u)) Q E s) :
  OpR X f (rI C fun i j => .int (g i j)) := by
 intro pins s σ H x y v u Q I rx ry h
 obtain ⟨i, j, rfl, rfl, hc, q⟩ := h
 obtain ⟨t, rfl⟩ := rx
 obtain ⟨t', rfl⟩ := ry
 exact rule i j t t' s _ _ hc ⟨.int (g i j), H, I.tok _, ⟨_, rfl⟩, q⟩
theorem opI0 {f : Value → Value → Sem Value} {g : Int → Int → Int}
  (rule : ∀ (i j : Int) (t u : Tok) (s : Shared) (Q : Value → Shared → Prop) (E : Value → Shared → Prop), Q (.int (g i j) s.toks) { s with toks := s.toks + 1 } → wpAny (model X.prog X.w) X.A (f (.int i t) (.int j u)) Q E s) :
  OpR X f (rI0 fun i j => .int (g i j)) := by
 intro pins s σ H x y v u Q I rx ry h
 obtain ⟨i, j, rfl, rfl, q⟩ := h
 obtain ⟨t, rfl⟩ := rx
 obtain ⟨t', rfl⟩ := ry
 exact rule i j t t' s _ _ ⟨.int (g i j), H, I.tok _, ⟨_, rfl⟩, q⟩
theorem zuP {f : Value → Value → Sem Value} {g : Int → Int → Bool}
  (rule : ∀ (i j : Int) (t u : Tok) (s : Shared) (Q : Value → Shared → Prop) (E : Value → Shared → Prop), Q (.bool (g i j)) s → wpAny (model X.prog X.w) X.A (f (.int i t) (.int j u)) Q E s) :
  OpR X f (rI0 fun i j => .bl (g i j)) := by
 intro pins s σ H x y v u Q I rx ry h
 obtain ⟨i, j, rfl, rfl, q⟩ := h
 obtain ⟨t, rfl⟩ := rx
 obtain ⟨t', rfl⟩ := ry
 exact rule i j t t' s _ _ ⟨.bl (g i j), H, I, rfl, q⟩
def CPow (i j : Int) : Prop := 0 ≤ j ∧ j ≤ 1000000 ∧ i.natAbs < 2 ^ 64
theorem ztp : OpR X (binaryOp .Add) (rI0 fun i j => .int (i + j)) := opI0 fun _ _ _ _ _ _ _ q => add_int q
theorem zrL : OpR X (binaryOp .Mod) (rI (fun _ j => j ≠ 0) fun i j => .int (i.fmod j)) := opI fun _ _ _ _ _ _ _ hc q => mod_int' hc q
theorem ztq : OpR X (binaryOp .Pow) (rI CPow fun i j => .int (i ^ j.toNat)) := opI fun _ _ _ _ _ _ _ hc q => pow_int_small hc.1 hc.2.1 hc.2.2 q
theorem unI {f : Value → Sem Value} {g : Int → Int}
  (rule : ∀ (i : Int) (t : Tok) (s : Shared) (Q : Value → Shared → Prop) (E : Value → Shared → Prop), Q (.int (g i) s.toks) { s with toks := s.toks + 1 } → wpAny (model X.prog X.w) X.A (f (.int i t)) Q E s) :
  UnR X f (rU fun i => .int (g i)) := by
 intro pins s σ H x v Q I rx h
 obtain ⟨i, rfl, q⟩ := h
 obtain ⟨t, rfl⟩ := rx
 exact rule i t s _ _ ⟨.int (g i), H, I.tok _, ⟨_, rfl⟩, q⟩
theorem ztr : UnR X (unaryOp .USub) (rU fun i => .int (-i)) := unI fun _ _ _ _ _ q => neg_int q
end
section
variable {X : Cx} {a b c : Expr} {ta tb tc : TE} {pos : Pos}
theorem zvd : OpR X (compareOp .Lt) (rI0 fun i j => .bl (decide (i < j))) := zuP fun _ _ _ _ _ _ _ q => lt_int q
theorem zve : OpR X (compareOp .LtE) (rI0 fun i j => .bl (decide (i ≤ j))) := zuP fun _ _ _ _ _ _ _ q => le_int q
theorem zvf : OpR X (compareOp .Gt) (rI0 fun i j => .bl (decide (j < i))) := zuP fun _ _ _ _ _ _ _ q => gt_int q
theorem zvg : OpR X (compareOp .GtE) (rI0 fun i j => .bl (decide (j ≤ i))) := zuP fun _ _ _ _ _ _ _ q => ge_int q
theorem OpR.or {f : Value → Value → Sem Value} {r r' : R2} (h : OpR X f r) (h' : OpR X f r') : OpR X f (fun x y H Q => r x y H Q ∨ r' x y H Q) := by
 intro pins s σ H x y v u Q I rx ry q
 rcases q with q | q
 ·exact h pins s σ H x y v u Q I rx ry q
 ·exact h' pins s σ H x y v u Q I rx ry q
theorem zrM {op : CmpOp} {r : R2} (ho : OpR X (compareOp op) r) (ha : PE X a ta) (hb : PE X b tb) (hm : behindInMarks op b = false) : PE X (.Compare a [op] [b] pos) (tOp r ta tb) := by
 intro pins s σ H Q I h
 exact wpAny_Compare1 (zva ha hb I h fun v u s2 x y H2 I2 rx ry q => ho pins s2 σ H2 x y v u Q I2 rx ry q) hm
def zrN (t : TE) : TT := fun σ H Q => t σ H fun x H' => ∃ k, x = .bl k ∧ Q k H'
theorem zrO {op : CmpOp} {r : R2} (ho : OpR X (compareOp op) r) (ha : PE X a ta) (hb : PE X b tb) (hm : behindInMarks op b = false) : PT X (.Compare a [op] [b] pos) (zrN (tOp r ta tb)) := by
 intro pins s σ H Q I h
 refine wpAny_isTrue_Compare1 (thn (ha pins s σ H _ I h) fun v s1 ⟨x, H1, I1, r1, q1⟩ => thn (hb pins s1 σ H1 _ I1 q1) fun u s2 ⟨y, H2, I2, r2, q2⟩ =>
  thn (ho pins s2 σ H2 x y v u _ I2 r1 r2 q2) fun c s3 ⟨z, H3, I3, r3, k, e, q3⟩ => ?_) hm
 subst e
 cases r3
 exact wpAny_truthy_bool ⟨H3, I3, q3⟩
def zqp (r r' : R2) (ta tb tc : TE) : TE := fun σ H Q => ta σ H fun x H1 => tb σ H1 fun y H2 => r x y H2 fun z H3 => ∃ k, z = .bl k ∧
 (if k = true then tc σ H3 fun w' H4 => r' y w' H4 Q else Q (.bl false) H3)
theorem zpf {op op' : CmpOp} {r r' : R2} (ho : OpR X (compareOp op) r) (ho' : OpR X (compareOp op') r') (ha : PE X a ta) (hb : PE X b tb) (hc : PE X c tc)
  (hm : lastMarks [op, op'] [b, c] = false := by with_unfolding_all rfl) : PT X (.Compare a [op, op'] [b, c] pos) (zrN (zqp r r' ta tb tc)) := by
 intro pins s σ H Q I h
 refine isTrue_chain (thn (ha pins s σ H _ I h) fun v s1 ⟨x, H1, I1, r1, q1⟩ => test_link (thn (hb pins s1 σ H1 _ I1 q1) fun u s2 ⟨y, H2, I2, r2, q2⟩ =>
  thn (ho pins s2 σ H2 x y v u _ I2 r1 r2 q2) fun d s3 ⟨z, H3, I3, r3, k, e, q3⟩ => ?_)) hm
 subst e
 cases r3
 refine wpAny_truthy_bool ?_
 cases k with
 | false =>
  obtain ⟨k', e', q'⟩ := q3
  cases e'
  exact ite_ff ⟨H3, I3, q'⟩
 | true =>
  refine ite_tt (test_last (thn (hc pins s3 σ H3 _ I3 q3) fun w' s4 ⟨z', H4, I4, r4, q4⟩ => thn (ho' pins s4 σ H4 y z' u w' _ I4 r2 r4 q4) fun d' s5 ⟨z2, H5, I5, r5, k2, e2, q5⟩ => ?_))
  subst e2
  cases r5
  exact wpAny_truthy_bool ⟨H5, I5, q5⟩
theorem zkQ : (sizeLine : Nat) < 2 ^ 63 := by rw [sizeLine_eq]; decide
theorem zmi : OpR X (binaryOp .Add) (fun x y H Q => ∃ i j, x = .str i ∧ y = .str j ∧ i.length + j.length ≤ sizeLine ∧ Q (.str (i ++ j)) H) := by
 intro pins s σ H x y v u Q I rx ry h
 obtain ⟨i, j, rfl, rfl, hz, q⟩ := h
 obtain ⟨t, rfl⟩ := rx
 obtain ⟨t', rfl⟩ := ry
 exact add_str (fun t' tk => ⟨.str (i ++ j), H, I.tok _, ⟨_, rfl⟩, q⟩) hz
theorem ziv {x : V} {us : List Value} (r : zca [x] us) : ∃ u, us = [u] ∧ zcb x u := by
 cases r with
 | cons r1 r2 => cases r2; exact ⟨_, rfl, r1⟩
theorem zpg {x y : V} {us : List Value} (r : zca [x, y] us) : ∃ u w', us = [u, w'] ∧ zcb x u ∧ zcb y w' := by
 cases r with
 | cons r1 r2 =>
  cases r2 with
  | cons r3 r4 => cases r4; exact ⟨_, _, rfl, r1, r3⟩
theorem zph : zde X (.builtin "abs") (fun xs H Q => ∃ i, xs = [.int i] ∧ Q (.int (if i < 0 then -i else i)) H) := by
 intro pins s σ H xs us Q I r h
 obtain ⟨i, rfl, q⟩ := h
 obtain ⟨u, rfl, t, rfl⟩ := ziv r
 exact call_abs_int fun u tk => ⟨.int (if i < 0 then -i else i), H, I.tok _, ⟨_, rfl⟩, q⟩
theorem zmV (hc : X.calm = true) : zde X (.builtin "max") (fun xs H Q => ∃ i j, xs = [.int i, .int j] ∧ Q (.int (if j > i then j else i)) H) := by
 intro pins s σ H xs us Q I r h
 obtain ⟨i, j, rfl, q⟩ := h
 obtain ⟨u, w', rfl, ⟨t, rfl⟩, ⟨t', rfl⟩⟩ := zpg r
 refine max_two_ints (I.ok.hd hc) fun h' tk k => ⟨_, H, I.kept k, ?_, q⟩
 by_cases hj : j > i
 ·rw [if_pos hj, if_pos hj]; exact ⟨_, rfl⟩
 ·rw [if_neg hj, if_neg hj]; exact ⟨_, rfl⟩
end
end L2
namespace L2
open PySem PySem.Spec PyProof.Rows
section
variable {prog : Program} {w : World} {A : Around} {E : Value → Shared → Prop} {s : Shared} {K : PySem.W.Frag} {x dx C f : Addr} {mA : Str → Option Value} {name : Str} {v : Value}
end
section
variable {P : Program} {w : World} {H H' : Hp} {h h' : Heap} {a C dx : Addr} {fs fs' : List (Str × V)}
end
section
variable {X : Cx} {pins : List (Addr × Obj)} {σ : St} {H : Hp} {s : Shared} {a C dx : Addr} {fs : List (Str × V)} {f : Str} {v : V} {A : Around} {E : Value → Shared → Prop}
end
section
variable {X : Cx} {o e value : Expr} {f : Str} {pos pos' tpos : Pos} {ta tv : TE}
end
section
variable {X : Cx} {pins : List (Addr × Obj)} {σ : St} {H : Hp} {s : Shared} {A : Around} {E : Value → Shared → Prop} {Q : Value → Shared → Prop} {c : Value} {b : Bool}
end
end L2
namespace L2
open PySem PySem.Spec PyProof.Rows
structure zhw (k : Nat) (A : Around) : Prop where
 hd : A.handled = none
 dp : A.depth + 3 * k + 5 < recursionLimit
 un : A.units + 16 * k + 200 < cLine
theorem zhw.mono {j k : Nat} {A : Around} (r : zhw k A) (h : j ≤ k) : zhw j A := ⟨r.hd, by have := r.dp; omega, by have := r.un; omega⟩
theorem zhw.deeper {k : Nat} {A : Around} (r : zhw (k + 1) A) (env : Env) : zhw k (A.deeper env) :=
 ⟨r.hd, by have := r.dp; show A.depth + 1 + 3 * k + 5 < _; omega, by have := r.un; show A.units + 3 + 16 * k + 200 < _; omega⟩
theorem zhw.depth {k : Nat} {A : Around} (r : zhw k A) : A.depth < recursionLimit := by have := r.dp; omega
def tNil : TA := fun _ H Q => Q [] H
def zvh (ta : TE) (tr : TA) : TA := fun σ H Q => ta σ H fun x H1 => tr σ H1 fun xs H2 => Q (x :: xs) H2
section
variable {X : Cx} {e : Expr} {es : List Expr} {te : TE} {t : TA} {pos : Pos}
theorem zqq : PA X [] tNil := fun _ _ _ _ H Q I h => Calls.spliced_nil ⟨[], H, I, .nil, h⟩
theorem zmW (ha : PE X e te) (hr : PA X es t) (hs : starEach (e :: es) X.env = (false, eval e X.env) :: starEach es X.env := by rfl) : PA X (e :: es) (zvh te t) := by
 intro pos pins s σ H Q I h
 rw [hs]
 show wpAny _ _ (spliced ((false, eval e X.env) :: backTo pos (starEach es X.env))) _ _ s
 refine Calls.spliced_cons (thn (ha pins s σ H _ I h) fun u s1 ⟨x, H1, I1, r1, q1⟩ => ?_)
 exact thn (hr pos pins s1 σ H1 _ I1 q1) fun us s2 ⟨xs, H2, I2, r2, q2⟩ => ⟨x :: xs, H2, I2, .cons r1 r2, q2⟩
def tTup (t : TA) : TE := fun σ H Q => t σ H fun xs H1 => xs.length ≤ sizeLine ∧ ∀ p, H1 p = none → Q (.ref p) (upd H1 p (.tup xs))
def tLst (t : TA) : TE := fun σ H Q => t σ H fun xs H1 => xs.length ≤ sizeLine ∧ ∀ p, H1 p = none → Q (.ref p) (upd H1 p (.lst xs))
theorem zts {x1} (h : PA X es t) : PE X (.Tuple es x1 pos) (tTup t) := by
 intro pins s σ H Q I hq
 refine wpAny_Tuple_spliced (thn (h pos pins s σ H _ I hq) fun us s1 ⟨xs, H1, I1, r, z, q⟩ => ⟨by rw [← r.length]; exact z, ?_⟩)
 have hf : H1 s1.heap.objs.size = none := I1.hok.fresh (Nat.le_refl _)
 refine ⟨.ref s1.heap.objs.size, upd H1 s1.heap.objs.size (.tup xs), I1.laid (t' := s1.toks) (fun b u e => Heap.get?_push_of_some _ e) (Nat.le_refl _) ?_, rfl, q _ hf⟩
 exact ⟨z, us, r, ⟨_, Heap.get?_push_size _ rfl, rfl, _, rfl⟩⟩
theorem ztt (h : PA X es t) : PE X (.List es pos) (tLst t) := by
 intro pins s σ H Q I hq
 refine wpAny_List_spliced (thn (h pos pins s σ H _ I hq) fun us s1 ⟨xs, H1, I1, r, z, q⟩ => ⟨by rw [← r.length]; exact z, ?_⟩)
 have hf : H1 s1.heap.objs.size = none := I1.hok.fresh (Nat.le_refl _)
 refine ⟨.ref s1.heap.objs.size, upd H1 s1.heap.objs.size (.lst xs), I1.laid (t' := s1.toks) (fun b u e => Heap.get?_push_of_some _ e) (Nat.le_refl _) ?_, rfl, q _ hf⟩
 exact ⟨z, us, 0, r, Heap.get?_push_size _ rfl⟩
end
abbrev Sp := List V → Hp → VK → XK → Prop
abbrev CXT := List Env → Hp → Shared → XK → Value → Shared → Prop
structure zuQ (P : Program) (w : World) (K : PySem.W.Frag) (mg : Str → Option Value) (base : Heap) (A : Around) (outer : List Env) (s : Shared) (H : Hp) : Prop where
 frames : A.frames = some outer
 mod : Mod K mg base
 bs : ∀ b o, base.get? b = some o → s.heap.get? b = some o ∧ H b = none
 bsz : base.objs.size ≤ s.heap.objs.size
 funs : s.heap.FunFrames base outer
 frf : ∀ b ∈ frs outer, H b = none
 hok : HOk P w H s.heap
 bare : AllBare s.gens
def CE (outer : List Env) (P : Program) (w : World) (H : Hp) (s : Shared) (Q : VK) (u : Value) (s' : Shared) : Prop :=
 ∃ v H', s'.os = s.os ∧ AllBare s'.gens ∧ Un (frs outer) [] H H' s.heap s'.heap ∧ HOk P w H' s'.heap ∧ zcb v u ∧ Q v H'
def CR (CX : CXT) (outer : List Env) (P : Program) (w : World) (H : Hp) (s : Shared) (Q : VK) (E : XK) (r : Result) (s' : Shared) : Prop :=
 match r with
 | .ok (.ret u) => CE outer P w H s Q u s'
 | .ok _ => False
 | .error e => CX outer H s E e s'
structure zhN (P : Program) (w : World) (K : PySem.W.Frag) (mg : Str → Option Value) (base : Heap) (CX : CXT) (k : Nat) (f : Addr) (fd : FuncData) (ps : List Str) (sp : Sp) : Prop where
 len : ∀ vs H Q E, sp vs H Q E → vs.length = ps.length
 run : ∀ (A : Around) (outer : List Env) (s : Shared) (H : Hp) (args : Args) (us : List Value) (vs : List V) (Q : VK) (E : XK), zhw k A → zuQ P w K mg base A outer s H → BindsTo s fd args (ps.zip us) → zca vs us → sp vs H Q E →
  codeAny (model P w) A (.call (.ref f) args) (CR CX outer P w H s Q E) s
theorem zhN.mono {P : Program} {w : World} {K : PySem.W.Frag} {mg : Str → Option Value} {base : Heap} {CX : CXT} {j k : Nat} {f : Addr} {fd : FuncData} {ps : List Str} {sp : Sp} (F : zhN P w K mg base CX j f fd ps sp) (h : j ≤ k) :
  zhN P w K mg base CX k f fd ps sp := ⟨F.len, fun A outer s H args us vs Q E hr => F.run A outer s H args us vs Q E (hr.mono h)⟩
theorem zhN.imp {P : Program} {w : World} {K : PySem.W.Frag} {mg : Str → Option Value} {base : Heap} {CX : CXT} {k : Nat} {f : Addr} {fd : FuncData} {ps : List Str} {sp sp' : Sp} (F : zhN P w K mg base CX k f fd ps sp)
  (h : ∀ vs H Q E, sp' vs H Q E → sp vs H Q E) : zhN P w K mg base CX k f fd ps sp' :=
 ⟨fun vs H Q E q => F.len vs H Q E (h _ _ _ _ q), fun A outer s H args us vs Q E hr he hb hv hs => F.run A outer s H args us vs Q E hr he hb hv (h _ _ _ _ hs)⟩
section
variable {X : Cx} {pins : List (Addr × Obj)} {σ : St} {H : Hp} {s s' : Shared}
theorem Inv.env0 (I : Inv X pins σ H s) : zuQ X.prog X.w X.K X.mg X.base X.A X.stack s H :=
 ⟨I.ok.frames, I.ok.mod, I.bs, Nat.le_trans I.ok.bsz I.sz, I.stack, I.stkFree, I.hok, I.bare⟩
theorem Inv.after {Q : VK} {u : Value} (I : Inv X pins σ H s) (h : CE X.stack X.prog X.w H s Q u s') : EP X pins σ Q u s' := by
 obtain ⟨v, H', os, bare, un, hok, r, q⟩ := h
 obtain ⟨hh, g, d, t, os'⟩ := s'
 obtain rfl : os' = s.os := os
 exact ⟨v, H', I.call (h' := hh) (g' := g) (d' := d) (t' := t) (ch := []) un hok bare (fun b z => absurd z (by simp)), r, q⟩
end
def zvi (sp : Sp) (dvs : List V) (E : XK) (t : TA) : TE := fun σ H Q => t σ H fun vs H1 => sp (vs ++ dvs) H1 Q E
def zbg (K : PySem.W.Frag) (fd : FuncData) (ps : List Str) (ds : List Value) : Prop :=
 ∀ (s : Shared) (us : List Value), K.In s.heap → (us ++ ds).length = ps.length → BindsTo s fd ⟨us, []⟩ (ps.zip (us ++ ds))
theorem zbg.all {K : PySem.W.Frag} {fd : FuncData} {ps : List Str} (h : ∀ us : List Value, us.length = ps.length → bindArgs fd ⟨us, []⟩ = pure (ps.zip us)) : zbg K fd ps [] := fun s us _ hl => by
 rw [List.append_nil] at hl ⊢
 exact .of_eq (h us hl)
def zi9 (CX : CXT) (X : Cx) (E : XK) : Prop := ∀ (pins : List (Addr × Obj)) (σ : St) (H : Hp) (s : Shared) (e : Value) (s' : Shared), Inv X pins σ H s → CX X.stack H s E e s' → X.xe e s'
section
variable {X : Cx} {CX : CXT} {k : Nat} {f C : Addr} {fd : FuncData} {ps : List Str} {sp : Sp} {dvs : List V} {ds : List Value} {E : XK} {x m : Str} {p pos apos : Pos} {e o : Expr} {es : List Expr} {ta : TE} {t : TA}
theorem ztu {pins : List (Addr × Obj)} {σ : St} {H : Hp} {s : Shared} {Q : VK} {us : List Value} {vs : List V} (F : zhN X.prog X.w X.K X.mg X.base CX k f fd ps sp) (hr : zhw k X.A) (hb : zbg X.K fd ps ds) (hd : zca dvs ds) (hx : zi9 CX X E)
  (I : Inv X pins σ H s) (r : zca vs us) (h : sp (vs ++ dvs) H Q E) : wpAny (model X.prog X.w) X.A (call (.ref f) us) (EP X pins σ Q) X.xe s := by
 have r2 : zca (vs ++ dvs) (us ++ ds) := r.append hd
 have hl : (us ++ ds).length = ps.length := by rw [← r2.length]; exact F.len _ _ _ _ h
 refine wpAny_call (codeAny_mono (F.run X.A X.stack s H ⟨us, []⟩ (us ++ ds) (vs ++ dvs) Q E hr I.env0 (hb s us I.kIn hl) r2 h) fun r s' hq => ?_)
 cases r with
 | error e => exact hx pins σ H s e s' I hq
 | ok fl =>
  cases fl with
  | ret u => exact I.after hq
  | next => exact False.elim hq
  | brk => exact False.elim hq
  | cont => exact False.elim hq
theorem zrP (F : zhN X.prog X.w X.K X.mg X.base CX k f fd ps sp) (hr : zhw k X.A) (hg : Gl X x) (hm : X.mg x = some (.ref f)) (hk : PySem.W.keepIn X.K (.ref f) = true) (hb : zbg X.K fd ps ds) (hd : zca dvs ds) (hx : zi9 CX X E)
  (ha : PA X (e :: es) t) (hdb : (x == ("__debug__" : Str)) = false := by decide) (he : starEach (e :: es) X.env = (false, eval e X.env) :: starEach es X.env := by rfl) (hpl : (backTo pos (starEach es X.env)).any (·.1) = false := by rfl) :
  PE X (.Call (.Name x p) (e :: es) [] pos) (zvi sp dvs E t) := by
 intro pins s σ H Q I h
 refine wpAny_Call_Name_kw (zgB I hg hm ?_ hdb)
 refine PySem.W.callWith_K (h₀ := X.base) I.ok.mod.kin hk (thn (ha pos pins s σ H _ I h) fun us s1 ⟨vs, H1, I1, r, q⟩ => ⟨I1.kIn, ?_⟩) he hpl
 exact ztu F hr hb hd hx I1 r q
end
section
variable {X : Cx} {CX : CXT} {k : Nat} {f C : Addr} {fd : FuncData} {ps ks : List Str} {sp : Sp} {E : XK} {x m : Str} {p pos apos kpos : Pos} {e o : Expr} {es : List Expr} {kws : List Keyword} {te ta : TE} {t tk : TA} {nm : Option Str}
variable {g : List Value → List Value → List Value} {gV : List V → List V → List V}
end
structure zaw (N P : List Str) (sc : Scope) : Prop where
 kind : sc.kind = .function
 co : sc.isCoroutine = false
 gen : sc.isGenerator = false
 nd : N.Nodup
 pre : N.take P.length = P
 par : ∀ x ∈ P, sc.names.lookup x = some .local ∨ sc.names.lookup x = some .cell
 nofree : ∀ y ∈ sc.names, y.2 ≠ .free
theorem zja {kindOf : Str → Option NameKind} {x : Str} : ∀ {binds : List (Str × Value)} {m : Str → Option Value}, (∀ v, (x, v) ∉ binds) → bindL kindOf binds m x = m x
 | [], _, _ => rfl
 | (n, v) :: r, m, h => by
  unfold bindL
  rw [zja fun w hw => h w (List.mem_cons_of_mem _ hw)]
  split
  ·have : x ≠ n := by rintro rfl; exact h v List.mem_cons_self
   simp [this]
  ·rfl
theorem zjb {kindOf : Str → Option NameKind} {x : Str} : ∀ {binds : List (Str × Value)} {m : Str → Option Value}, (∀ v, (x, v) ∉ binds) → bindC kindOf binds m x = m x
 | [], _, _ => rfl
 | (n, v) :: r, m, h => by
  unfold bindC
  rw [zjb fun w hw => h w (List.mem_cons_of_mem _ hw)]
  split
  ·rfl
  ·have : x ≠ n := by rintro rfl; exact h v List.mem_cons_self
   simp [this]
theorem zjc {kindOf : Str → Option NameKind} {x : Str} {v : Value} : ∀ {P : List Str} {vs : List Value} {i : Nat} {m : Str → Option Value}, P.Nodup → P[i]? = some x → vs[i]? = some v → kindOf x = some .local →
  bindL kindOf (P.zip vs) m x = some v
 | [], _, _, _, _, h, _, _ => by simp at h
 | _ :: _, [], _, _, _, _, h, _ => by simp at h
 | p :: P, w :: vs, 0, m, nd, h1, h2, hk => by
  simp at h1 h2; subst h1; subst h2
  show bindL kindOf ((p, w) :: P.zip vs) m p = _
  unfold bindL
  rw [zja fun v hv => (List.nodup_cons.mp nd).1 (List.of_mem_zip hv).1, if_pos hk]
  simp
 | p :: P, w :: vs, i + 1, m, nd, h1, h2, hk => by
  show bindL kindOf ((p, w) :: P.zip vs) m x = _
  unfold bindL
  exact zjc (i := i) (List.nodup_cons.mp nd).2 (by simpa using h1) (by simpa using h2) hk
theorem zjd {kindOf : Str → Option NameKind} {x : Str} {v : Value} : ∀ {P : List Str} {vs : List Value} {i : Nat} {m : Str → Option Value}, P.Nodup → P[i]? = some x → vs[i]? = some v → kindOf x ≠ some .local →
  bindC kindOf (P.zip vs) m x = some v
 | [], _, _, _, _, h, _, _ => by simp at h
 | _ :: _, [], _, _, _, _, h, _ => by simp at h
 | p :: P, w :: vs, 0, m, nd, h1, h2, hk => by
  simp at h1 h2; subst h1; subst h2
  show bindC kindOf ((p, w) :: P.zip vs) m p = _
  unfold bindC
  rw [zjb fun v hv => (List.nodup_cons.mp nd).1 (List.of_mem_zip hv).1, if_neg hk]
  simp
 | p :: P, w :: vs, i + 1, m, nd, h1, h2, hk => by
  show bindC kindOf ((p, w) :: P.zip vs) m x = _
  unfold bindC
  exact zjd (i := i) (List.nodup_cons.mp nd).2 (by simpa using h1) (by simpa using h2) hk
def start (N : List Str) (vs : List V) : St := vs.map some ++ List.replicate (N.length - vs.length) none
def zi5 (CX : CXT) (P : Program) (w : World) (K : PySem.W.Frag) (mg : Str → Option Value) (base : Heap) (N : List Str) (qual : Str) (scope : Scope) (f : Addr) (cd : Value) (A : Around) (outer : List Env) (s : Shared) (H : Hp) (E : XK) : Cx where
 prog := P
 w := w
 K := K
 mg := mg
 base := base
 A := A.deeper (envOfC qual scope s.heap.objs.size f cd)
 N := N
 s₀ := s
 H₀ := H
 env := envOfC qual scope s.heap.objs.size f cd
 outer := outer
 stack := envOfC qual scope s.heap.objs.size f cd :: outer
 ex := []
 calm := true
 fn := fun _ => true
 pn := []
 xe := fun e s' => wpAny (model P w) (A.deeper (envOfC qual scope s.heap.objs.size f cd)) (leaving (envOfC qual scope s.heap.objs.size f cd) e) (fun _ s'' => CX outer H s E e s'') (fun e' s'' => CX outer H s E e' s'') s'
theorem zkR {sc : Scope} {n : Nat} {x : Str} (h : sc.names.lookup x = some .cell) : ∃ c, (cellsFrom n sc.names []).lookup x = some c := by
 have q := PySem.W.cellsFrom_some sc.names n [] (.inl h)
 exact Option.isSome_iff_exists.mp q
theorem zmX {CX : CXT} {P : Program} {w : World} {K : PySem.W.Frag} {mg : Str → Option Value} {base : Heap} {N ps : List Str} {qual : Str} {scope : Scope} {f : Addr} {cd : Value} {A : Around} {outer : List Env} {s s1 : Shared} {H : Hp} {E : XK} {us : List Value} {vs : List V}
  (S : zaw N ps scope) (hd : A.handled = none) (e0 : zuQ P w K mg base A outer s H) (hl : vs.length = ps.length) (r : zca vs us)
  (x : InCallC s s.heap.objs.size (bindL (envOfC qual scope s.heap.objs.size f cd).kindOf (ps.zip us) fun _ => none) (cellsFrom (s.heap.objs.size + 1) scope.names []) (bindC (envOfC qual scope s.heap.objs.size f cd).kindOf (ps.zip us) fun _ => none) s1) :
  Inv (zi5 CX P w K mg base N qual scope f cd A outer s H E) [] (start N vs) H s1 := by
 have hpl : ps.length ≤ N.length := by have := congrArg List.length S.pre; rw [List.length_take] at this; omega
 obtain ⟨h1, tk, rfl, hk⟩ := x.done
 have noA : ∀ b : Addr, b ∉ (zi5 CX P w K mg base N qual scope f cd A outer s H E).ex := fun b z => absurd (show b ∈ ([] : List Addr) from z) (by simp)
 refine ⟨⟨e0.mod, S.kind, rfl, rfl, Nat.le_refl _, fun y z c h1 h2 => ?_, fun y hy => ?_, fun y c _ h => ?_, fun _ => hd, Around.frames_deeper e0.frames, .inr ⟨rfl, rfl⟩, fun b z => absurd z (noA b), e0.bs, e0.bsz, fun b _ _ => noA b, fun b z => absurd z (noA b), e0.funs, e0.frf⟩,
  rfl, e0.bare, Un.kept hk, ⟨_, x.toInCall.ns, fun i y v h1 h2 h3 => ?_⟩, fun y c h => ⟨_, x.cell y c h⟩, e0.hok.fresh (Nat.le_refl _), fun y c h => ?_, fun p hp => absurd (show p ∈ ([] : List (Addr × Obj)) from hp) (by simp), e0.hok.kept hk, ?_⟩
 ·exact name_of_addr x.apart (PySem.mem_of_lookup h1) (PySem.mem_of_lookup h2)
 ·have hy : scope.names.lookup y = some .cell ∨ scope.names.lookup y = some .free := hy
  rcases hy with hy | hy
  ·exact zkR hy
  ·exact absurd rfl (S.nofree _ (PySem.mem_of_lookup hy))
 ·exact Nat.le_of_lt (x.above y c (PySem.mem_of_lookup h))
 ·have hi : i < vs.length := by
   unfold start at h2
   by_cases hi : i < vs.length
   ·exact hi
   ·rw [List.getElem?_append_right (by simpa using hi)] at h2
    rw [List.getElem?_replicate] at h2
    split at h2 <;> cases h2
  have ha : vs[i]? = some v := by
   unfold start at h2
   rw [List.getElem?_append_left (by simpa using hi), List.getElem?_map] at h2
   cases e : vs[i]? with
   | none => rw [e] at h2; cases h2
   | some a => rw [e] at h2; cases h2; rfl
  obtain ⟨u, hu, rv⟩ := r.get ha
  have hp : ps[i]? = some y := by
   rw [← S.pre, List.getElem?_take_of_lt (by omega)]; exact h1
  have ndP : ps.Nodup := by rw [← S.pre]; exact S.nd.sublist (List.take_sublist _ _)
  refine ⟨u, rv, ?_⟩
  rcases S.par y (List.mem_of_getElem? hp) with k | k
  ·exact .inl ⟨k, zjc ndP hp hu k⟩
  ·obtain ⟨c, e⟩ := zkR (n := s.heap.objs.size + 1) k
   refine .inr ⟨.inl k, c, e, ?_⟩
   have q := x.cell y c e
   rw [zjd ndP hp hu (by show scope.names.lookup y ≠ _; rw [k]; decide)] at q
   exact q
 ·exact e0.hok.fresh (Nat.le_of_lt (x.above y c (PySem.mem_of_lookup h)))
 ·unfold start
  show _ = N.length
  rw [List.length_append, List.length_map, List.length_replicate]
  omega
theorem zvj {CX : CXT} {P : Program} {w : World} {K : PySem.W.Frag} {mg : Str → Option Value} {base : Heap} {k : Nat} {f : Addr} {name qual : Str} {params : Arguments} {body : List Stmt} {scope : Scope} {dV kV doc pm cdv ct oc : Value} {an od : Option Addr}
  {osl : Array (Option Value)} {N ps : List Str} {sp : Sp} (lk : K.lookup f = some ⟨oc, od, .func (PySem.W.fnOf name qual params body scope dV kV doc pm an cdv ct), osl⟩) (hcd : PySem.W.codeIn K cdv qual = true) (S : zaw N ps scope)
  (len : ∀ vs H Q E, sp vs H Q E → vs.length = ps.length)
  (hbody : ∀ (A : Around) (outer : List Env) (s : Shared) (H : Hp) (vs : List V) (Q : VK) (E : XK), zhw k (A.deeper (envOfC qual scope s.heap.objs.size f cdv)) → sp vs H Q E →
   ∃ t, PSs (zi5 CX P w K mg base N qual scope f cdv A outer s H E) body t ∧ t { nx := fun _ H' => Q .non H', rt := Q } (start N vs) H) :
  zhN P w K mg base CX (k + 1) f (PySem.W.fnOf name qual params body scope dV kV doc pm an cdv ct) ps sp := by
 refine ⟨len, fun A outer s H args us vs Q E hr e0 hb r hsp => ?_⟩
 have hl := len _ _ _ _ hsp
 have KX : K.In s.heap := e0.mod.kin.keeps fun b o e => (e0.bs b o e).1
 have lim : s.heap.NoLimit := e0.mod.nolimit.keeps fun b o e => (e0.bs b o e).1
 have hkind : ∀ y ∈ ps.zip us, scope.names.lookup y.1 = some .local ∨ (scope.names.lookup y.1 = some .cell ∧ ((cellsFrom (s.heap.objs.size + 1) scope.names []).lookup y.1).isSome = true) := fun ⟨n, v⟩ hy => by
  rcases S.par n (List.of_mem_zip hy).1 with q | q
  ·exact .inl q
  ·exact .inr ⟨q, PySem.W.cellsFrom_some _ _ _ (.inl q)⟩
 refine codeAny_call_function hr.depth (KX _ _ lk) rfl S.co S.gen rfl (PySem.W.codeRec_of KX hcd) (hb _ _ _ _ ?_)
 refine wpAny_newFunctionEnv_cells S.kind hkind fun env he s1 x => ?_
 subst he
 refine ⟨lim.keeps x.toInCall.keep, codeAny_func ?_⟩
 obtain ⟨t, ht, hq⟩ := hbody A outer s H vs Q E (hr.deeper _) hsp
 have I : Inv (zi5 CX P w K mg base N qual scope f cdv A outer s H E) [] (start N vs) H s1 := zmX S hr.hd e0 hl r x
 refine wpAny_mono (ht [] s1 (start N vs) H _ I hq) (fun fl s' hs => ?_) fun e s' hs => hs
 have fin : ∀ {σ' : St} {H' : Hp} {v : V} {u : Value}, Inv (zi5 CX P w K mg base N qual scope f cdv A outer s H E) [] σ' H' s' → zcb v u → Q v H' → CE outer P w H s Q u s' :=
  fun {σ' H' v u} J rv q => ⟨v, H', J.os, J.bare, J.base, J.hok, rv, q⟩
 cases fl with
 | ret u =>
  obtain ⟨v, σ', H', J, rv, q⟩ := hs
  exact fin J rv q
 | next =>
  obtain ⟨σ', H', J, q⟩ := hs
  exact fin (v := V.non) (u := Value.none) J rfl q
 | brk =>
  obtain ⟨_, _, _, q⟩ := hs
  exact False.elim q
 | cont =>
  obtain ⟨_, _, _, q⟩ := hs
  exact False.elim q
end L2
namespace L2
open PySem PySem.Spec PyProof.Rows
section
variable {X : Cx} {x : Str} {p pos : Pos} {e : Expr} {es : List Expr} {t : TA} {id T : String} {r : List V → Hp → VK → Prop}
def tCB (r : List V → Hp → VK → Prop) (t : TA) : TE := fun σ H Q => t σ H fun vs H1 => r vs H1 Q
theorem zkS (hc : zde X (.builtin id) r) (hg : Gl X x) (hm : X.mg x = none) (hv : bootBuiltins x = some (.builtin id)) (ha : PA X (e :: es) t) (hn : x ≠ "__name__" := by decide) (hdb : (x == ("__debug__" : Str)) = false := by decide)
  (he : starEach (e :: es) X.env = (false, eval e X.env) :: starEach es X.env := by rfl) (hpl : (backTo pos (starEach es X.env)).any (·.1) = false := by rfl) : PE X (.Call (.Name x p) (e :: es) [] pos) (tCB r t) := by
 intro pins s σ H Q I h
 refine wpAny_Call_Name_kw (zi7 I hg hm hv ?_ hn hdb)
 exact PyProof.Rows.callWith_builtin1 (thn (ha pos pins s σ H _ I h) fun us s1 ⟨vs, H1, I1, r1, q1⟩ => hc pins s1 σ H1 vs us Q I1 r1 q1) he hpl
theorem zgC (hc : zde X (.type T) r) (hg : Gl X x) (hm : X.mg x = none) (hv : bootBuiltins x = some (.type T)) (ha : PA X (e :: es) t) (hn : x ≠ "__name__" := by decide) (hdb : (x == ("__debug__" : Str)) = false := by decide)
  (he : starEach (e :: es) X.env = (false, eval e X.env) :: starEach es X.env := by rfl) (hpl : (backTo pos (starEach es X.env)).any (·.1) = false := by rfl) : PE X (.Call (.Name x p) (e :: es) [] pos) (tCB r t) := by
 intro pins s σ H Q I h
 refine wpAny_Call_Name_kw (zi7 I hg hm hv ?_ hn hdb)
 exact PyProof.Rows.callWith_type1 (thn (ha pos pins s σ H _ I h) fun us s1 ⟨vs, H1, I1, r1, q1⟩ => hc pins s1 σ H1 vs us Q I1 r1 q1) he hpl
end
end L2
namespace HT
open PySem PyProof.Rows
section
open PySem.SeqAt
open PySem.AutoSeq1 (wpAny_loadPart')
open PySem.MeetsSeq PySem.MeetsSeq2 PySem.MeetsSeq3
end
section
variable {prog : Program} {w : World} {A : Around} {E : Value → Shared → Prop} {s : Shared}
theorem cat_tup {t b : Addr} {vs ws : List Value} {Q : Value → Shared → Prop} (ht : IsTup s.heap t vs.toArray) (hb : IsTup s.heap b ws.toArray) (hv : vs ≠ [])
  (h1 : ws = [] → Q (.ref t) s) (h2 : ws ≠ [] → Q (.ref s.heap.objs.size) { s with heap := s.heap.push { cls := .type "tuple", data := .seq (vs ++ ws).toArray } })
  (hsz : vs.length + ws.length ≤ sizeLine) : wpAny (model prog w) A (binaryOp .Add (.ref t) (.ref b)) Q E s := by
 obtain ⟨⟨cls, dd, data, sl⟩, ho, hc, n, hd⟩ := id ht
 obtain ⟨⟨cls2, dd2, data2, sl2⟩, ho2, hc2, n2, hd2⟩ := id hb
 simp only at hc hd hc2 hd2
 subst hc hd hc2 hd2
 have e : vs.toArray ++ ws.toArray = (vs ++ ws).toArray := by simp
 by_cases hw : ws = []
 ·exact concat_meets ⟨_, ho, rfl⟩ ⟨_, ho2, rfl⟩ noFill_tuple_add seq_tuple_add PySem.F.slot_tuple_add PySem.F.entry_tuple_add (PySem.F.args_tuple_add_2 _ _)
   (tuple_addW1 t b vs.toArray ws.toArray n n2 dd dd2 sl sl2 (by simpa using hv) (by simp [hw])) ⟨ho, ho2, h1 hw⟩
 ·refine concat_meets ⟨_, ho, rfl⟩ ⟨_, ho2, rfl⟩ noFill_tuple_add seq_tuple_add PySem.F.slot_tuple_add PySem.F.entry_tuple_add (PySem.F.args_tuple_add_2 _ _)
   (tuple_addW2 t b vs.toArray ws.toArray n n2 dd dd2 sl sl2 (by simpa using hv) (by simpa using hw) (by rw [List.size_toArray, List.size_toArray]; exact hsz)) ⟨ho, ho2, ?_⟩
  rw [e]
  exact h2 hw
def sIx (n d : Nat) : Option Int → Nat
 | none => d
 | some v => if v < 0 then (v + (n : Int)).toNat else min v.toNat n
theorem sIx_none (n d : Nat) : sIx n d none = d := rfl
theorem sIx_nat (n d k : Nat) : sIx n d (some (k : Int)) = min k n := by
 show (if (k : Int) < 0 then ((k : Int) + (n : Int)).toNat else min (k : Int).toNat n) = min k n
 rw [if_neg (by omega), Int.toNat_natCast]
theorem ztv (n d : Nat) (hd : d ≤ n) (o : Option Int) : sIx n d o ≤ n := by
 cases o with
 | none => exact hd
 | some v =>
  show (if v < 0 then (v + (n : Int)).toNat else min v.toNat n) ≤ n
  by_cases hv : v < 0
  ·rw [if_pos hv]; omega
  ·rw [if_neg hv]; exact Nat.min_le_right _ _
theorem zmY (v : Int) (n d : Nat) : (if v < 0 then max (v + (n : Int)) 0 else min v (n : Int)) = ((sIx n d (some v) : Nat) : Int) := by
 show (if v < 0 then max (v + (n : Int)) 0 else min v (n : Int)) = (((if v < 0 then (v + (n : Int)).toNat else min v.toNat n) : Nat) : Int)
 by_cases hv : v < 0
 ·simp only [if_pos hv]; omega
 ·simp only [if_neg hv]; omega
theorem zmj (lo hi : Option Int) (n : Nat) : Builtin.Slice.sliceAdjust lo hi 1 (n : Int) = (((sIx n 0 lo : Nat) : Int), ((sIx n n hi : Nat) : Int)) := by
 have h1 : ¬ ((1 : Int) < 0) := by omega
 unfold Builtin.Slice.sliceAdjust
 simp only [h1, if_false]
 refine Prod.ext ?_ ?_
 ·cases lo with
  | none => rfl
  | some v => exact zmY v n 0
 ·cases hi with
  | none => rfl
  | some v => exact zmY v n n
theorem zmk (i j : Nat) : Builtin.Slice.slicePlaces (i : Int) (j : Int) 1 = j - i := by
 unfold Builtin.Slice.slicePlaces
 have h1 : (1 : Int) > 0 := by omega
 simp only [h1, if_true, Int.ediv_one]
 split <;> omega
theorem zhO {v : Value} {o : Option Int} {Q : Option Int → Shared → Prop} (p : IsPart v o) (h : Q o s) : wpAny (model prog w) A (Builtin.Slice.slicePartIndex v) Q E s := by
 cases p with
 | none => exact slicePart_none h
 | int i t => exact slicePart_int h
theorem zgl {sl : Addr} {vl vu : Value} {lo hi : Option Int} {n : Nat} {Q : Int × Int × Nat → Shared → Prop} (hs : s.heap.IsSliceOf sl vl vu .none) (pl : IsPart vl lo) (pu : IsPart vu hi)
  (h : Q (((sIx n 0 lo : Nat) : Int), 1, sIx n n hi - sIx n 0 lo) s) : wpAny (model prog w) A (Builtin.Slice.sliceApplied (.ref sl) (pure (n : Int))) Q E s := by
 obtain ⟨os, hos, hcs, hds⟩ := id hs
 unfold Builtin.Slice.sliceApplied Builtin.Slice.sliceFields
 refine wpAny_bind (wpAny_bind (wpAny_field hos hds (x := vl) rfl (wpAny_bind (wpAny_field hos hds (x := vu) rfl (wpAny_bind (wpAny_field hos hds (x := .none) rfl (wpAny_pure ?_)))))))
 refine wpAny_bind (slicePart_none ?_)
 show wpAny _ _ (if ((1 : Int) == 0) = true then _ else _) _ _ s
 rw [if_neg (by decide)]
 refine wpAny_bind (zhO pl (wpAny_bind (zhO pu (wpAny_bind (wpAny_pure ?_)))))
 show wpAny _ _ (match Builtin.Slice.sliceAdjust lo hi 1 (n : Int) with | (lo, hi) => pure (lo, (1 : Int), Builtin.Slice.slicePlaces lo hi 1)) _ _ s
 rw [zmj lo hi n]
 show wpAny _ _ (pure (((sIx n 0 lo : Nat) : Int), (1 : Int), Builtin.Slice.slicePlaces ((sIx n 0 lo : Nat) : Int) ((sIx n n hi : Nat) : Int) 1)) _ _ s
 rw [zmk]
 exact wpAny_pure h
theorem zpi (xs : Array Value) (i k : Nat) : ((List.range k).filterMap fun (m : Nat) => xs[((i : Int) + (m : Int) * 1).toNat]?).toArray = ((xs.toList.drop i).take k).toArray := by
 have e : (fun (m : Nat) => xs[((i : Int) + (m : Int) * 1).toNat]?) = fun m => xs[i + m]? := by
  funext m
  have : ((i : Int) + (m : Int) * 1).toNat = i + m := by omega
  rw [this]
 rw [e]
 have := pick_run xs i k
 rw [List.filterMap_map] at this
 have e2 : ((fun x => xs[x]?) ∘ fun x => i + x) = fun m => xs[i + m]? := rfl
 rw [e2] at this
 rw [this]
theorem getItem_tuple_cut {t sl : Addr} {items : Array Value} {vl vu : Value} {lo hi : Option Int} {Q : Value → Shared → Prop} (ht : IsTup s.heap t items) (hs : s.heap.IsSliceOf sl vl vu .none) (pl : IsPart vl lo) (pu : IsPart vu hi)
  (hw : ¬ (sIx items.size 0 lo = 0 ∧ sIx items.size items.size hi = items.size))
  (h : Q (.ref s.heap.objs.size) { s with heap := s.heap.push { cls := .type "tuple", data := .seq ((items.toList.drop (sIx items.size 0 lo)).take (sIx items.size items.size hi - sIx items.size 0 lo)).toArray } })
  (hsz : items.size ≤ sizeLine) : wpAny (model prog w) A (getItem (.ref t) (.ref sl)) Q E s := by
 have htake : sizeOk (.seq ((items.toList.drop (sIx items.size 0 lo)).take (sIx items.size items.size hi - sIx items.size 0 lo)).toArray) := by
  show ((items.toList.drop (sIx items.size 0 lo)).take (sIx items.size items.size hi - sIx items.size 0 lo)).toArray.size ≤ sizeLine
  rw [List.size_toArray, List.length_take, List.length_drop, Array.length_toList]
  omega
 have hj : sIx items.size items.size hi ≤ items.size := ztv _ _ (Nat.le_refl _) hi
 obtain ⟨os, hos, hcs, hds⟩ := id hs
 have hTs : s.TypeIs (.ref sl) "slice" := ⟨os, hos, hcs⟩
 unfold getItem
 try with_reducible refine wpAny_holding ?_
 first | refine wpAny_bind (wpAny_pure ?_) | skip
 refine wpAny_bind (wpAny_sequenceKey ht.typeIs (by decide) ?_)
 refine wpAny_bind (wpAny_callSpecial?_slot (name := Str.ofString "__getitem__") ht.typeIs PyProof.Rows.slot_tuple_getitem
  (wpAny_call_entry PyProof.Rows.slot_tuple_getitem ht.typeIs entry_tuple_getitem ?_ (args_tuple_getitem _ _)))
 show wpAny _ _ (Builtin.Tuple.tupleItemsOf (.ref t) >>= _) _ _ s
 refine wpAny_bind (tupleItemsOf_ ht ?_)
 refine wpAny_bind (wpAny_typeOf hTs ?_)
 rw [if_pos (by decide)]
 refine wpAny_bind (zgl hs pl pu ?_)
 have hno : ¬ ((((sIx items.size 0 lo : Nat) : Int) == 0 && (1 : Int) == 1 && (sIx items.size items.size hi - sIx items.size 0 lo) == items.size) = true) := by
  intro q
  rw [Bool.and_eq_true, Bool.and_eq_true] at q
  have q1 : ((sIx items.size 0 lo : Nat) : Int) = 0 := eq_of_beq q.1.1
  have q2 : sIx items.size items.size hi - sIx items.size 0 lo = items.size := eq_of_beq q.2
  exact hw ⟨by omega, by omega⟩
 show wpAny _ _ (if (((sIx items.size 0 lo : Nat) : Int) == 0 && (1 : Int) == 1 && (sIx items.size items.size hi - sIx items.size 0 lo) == items.size) = true then _ else _) _ _ s
 rw [if_neg hno, zpi]
 first
  | exact wpAny_bind (m := Builtin.Tuple.tupleExact _) (wpAny_newObj_type (wpAny_pure ⟨_, rfl, wpAny_pure h⟩) htake)
  | exact wpAny_bind (m := Builtin.Tuple.tupleExact _) (wpAny_newObj_type (wpAny_bind (wpAny_pure (wpAny_pure ⟨_, rfl, wpAny_pure h⟩))) htake)
  | exact wpAny_bind (wpAny_bind (m := Builtin.Tuple.tupleExact _) (wpAny_newObj_type (wpAny_pure (wpAny_pure ⟨_, rfl, wpAny_pure h⟩)) htake))
  | exact wpAny_bind (wpAny_bind (m := Builtin.Tuple.tupleExact _) (wpAny_newObj_type (wpAny_pure ⟨_, rfl, wpAny_pure h⟩) htake))
end
end HT
namespace L2
open PySem PySem.Spec PyProof.Rows
abbrev TO := St → Hp → (Option Int → Hp → Prop) → Prop
def PO (X : Cx) (e : Option Expr) (t : TO) : Prop :=
 ∀ (pins : List (Addr × Obj)) (s : Shared) (σ : St) (H : Hp) (Q : Option Int → Hp → Prop), Inv X pins σ H s → t σ H Q →
  wpAny (model X.prog X.w) X.A (evalPart e X.env) (fun u s' => ∃ o H', Inv X pins σ H' s' ∧ IsPart u o ∧ Q o H') X.xe s
def zrQ : TO := fun _ H Q => Q none H
def zvk (t : TE) : TO := fun σ H Q => t σ H fun x H1 => ∃ i, x = .int i ∧ Q (some i) H1
theorem zml {ns : List Int} : ∀ {us : List Value}, zca (ns.map V.int) us → IntsAre us ns := by
 induction ns with
 | nil => intro us r; rw [List.map_nil] at r; cases r; exact .nil
 | cons n ns ih =>
  intro us r
  rw [List.map_cons] at r
  cases r with
  | cons r1 r2 =>
   obtain ⟨t, e⟩ := r1
   subst e
   exact .cons n t (ih r2)
section
variable {X : Cx} {e : Expr} {te : TE} {lo hi : Option Expr} {tl th : TO} {pos p2 : Pos}
theorem zrR : PO X none zrQ := by
 intro pins s σ H Q I h
 rw [evalPart_none]
 exact wpAny_pure ⟨none, H, I, .none, h⟩
theorem zrS (h : PE X e te) : PO X (some e) (zvk te) := by
 intro pins s σ H Q I hw
 rw [evalPart_some]
 refine thn (h pins s σ H _ I hw) fun u s1 ⟨x, H1, I1, r1, q1⟩ => ?_
 obtain ⟨i, rfl, q⟩ := q1
 obtain ⟨t, rfl⟩ := r1
 exact ⟨some i, H1, I1, .int i t, q⟩
def SlR (X : Cx) (r : V → Option Int → Option Int → Hp → VK → Prop) : Prop :=
 ∀ (pins : List (Addr × Obj)) (s : Shared) (σ : St) (H : Hp) (x : V) (v vl vu : Value) (lo hi : Option Int) (sl : Addr) (Q : VK), Inv X pins σ H s → zcb x v → s.heap.IsSliceOf sl vl vu .none → IsPart vl lo → IsPart vu hi → r x lo hi H Q →
  ∃ T id, typeLookup (.type T) "__getitem__" = pure (some (.builtin id)) ∧ s.TypeIs v T ∧ wpAny (model X.prog X.w) X.A (getItem v (.ref sl)) (EP X pins σ Q) X.xe s
theorem SlR.or {r r' : V → Option Int → Option Int → Hp → VK → Prop} (h : SlR X r) (h' : SlR X r') : SlR X (fun x lo hi H Q => r x lo hi H Q ∨ r' x lo hi H Q) := by
 intro pins s σ H x v vl vu lo hi sl Q I rx hs pl pu q
 rcases q with q | q
 ·exact h pins s σ H x v vl vu lo hi sl Q I rx hs pl pu q
 ·exact h' pins s σ H x v vl vu lo hi sl Q I rx hs pl pu q
def tSl (r : V → Option Int → Option Int → Hp → VK → Prop) (te : TE) (tl th : TO) : TE := fun σ H Q => te σ H fun x H1 => tl σ H1 fun l H2 => th σ H2 fun u H3 => r x l u H3 Q
theorem zpj {r : V → Option Int → Option Int → Hp → VK → Prop} (hr : SlR X r) (he : PE X e te) (hl : PO X lo tl) (hu : PO X hi th) : PE X (.Subscript e (.Slice lo hi none p2) pos) (tSl r te tl th) := by
 intro pins s σ H Q I h
 refine Subscript_ (thn (he pins s σ H _ I h) fun v s1 ⟨x, H1, I1, r1, q1⟩ => ?_)
 refine wpAny_Slice (thn (hl pins s1 σ H1 _ I1 q1) fun vl s2 ⟨l, H2, I2, pl, q2⟩ => thn (hu pins s2 σ H2 _ I2 q2) fun vu s3 ⟨u, H3, I3, pu, q3⟩ => ?_)
 rw [evalPart_none]
 refine wpAny_pure ?_
 have I4 : Inv X pins σ H3 { s3 with heap := s3.heap.push { cls := .type "slice", data := .fields #[vl, vu, .none] } } := I3.kept (t' := s3.toks) fun b ob q => Heap.get?_push_of_some _ q
 obtain ⟨T, id, hT, ht, hg⟩ := hr pins { s3 with heap := s3.heap.push { cls := .type "slice", data := .fields #[vl, vu, .none] } } σ H3 x v vl vu l u s3.heap.objs.size Q I4 r1 (Heap.IsSliceOf.new ..) pl pu q3
 show wpAny (model X.prog X.w) X.A (subscriptTail e (.Slice lo hi none p2) v (.ref s3.heap.objs.size)) (EP X pins σ Q) X.xe { s3 with heap := s3.heap.push { cls := .type "slice", data := .fields #[vl, vu, .none] } }
 exact tail_any (ops := [.ref s3.heap.objs.size, v]) ht hT hg (by with_unfolding_all rfl)
def zo5 (xs : List V) (lo hi : Option Int) : List V := (xs.drop (HT.sIx xs.length 0 lo)).take (HT.sIx xs.length xs.length hi - HT.sIx xs.length 0 lo)
theorem zgD (xs : List V) (lo hi : Option Int) : (zo5 xs lo hi).length ≤ xs.length := by
 unfold zo5
 rw [List.length_take, List.length_drop]
 omega
def rSlT (K : PySem.W.Frag) : V → Option Int → Option Int → Hp → VK → Prop := fun x lo hi H Q => ∃ a xs, x = .ref a ∧ SqT K H a xs ∧
 ¬ (HT.sIx xs.length 0 lo = 0 ∧ HT.sIx xs.length xs.length hi = xs.length) ∧ ∀ p, H p = none → Q (.ref p) (upd H p (.tup (zo5 xs lo hi)))
theorem ztw : SlR X (rSlT X.K) := by
 intro pins s σ H x v vl vu lo hi sl Q I rx hs pl pu h
 obtain ⟨a, xs, rfl, hx, hw, q⟩ := h
 cases rx
 obtain ⟨its, r, ht, hz⟩ := I.tuple hx
 have hlen : its.toArray.size = xs.length := by rw [List.size_toArray]; exact r.length.symm
 refine ⟨"tuple", _, PyProof.Rows.slot_tuple_getitem.lookup, ht.typeIs, ?_⟩
 refine HT.getItem_tuple_cut ht hs pl pu (by rw [hlen]; exact hw) ?_ (by rw [hlen]; exact hz)
 rw [hlen]
 refine ⟨.ref s.heap.objs.size, _, I.laid (t' := s.toks) (o := .tup (zo5 xs lo hi)) (fun b ob q => Heap.get?_push_of_some _ q) (Nat.le_refl _) ?_, rfl, q _ (I.hok.fresh (Nat.le_refl _))⟩
 exact ⟨Nat.le_trans (zgD xs lo hi) hz, _, (r.drop (HT.sIx xs.length 0 lo)).take (HT.sIx xs.length xs.length hi - HT.sIx xs.length 0 lo), IsTup.new _ _⟩
def ztx (K : PySem.W.Frag) : R2 := fun x y H Q => ∃ a b xs ys, x = .ref a ∧ y = .ref b ∧ SqT K H a xs ∧ SqT K H b ys ∧ xs ≠ [] ∧ xs.length + ys.length ≤ sizeLine ∧
 (ys = [] → Q (.ref a) H) ∧ (ys ≠ [] → ∀ p, H p = none → Q (.ref p) (upd H p (.tup (xs ++ ys))))
theorem zca.nil_iff {xs : List V} {us : List Value} (r : zca xs us) : us = [] ↔ xs = [] := by
 cases r with
 | nil => simp
 | cons _ _ => simp
theorem zrT : OpR X (binaryOp .Add) (ztx X.K) := by
 intro pins s σ H x y v u Q I rx ry h
 obtain ⟨a, b, xs, ys, rfl, rfl, ha, hb, hx, hz, q1, q2⟩ := h
 cases rx
 cases ry
 obtain ⟨its, r1, p1, _⟩ := I.tuple ha
 obtain ⟨its2, r2, p2, _⟩ := I.tuple hb
 refine HT.cat_tup p1 p2 (fun z => hx (r1.nil_iff.mp z)) (fun z => ⟨.ref a, H, I, rfl, q1 (r2.nil_iff.mp z)⟩) (fun z => ?_) (by rw [← r1.length, ← r2.length]; exact hz)
 refine ⟨.ref s.heap.objs.size, _, I.laid (t' := s.toks) (o := .tup (xs ++ ys)) (fun b ob q => Heap.get?_push_of_some _ q) (Nat.le_refl _) ?_, rfl, q2 (fun w => z (r2.nil_iff.mpr w)) _ (I.hok.fresh (Nat.le_refl _))⟩
 exact ⟨by rw [List.length_append]; exact hz, _, r1.append r2, IsTup.new _ _⟩
end
end L2
namespace L2
open PySem PySem.Spec PyProof.Rows
def ixN (n : Nat) (i : Int) : Option Nat := if 0 ≤ i then (if i < n then some i.toNat else none) else if -(n : Int) ≤ i then some (i + n).toNat else none
def atI {α : Type} (xs : List α) (i : Int) : Option α := (ixN xs.length i).bind fun j => xs[j]?
theorem zrU {n : Nat} {i : Int} {j : Nat} (h : ixN n i = some j) : seqIndex? i n = some j ∧ j < n ∧ -(n : Int) ≤ i ∧ i < n := by
 unfold ixN at h
 by_cases h0 : 0 ≤ i
 ·rw [if_pos h0] at h
  by_cases h1 : i < n
  ·rw [if_pos h1] at h
   have e : i.toNat = j := Option.some.inj h
   exact ⟨by rw [seqIndex_of h0 h1, e], by omega, by omega, h1⟩
  ·rw [if_neg h1] at h; cases h
 ·rw [if_neg h0] at h
  by_cases h1 : -(n : Int) ≤ i
  ·rw [if_pos h1] at h
   have e : (i + n).toNat = j := Option.some.inj h
   exact ⟨by rw [seqIndex_neg (by omega) h1, e], by omega, h1, by omega⟩
  ·rw [if_neg h1] at h; cases h
theorem zmZ {α : Type} {xs : List α} {i : Int} {v : α} (h : atI xs i = some v) : ∃ j, seqIndex? i xs.length = some j ∧ xs[j]? = some v ∧ j < xs.length ∧ -(xs.length : Int) ≤ i ∧ i < xs.length := by
 unfold atI at h
 cases e : ixN xs.length i with
 | none => rw [e] at h; cases h
 | some j =>
  rw [e] at h
  obtain ⟨h1, h2, h3, h4⟩ := zrU e
  exact ⟨j, h1, h, h2, h3, h4⟩
theorem zrV {α : Type} {xs : List α} {j : Nat} {v : α} (h : xs[j]? = some v) : atI xs (j : Int) = some v := by
 have hj : j < xs.length := (List.getElem?_eq_some_iff.mp h).1
 have e : ixN xs.length (j : Int) = some j := by
  unfold ixN
  rw [if_pos (by omega), if_pos (by omega)]; simp
 unfold atI; rw [e]; exact h
theorem zpk {α : Type} (xs : List α) (v : α) : atI (xs ++ [v]) (-1) = some v := by
 have hl : (xs ++ [v]).length = xs.length + 1 := by simp
 have e : ixN (xs ++ [v]).length (-1) = some xs.length := by
  unfold ixN
  rw [hl, if_neg (by decide), if_pos (by omega)]
  congr 1
  omega
 unfold atI
 rw [e]
 show (xs ++ [v])[xs.length]? = some v
 simp
def zm0 (b : Expr) : Prop := ∀ o i, subscripted b false o i = operate [o, i] (getItem o i)
def IxR (X : Cx) (r : R2) : Prop :=
 ∀ (value slice : Expr) (pins : List (Addr × Obj)) (s : Shared) (σ : St) (H : Hp) (x y : V) (v u : Value) (Q : VK), Inv X pins σ H s → zcb x v → zcb y u → r x y H Q →
  subscripted slice false v u = operate [v, u] (getItem v u) → wpAny (model X.prog X.w) X.A (subscriptTail value slice v u) (EP X pins σ Q) X.xe s
def MtR (X : Cx) (id : String) (r : V → List V → Hp → VK → Prop) : Prop :=
 ∀ (pins : List (Addr × Obj)) (s : Shared) (σ : St) (H : Hp) (x : V) (xs : List V) (v : Value) (us : List Value) (Q : VK), Inv X pins σ H s → zcb x v → zca xs us → r x xs H Q →
  wpAny (model X.prog X.w) X.A (call (.builtin id) (v :: us)) (EP X pins σ Q) X.xe s
section
variable {X : Cx} {a b : Expr} {ta tb : TE} {pos : Pos}
theorem IxR.or {r r' : R2} (h : IxR X r) (h' : IxR X r') : IxR X (fun x y H Q => r x y H Q ∨ r' x y H Q) := by
 intro value slice pins s σ H x y v u Q I rx ry q hs
 rcases q with q | q
 ·exact h value slice pins s σ H x y v u Q I rx ry q hs
 ·exact h' value slice pins s σ H x y v u Q I rx ry q hs
theorem zvl {r : R2} (hr : IxR X r) (ha : PE X a ta) (hb : PE X b tb) (hs : zm0 b) : PE X (.Subscript a b pos) (tOp r ta tb) := by
 intro pins s σ H Q I h
 exact Subscript_ (zva ha hb I h fun v u s2 x y H2 I2 rx ry q => hr a b pins s2 σ H2 x y v u Q I2 rx ry q (hs _ _))
def rIxL (K : PySem.W.Frag) : R2 := fun x y H Q => ∃ p xs i v, x = .ref p ∧ y = .int i ∧ SqL K H p xs ∧ atI xs i = some v ∧ Q v H
def rIxT (K : PySem.W.Frag) : R2 := fun x y H Q => ∃ p xs i v, x = .ref p ∧ y = .int i ∧ SqT K H p xs ∧ atI xs i = some v ∧ Q v H
theorem zrW : IxR X (rIxL X.K) := by
 intro value slice pins s σ H x y v u Q I rx ry h hs
 obtain ⟨p, xs, i, z, rfl, rfl, hq, he, q⟩ := h
 cases rx
 obtain ⟨t, rfl⟩ := ry
 obtain ⟨its, r, pl, hz⟩ := I.list hq
 obtain ⟨j, h1, h2, h3, h4, h5⟩ := zmZ he
 obtain ⟨w, ew, rw'⟩ := r.get h2
 have hl := r.length
 have hn := zkQ
 have fin : EP X pins σ Q w s := ⟨z, H, I, rw', q⟩
 by_cases h0 : 0 ≤ i
 ·have hj : i.toNat = j := by
   rw [seqIndex_of h0 h5] at h1
   exact Option.some.inj h1
  exact item_listR pl.isList h0 (by omega) (by rw [hj]; simpa using ew) fin hs
 ·have hj : (i + (its.toArray.size : Int)).toNat = j := by
   rw [seqIndex_neg (by omega) h4] at h1
   rw [List.size_toArray, ← hl]
   exact Option.some.inj h1
  exact subscriptTail_builtinR (x := w) pl.isList.typeIs slot_list_getitem.lookup
   (wpAny_getItem_list_neg (Q := fun r s' => r = w ∧ EP X pins σ Q r s') pl.isList (by omega) (by rw [List.size_toArray] <;> omega) (by omega) (by rw [hj]; simpa using ew) ⟨rfl, fin⟩) hs
theorem zty : IxR X (rIxT X.K) := by
 intro value slice pins s σ H x y v u Q I rx ry h hs
 obtain ⟨p, xs, i, z, rfl, rfl, hq, he, q⟩ := h
 cases rx
 obtain ⟨t, rfl⟩ := ry
 obtain ⟨its, r, pl, hz⟩ := I.tuple hq
 obtain ⟨j, h1, h2, h3, h4, h5⟩ := zmZ he
 obtain ⟨w, ew, rw'⟩ := r.get h2
 have hl := r.length
 have hn := zkQ
 have fin : EP X pins σ Q w s := ⟨z, H, I, rw', q⟩
 exact subscriptTail_builtinR (x := w) pl.typeIs slot_tuple_getitem.lookup
  (getItem_tuple (j := j) (Q := fun r s' => r = w ∧ EP X pins σ Q r s') pl (by omega) (by omega) (by rw [List.size_toArray, ← hl]; exact h1) (by simpa using ew) ⟨rfl, fin⟩) hs
theorem zje (lo hi : Option Int) (n : Nat) : (sliceBounds lo hi none n).1 = ((HT.sIx n 0 lo : Nat) : Int) ∧ (sliceBounds lo hi none n).2.1 = ((HT.sIx n n hi : Nat) : Int) ∧ (sliceBounds lo hi none n).2.2 = 1 := by
 refine ⟨?_, ?_, rfl⟩
 ·cases lo with
  | none => simp [sliceBounds, HT.sIx]
  | some i =>
   simp only [sliceBounds, HT.sIx, Option.getD_none, show (1 : Int) > 0 by decide, if_true]
   by_cases h : i < 0
   ·simp only [h, if_true] <;> omega
   ·simp only [h, if_false] <;> omega
 ·cases hi with
  | none => simp [sliceBounds, HT.sIx]
  | some i =>
   simp only [sliceBounds, HT.sIx, Option.getD_none, show (1 : Int) > 0 by decide, if_true]
   by_cases h : i < 0
   ·simp only [h, if_true] <;> omega
   ·simp only [h, if_false] <;> omega
theorem ziw (its : List Value) (lo hi : Option Int) : slicePick its.toArray lo hi none = ((its.drop (HT.sIx its.length 0 lo)).take (HT.sIx its.length its.length hi - HT.sIx its.length 0 lo)).toArray := by
 obtain ⟨h1, h2, h3⟩ := zje lo hi its.toArray.size
 unfold slicePick
 rw [h1, h2, h3]
 simp only [sliceRange_one, pick_run, List.size_toArray] <;> rfl
def rSlL (K : PySem.W.Frag) : V → Option Int → Option Int → Hp → VK → Prop := fun x lo hi H Q => ∃ a xs, x = .ref a ∧ SqL K H a xs ∧ ∀ p, H p = none → Q (.ref p) (upd H p (.lst (zo5 xs lo hi)))
theorem zrX : SlR X (rSlL X.K) := by
 intro pins s σ H x v vl vu lo hi sl Q I rx hs pl pu h
 obtain ⟨a, xs, rfl, hx, q⟩ := h
 cases rx
 obtain ⟨its, r, ht, hz⟩ := I.list hx
 have hlen := r.length
 refine ⟨"list", _, slot_list_getitem.lookup, ht.isList.typeIs, ?_⟩
 refine wpAny_getItem_list_slice ht.isList hs pl pu .none (by simp) ?_ (by rw [List.size_toArray] <;> omega)
 rw [ziw, ← hlen]
 refine ⟨.ref s.heap.objs.size, _, I.laid (t' := s.toks) (o := .lst (zo5 xs lo hi)) (fun b ob q => Heap.get?_push_of_some _ q) (Nat.le_refl _) ?_, rfl, q _ (I.hok.fresh (Nat.le_refl _))⟩
 exact ⟨Nat.le_trans (zgD xs lo hi) hz, _, 0, (r.drop (HT.sIx xs.length 0 lo)).take (HT.sIx xs.length xs.length hi - HT.sIx xs.length 0 lo), Heap.get?_push_size _ rfl⟩
def zko : V → Bool
 | .non => true
 | .bl _ => true
 | .int _ => true
 | .str _ => true
 | _ => false
def eqV : V → V → Bool
 | .non, .non => true
 | .bl a, .bl b => a == b
 | .bl a, .int b => (if a then 1 else 0) == b
 | .int a, .bl b => a == (if b then 1 else 0)
 | .int a, .int b => a == b
 | .str a, .str b => a == b
 | _, _ => false
theorem ztz {A : Around} {s : Shared} {y x : V} {u v : Value} (ry : zcb y u) (rx : zcb x v) (fy : zko y = true) (fx : zko x = true) : SeqAt.EqAt A s u v (eqV y x) := by
 cases y with
 | non =>
  cases ry
  cases x with
  | non => cases rx; exact SeqAt.EqAt.same _
  | bl b => cases rx; exact SeqAt.EqAt.none_bool b
  | int b => obtain ⟨t, rfl⟩ := rx; exact SeqAt.EqAt.none_int b t
  | str b => obtain ⟨t, rfl⟩ := rx; exact SeqAt.EqAt.none_str b t
  | _ => exact absurd (show false = true from fx) Bool.false_ne_true
 | bl a =>
  cases ry
  cases x with
  | non => cases rx; exact SeqAt.EqAt.bool_none a
  | bl b => cases rx; exact SeqAt.EqAt.bool_bool a b
  | int b => obtain ⟨t, rfl⟩ := rx; exact SeqAt.EqAt.bool_int a b t
  | str b => obtain ⟨t, rfl⟩ := rx; exact SeqAt.EqAt.bool_str a b t
  | _ => exact absurd (show false = true from fx) Bool.false_ne_true
 | int a =>
  obtain ⟨t', rfl⟩ := ry
  cases x with
  | non => cases rx; exact SeqAt.EqAt.int_none a t'
  | bl b => cases rx; exact SeqAt.EqAt.int_bool a t' b
  | int b => obtain ⟨t, rfl⟩ := rx; exact SeqAt.EqAt.int_int a t' b t
  | str b => obtain ⟨t, rfl⟩ := rx; exact SeqAt.EqAt.int_str a t' b t
  | _ => exact absurd (show false = true from fx) Bool.false_ne_true
 | str a =>
  obtain ⟨t', rfl⟩ := ry
  cases x with
  | non => cases rx; exact SeqAt.EqAt.str_none a t'
  | bl b => cases rx; exact SeqAt.EqAt.str_bool a t' b
  | int b => obtain ⟨t, rfl⟩ := rx; exact SeqAt.EqAt.str_int a t' b t
  | str b => obtain ⟨t, rfl⟩ := rx; exact SeqAt.EqAt.str_str a t' b t
  | _ => exact absurd (show false = true from fx) Bool.false_ne_true
 | _ => exact absurd (show false = true from fy) Bool.false_ne_true
theorem zjf : zde X (.builtin "len") (fun xs H Q => ∃ p ys, xs = [.ref p] ∧ (SqL X.K H p ys ∨ SqT X.K H p ys) ∧ Q (.int ys.length) H) := by
 intro pins s σ H xs us Q I r h
 obtain ⟨p, ys, rfl, hq, q⟩ := h
 obtain ⟨u, rfl, rx⟩ := ziv r
 cases rx
 have hn := zkQ
 rcases hq with hq | hq
 ·obtain ⟨its, r', pl, hz⟩ := I.list hq
  have hlen := r'.length
  exact Calls.call_len_list pl.isList (by simp only [List.size_toArray] <;> omega) ⟨.int ys.length, H, I.tok _, ⟨s.toks + 1, by rw [List.size_toArray, hlen]⟩, q⟩
 ·obtain ⟨its, r', pl, hz⟩ := I.tuple hq
  have hlen := r'.length
  exact len_tuple pl (by simp only [List.size_toArray] <;> omega) ⟨.int ys.length, H, I.tok _, ⟨s.toks + 1, by rw [List.size_toArray, hlen]⟩, q⟩
theorem zjg : zde X (.builtin "len") (fun xs H Q => ∃ z, xs = [.str z] ∧ z.length ≤ sizeLine ∧ Q (.int z.length) H) := by
 intro pins s σ H xs us Q I r h
 obtain ⟨z, rfl, hz, q⟩ := h
 obtain ⟨u, rfl, t, rfl⟩ := ziv r
 have hn := zkQ
 exact len_str (by omega) ⟨.int z.length, H, I.tok _, ⟨_, rfl⟩, q⟩
theorem zde.or {f : Value} {r r' : List V → Hp → VK → Prop} (h : zde X f r) (h' : zde X f r') : zde X f (fun xs H Q => r xs H Q ∨ r' xs H Q) := by
 intro pins s σ H xs us Q I rs q
 rcases q with q | q
 ·exact h pins s σ H xs us Q I rs q
 ·exact h' pins s σ H xs us Q I rs q
theorem zjh : zde X (.type "list") (fun xs H Q => ∃ p ys, xs = [.ref p] ∧ (SqL X.K H p ys ∨ SqT X.K H p ys) ∧ ∀ l, H l = none → Q (.ref l) (upd H l (.lst ys))) := by
 intro pins s σ H xs us Q I r h
 obtain ⟨p, ys, rfl, hq, q⟩ := h
 obtain ⟨u, rfl, rx⟩ := ziv r
 cases rx
 have fin : ∀ (its : List Value), zca ys its → ys.length ≤ sizeLine → ∀ (h' : Heap) (c' : Nat), (∀ b o', s.heap.get? b = some o' → h'.get? b = some o') →
   h'.get? s.heap.objs.size = some { cls := .type "list", dict := none, data := .seq its.toArray c', slots := #[] } → EP X pins σ Q (.ref s.heap.objs.size) { s with heap := h' } := fun its r' hz h' c' kp e =>
  ⟨.ref s.heap.objs.size, _, I.laid (t' := s.toks) kp (Nat.le_refl _) (show zd0 X.prog X.w _ h' _ (.lst ys) from ⟨hz, its, c', r', e⟩), rfl, q _ (I.hok.fresh (Nat.le_refl _))⟩
 rcases hq with hq | hq
 ·obtain ⟨its, r', pl, hz⟩ := I.list hq
  have hlen := r'.length
  obtain ⟨o, ho, hc, n, hd⟩ := pl.isList
  exact call_list_seq p (.inl rfl) ho hc hd (fun h' c' kp e => fin its r' hz h' c' kp e) (by simp only [List.size_toArray] <;> omega)
 ·obtain ⟨its, r', pl, hz⟩ := I.tuple hq
  have hlen := r'.length
  obtain ⟨o, ho, hc, n, hd⟩ := pl
  exact call_list_seq p (.inr rfl) ho hc hd (fun h' c' kp e => fin its r' hz h' c' kp e) (by simp only [List.size_toArray] <;> omega)
theorem zix : zde X (.type "tuple") (fun xs H Q => ∃ p ys, xs = [.ref p] ∧ ((SqL X.K H p ys ∧ ∀ l, H l = none → Q (.ref l) (upd H l (.tup ys))) ∨ (SqT X.K H p ys ∧ Q (.ref p) H))) := by
 intro pins s σ H xs us Q I r h
 obtain ⟨p, ys, rfl, h⟩ := h
 obtain ⟨u, rfl, rx⟩ := ziv r
 cases rx
 rcases h with ⟨hq, q⟩ | ⟨hq, q⟩
 ·obtain ⟨its, r', pl, hz⟩ := I.list hq
  have hlen := r'.length
  refine call_tuple_list pl.isList (fun h' kp => ?_) (by simp only [List.size_toArray] <;> omega)
  have I1 : Inv X pins σ H { s with heap := h' } := I.kept (t' := s.toks) kp
  have I2 : Inv X pins σ (upd H h'.objs.size (.tup ys)) { s with heap := h'.push { cls := .type "tuple", data := .seq its.toArray } } :=
   I1.laid (t' := s.toks) (fun b o e => Heap.get?_push_of_some _ e) (Nat.le_refl _) (show zd0 X.prog X.w _ _ _ (.tup ys) from ⟨hz, its, r', IsTup.new _ _⟩)
  exact ⟨.ref h'.objs.size, _, I2, rfl, q _ (I1.hok.fresh (Nat.le_refl _))⟩
 ·obtain ⟨its, r', pl, hz⟩ := I.tuple hq
  exact call_tuple_same pl ⟨.ref p, H, I, rfl, q⟩
def tyV (K : PySem.W.Frag) (T : String) (x : V) (H : Hp) : Prop := match x with
 | .str _ => T = "str"
 | .int _ => T = "int"
 | .ref p => (T = "list" ∧ ∃ xs, SqL K H p xs) ∨ (T = "tuple" ∧ ∃ o, K.lookup p = some o ∧ o.cls = .type "tuple" ∧ o.dict = none) ∨
   (T = "dict" ∧ ((∃ kvs, H p = some (.dK kvs)) ∨ ∃ kvs, H p = some (.dT kvs))) ∨ (T = "set" ∧ ∃ S n, H p = some (.set S n))
 | _ => False
theorem ztA {pins : List (Addr × Obj)} {σ : St} {H : Hp} {s : Shared} {T : String} {x : V} {v : Value} (I : Inv X pins σ H s) (r : zcb x v) (ty : tyV X.K T x H) :
  s.TypeIs v T ∧ ∀ a, v = .ref a → ∃ ob, s.heap.get? a = some ob ∧ ob.dict = none := by
 cases x with
 | str z =>
  obtain ⟨t, rfl⟩ := r
  cases (show T = "str" from ty)
  exact ⟨typeIs_str s z t, fun _ e => nomatch e⟩
 | int i =>
  obtain ⟨t, rfl⟩ := r
  cases (show T = "int" from ty)
  exact ⟨typeIs_int s i t, fun _ e => nomatch e⟩
 | ref p =>
  cases r
  rcases ty with ⟨rfl, xs, hq⟩ | ⟨rfl, o, hk, hc, hd⟩ | ⟨rfl, hk⟩ | ⟨rfl, S, n, hk⟩
  ·obtain ⟨its, _, pl, _⟩ := I.list hq
   refine ⟨pl.isList.typeIs, fun a e => ?_⟩
   cases e
   obtain ⟨o, n, e, c, hd, _⟩ := pl
   exact ⟨o, e, hd⟩
  ·refine ⟨⟨o, I.kIn p o hk, hc⟩, fun a e => ?_⟩
   cases e
   exact ⟨o, I.kIn _ o hk, hd⟩
  ·have z : ∃ o, s.heap.get? p = some o ∧ o.ExactDict := by
    rcases hk with ⟨kvs, hk⟩ | ⟨kvs, hk⟩
    ·obtain ⟨_, _, _, _, o, _, _, e, ex, _⟩ := I.hok p _ hk
     exact ⟨o, e, ex⟩
    ·obtain ⟨_, _, _, _, o, _, _, e, ex, _⟩ := I.hok p _ hk
     exact ⟨o, e, ex⟩
   obtain ⟨o, e, ex⟩ := z
   refine ⟨⟨o, e, ex.1⟩, fun a e2 => ?_⟩
   cases e2
   exact ⟨o, e, ex.2.1⟩
  ·obtain ⟨o, _, _, _, e, ex, _⟩ := I.hok p _ hk
   refine ⟨⟨o, e, ex.1⟩, fun a e2 => ?_⟩
   cases e2
   exact ⟨o, e, ex.2.1⟩
 | _ => exact False.elim ty
def tBM (K : PySem.W.Frag) (T : String) (r : V → List V → Hp → VK → Prop) (to : TE) (t : TA) : TE := fun σ H Q => to σ H fun x H1 => tyV K T x H1 ∧ t σ H1 fun xs H2 => r x xs H2 Q
variable {o e : Expr} {es : List Expr} {to : TE} {t : TA} {name : Str} {apos cpos : Pos} {T id : String} {r : V → List V → Hp → VK → Prop}
theorem zvm (pa : PlainAttrs T) (slot : Slot T name id) (hty : typeOf (.builtin id) = pure (.type "method_descriptor")) (hm : MtR X id r) (ho : PE X o to) (ha : PA X (e :: es) t)
  (hbase : attributeBase o name X.env (eval o X.env) = eval o X.env := by rfl)
  (hfew : ((backTo cpos (starEach (e :: es) X.env)).all (fun x => !x.1) && (backToKw cpos (keywordEach [] X.env)).all (fun x => x.1.isSome)
   && decide ((e :: es).length + ([] : List Keyword).length + (if ([] : List Keyword).isEmpty then 0 else 1) < 30)) = true := by rfl)
  (hline : (apos.endLine == cpos.line) = true := by rfl) (hs : starEach (e :: es) X.env = (false, eval e X.env) :: starEach es X.env := by rfl) (hplain : (backTo cpos (starEach es X.env)).any (·.1) = false := by rfl) :
  PE X (.Call (.Attribute o name apos) (e :: es) [] cpos) (tBM X.K T r to t) := by
 intro pins s σ H Q I h
 refine wpAny_Call_method_late hbase hfew hline rfl (thn (ho pins s σ H _ I h) fun v s1 ⟨x, H1, I1, r1, ty, q1⟩ => ?_)
 obtain ⟨h1, h2⟩ := ztA I1 r1 ty
 refine ⟨T, id, pa, slot, hty, h1, h2, ?_⟩
 have hA := ha cpos pins s1 σ H1 _ I1 q1
 rw [hs] at hA ⊢
 refine Calls.callWith_builtin (by show (false || (backTo cpos (starEach es X.env)).any (·.1)) = false; rw [hplain] <;> rfl) (Calls.evalArgs_plain ?_)
 exact thn hA fun us s2 ⟨vs, H2, I2, r2, q2⟩ => hm pins s2 σ H2 x vs v us Q I2 r1 r2 q2
end
end L2
namespace L2
open PySem PySem.Spec PyProof.Rows
def MtM (X : Cx) (id : String) (r : V → List V → Hp → VK → Prop) : Prop :=
 ∀ (pins : List (Addr × Obj)) (s : Shared) (σ : St) (H : Hp) (x : V) (xs : List V) (v : Value) (us : List Value) (Q : VK), Inv X pins σ H s → zcb x v → zca xs us → r x xs H Q →
  wpAny (model X.prog X.w) X.A (call (.builtin id) (v :: us)) (EP X pins σ Q) X.xe s
theorem zca.one : ∀ {x : V} {us : List Value}, zca [x] us → ∃ u, us = [u] ∧ zcb x u
 | _, _, .cons r .nil => ⟨_, rfl, r⟩
section
variable {X : Cx} {pins : List (Addr × Obj)} {σ : St} {H : Hp} {s : Shared} {l b : Addr} {xs ys zs : List V}
theorem Inv.lset {its its' : List Value} {n : Nat} {f : Array Value → Array Value} {t' : Nat} (I : Inv X pins σ H s) (hH : H l = some (.lst xs))
  (e : s.heap.get? l = some { cls := .type "list", data := .seq its.toArray n }) (hf : f its.toArray = its'.toArray) (hv : zca ys its') (hz : ys.length ≤ sizeLine) :
  Inv X pins σ (upd H l (.lst ys)) { s with heap := s.heap.update l (Obj.mapSeq f), toks := t' } := by
 have q := PySem.IsL.update e f
 rw [hf] at q
 refine I.write (x := l) (e := l) (by rw [hH]; exact trivial) (.inl rfl) (fun b' u hb hu => (Heap.get?_update_other s.heap (Obj.mapSeq f) (Ne.symm hb)).trans hu) ⟨_, q⟩ ?_
 exact ⟨hz, its', _, hv, q⟩
theorem Inv.lnew {its : List Value} {t' : Nat} (I : Inv X pins σ H s) (hv : zca ys its) (hz : ys.length ≤ sizeLine) :
  Inv X pins σ (upd H s.heap.objs.size (.lst ys)) { s with heap := s.heap.push { cls := .type "list", data := .seq its.toArray }, toks := t' } :=
 I.laid (fun _ _ q => Heap.get?_push_of_some _ q) (Nat.le_refl _) ⟨hz, its, 0, hv, Heap.get?_push_size _ rfl⟩
theorem Inv.fresh (I : Inv X pins σ H s) : H s.heap.objs.size = none := I.hok.fresh (Nat.le_refl _)
theorem Inv.lstM (I : Inv X pins σ H s) (hH : H l = some (.lst xs)) : xs.length ≤ sizeLine ∧ ∃ (its : List Value) (n : Nat), zca xs its ∧ xs.length = its.length ∧ s.heap.get? l = some { cls := .type "list", data := .seq its.toArray n } := by
 obtain ⟨z, its, n, r, e⟩ := I.hok l _ hH
 exact ⟨z, its, n, r, r.length, e⟩
end
section
variable {X : Cx}
def zrY : V → List V → Hp → VK → Prop := fun x vs H Q => ∃ l xs y, x = .ref l ∧ vs = [y] ∧ H l = some (.lst xs) ∧ xs.length < sizeLine ∧ Q .non (upd H l (.lst (xs ++ [y])))
theorem zm1 : MtM X "list.append" zrY := by
 intro pins s σ H x vs v us Q I rx rv h
 obtain ⟨l, xs, y, rfl, rfl, hH, hz, q⟩ := h
 cases rx
 obtain ⟨u, rfl, ru⟩ := rv.one
 obtain ⟨z, its, n, r, hl, e⟩ := I.lstM hH
 refine call_meets F.slot_list_append ⟨_, e, rfl⟩ F.entry_list_append (F.args_list_append_2 _ _) (PySem.list_append l its.toArray n u (by rw [List.size_toArray]; omega)) ⟨e, ?_⟩
 refine ⟨.non, _, I.lset (its' := its ++ [u]) hH e (by simp) (r.append (.cons ru .nil)) ?_, rfl, q⟩
 rw [List.length_append, List.length_singleton]
 omega
end
section
variable {prog : Program} {w : World} {A : Around} {E : Value → Shared → Prop} {s : Shared}
end
section
variable {X : Cx}
end
end L2
namespace Att
open PySem PySem.W PySem.Calls PyProof.Rows
theorem zgE {P : Params} {h : Heap} : ∀ (ns : List Int) (vs : List Value), WellAll P h vs (ns.map WData.int) → IntsAre vs ns := by
 intro ns
 induction ns with
 | nil =>
  intro vs w
  rw [List.map_nil] at w
  cases w
  exact .nil
 | cons n ns ih =>
  intro vs w
  rw [List.map_cons] at w
  cases w with
  | cons a b =>
   cases a
   exact .cons _ _ (ih _ b)
theorem zm2 {l : OpenLaw} {n : Nat} (hn : l.most = some n) {P : Params} {h : Heap} {args : List WData} {vals : List Value}
  (hpre : l.row.toRowW.claim.pre args = true) (hwl : WellAll P h vals args) :
  ∃ a vs ns, vals = [Value.ref a] ∧ args = [WData.list (ns.map WData.int)] ∧ h.get? a = some { cls := .type "list", data := .seq vs.toArray } ∧ IntsAre vs ns ∧ ns.length ≤ n := by
 have hsh : WShape.hasAll [] args [.list .int] = true := (pre_splitW hpre).1
 have hc : l.pre.holds [] { args := args } = true := (pre_splitW hpre).2
 obtain ⟨d, r, rfl, h1, h2⟩ := hasAllW_cons hsh
 obtain rfl := hasAllW_nil h2
 obtain ⟨xs, rfl, h3⟩ := hasW_list h1
 obtain ⟨ns, rfl⟩ := items_int h3
 have hlen : ns.length ≤ n := by
  unfold OpenLaw.pre at hc
  have h4 : (WTm.not (.lt (.lit (.int (n : Int))) (.len (.arg 0)))).holds [] { args := [.list (ns.map .int)] } = true := by
   have h4 := (holds_andW hc).1
   rw [hn] at h4
   exact h4
  have h5 := condW_of h4 (w_not (w_lt w_lit (w_len_list (w_arg rfl))))
  rw [List.length_map] at h5
  refine Nat.le_of_not_lt fun q => ?_
  have q' : (n : Int) < ((ns.length : Nat) : Int) := by omega
  first
   | (rw [decide_eq_true q'] at h5; exact absurd h5 (by decide))
   | (simp at h5; omega)
 cases hwl with
 | cons w1 w2 =>
  cases w2
  cases w1 with
  | list ho hall => exact ⟨_, _, ns, rfl, rfl, ho, zgE ns _ hall, hlen⟩
theorem zm3 (l : OpenLaw) (args : List WData) : l.row.toRowW.claim.post args (.bool true) args = true :=
 postW_of (r := l.row.toRowW) (X := (true == true))
  (show WShape.has [] (.bool true) .bool = true by first | rfl | decide | simp [WShape.has, WShape.arms, WShape.armsAll])
  (show (WTm.eq .res (.lit (.bool true))).value [] { args := args, res := some (.bool true), after := args } = some (.bool (true == true)) from w_eq_bool (w_res rfl) w_lit) rfl
theorem attach_call {l : OpenLaw} {n : Nat} {q : Program} {loose : List Str} {XP : (Str → Option Value) → Heap → Prop} {YP : World → Heap → Prop} {d : DefRec}
  (hn : l.most = some n) (hdf : d.params.defaults = [])
  (call : ∀ (w : World) (s₀ s₁ : Shared) (mg mb : Str → Option Value) (fa : Addr) (o : Obj) (pm cd doc : Value) (a : Addr) (vs : List Value) (ns : List Int),
   Ground q loose [] XP w s₀ mg mb s₁.heap → YP w s₁.heap →
   s₁.heap.get? fa = some o → o.data = .func (docDef d.name d.params d.body d.scope pm cd doc) → s₁.heap.CodeRec cd d.name → mg d.name = some (.ref fa) →
   s₁.heap.get? a = some { cls := .type "list", data := .seq vs.toArray } → IntsAre vs ns → ns.length ≤ n → s₁.gens = #[] →
   codeAny (model l.prog w) callerA (.call (.ref fa) ⟨[.ref a], []⟩) (fun r s' => r = .ok (.ret (.bool true)) ∧ OldK s₁.heap s'.heap ∧ s'.os = s₁.os ∧ AllBare s'.gens) s₁) :
  WalkO q loose XP YP l.row.toRowW d [] (fun f vs => PySem.call f vs) := by
 intro w s₀ s₁ mg mb G Y fa o pm cd doc dV kV ho hd hcd hD hmg hg args vals as hpre hlay hrd hwl hlo
 obtain rfl : dV = .none := Dflts.none hD hdf
 obtain rfl : kV = .none := Dflts.noKw hD
 obtain ⟨a, vs, ns, rfl, rfl, hobj, hints, hlen⟩ := zm2 hn hpre hwl
 refine enter_call (codeAny_mono (call w s₀ s₁ mg mb fa o pm cd doc a vs ns G Y ho (fd_plain hd) hcd hmg hobj hints hlen hg) fun r s' hq => ?_)
 obtain ⟨rfl, h2, h3, h4⟩ := hq
 exact ⟨.inl ⟨.bool true, .bool true, [], rfl, fun _ => rfl, .bool true, zm3 l _, fun _ => ⟨List.Pairwise.nil, fun _ hm => (nomatch hm)⟩⟩, h2, h3, h4⟩
section
variable {prog : Program} {w : World} {A : Around} {E : Value → Shared → Prop} {s : Shared} {K : Frag}
end
end Att
namespace L2
open PySem PySem.Spec PyProof.Rows
theorem zji : ∀ {vs : List Value} {ns : List Int}, IntsAre vs ns → zca (ns.map V.int) vs
 | _, _, .nil => .nil
 | _, _, .cons n t h => .cons ⟨t, rfl⟩ (zji h)
def zvn (H : Hp) : Prop := ∀ b, H b = none ∨ ∃ o xs, H b = some (.frz o (.lst xs))
theorem zpl {P : Program} {w : World} {K : PySem.W.Frag} {mg mb : Str → Option Value} {CX : CXT} {k : Nat} {fa a : Addr} {fd : FuncData} {x : Str} {sp : Sp} {s₁ : Shared} {vs : List Value} {ns : List Int}
  (KX : K.In s₁.heap) (hns : s₁.heap.Ns mainGlobals mg) (hb : s₁.heap.Ns builtinsNs mb) (hbb : ∀ x : Str, x ≠ "__name__" → mb x = bootBuiltins x) (hlim : s₁.heap.NoLimit) (hg : s₁.gens = #[])
  (ha : s₁.heap.get? a = some { cls := .type "list", data := .seq vs.toArray }) (hi : IntsAre vs ns) (hl : ns.length ≤ sizeLine) (hr : zhw k callerA)
  (F : ∀ base : Heap, K.In base → base.Ns mainGlobals mg → zhN P w K mg base CX k fa fd [x] sp) (hbind : ∀ (s : Shared) (u : Value), BindsTo s fd ⟨[u], []⟩ [(x, u)])
  (hsp : ∀ H : Hp, zvn H → SqL K H a (ns.map V.int) → sp [.ref a] H (fun v _ => v = .bl true) fun _ _ _ => False)
  (hCX : ∀ H e s', CX [] H s₁ (fun _ _ _ => False) e s' → False) :
  codeAny (model P w) callerA (.call (.ref fa) ⟨[.ref a], []⟩) (fun r s' => r = .ok (.ret (.bool true)) ∧ OldK s₁.heap s'.heap ∧ s'.os = s₁.os ∧ AllBare s'.gens) s₁ := by
 have rv := zji hi
 have lenV := hi.length
 have core : ∀ H : Hp, zvn H → SqL K H a (ns.map V.int) → HOk P w H s₁.heap → (∀ b, H b ≠ none → b = a) → (H a ≠ none → K.lookup a = none) →
   codeAny (model P w) callerA (.call (.ref fa) ⟨[.ref a], []⟩) (fun r s' => r = .ok (.ret (.bool true)) ∧ OldK s₁.heap s'.heap ∧ s'.os = s₁.os ∧ AllBare s'.gens) s₁ := by
  intro H hO hS hok hA hK
  have base_of : ∀ {b : Addr} {o : Obj}, s₁.heap.get? b = some o → H b = none → (zo9 s₁.heap H).get? b = some o := fun e n => zpa e n
  have noA : ∀ {b : Addr} {o : Obj} {es : Array DictEntry} {ep : Nat}, s₁.heap.get? b = some o → o.data = .dict es ep → H b = none := fun {b o es ep} e d => by
   cases q : H b with
   | none => rfl
   | some u =>
    have e' : b = a := hA b (by rw [q]; simp)
    subst e'
    rw [ha] at e; cases e
    have d' : Data.seq vs.toArray _ = Data.dict es ep := d
    cases d'
  have nsK : ∀ {b : Addr} {m : Str → Option Value}, s₁.heap.Ns b m → (zo9 s₁.heap H).Ns b m := fun {b m} ⟨o, es, ep, e, d, r⟩ => ⟨o, es, ep, base_of e (noA e d), d, r⟩
  have hKb : K.In (zo9 s₁.heap H) := fun b o e => base_of (KX b o e) (by
   cases q : H b with
   | none => rfl
   | some u =>
    have e' : b = a := hA b (by rw [q]; simp)
    subst e'
    rw [hK (by rw [q]; simp)] at e; cases e)
  have hM : Mod K mg (zo9 s₁.heap H) := ⟨hKb, nsK hns, ⟨mb, nsK hb, hbb⟩, let ⟨mc, h1, h2⟩ := hlim; ⟨mc, nsK h1, h2⟩⟩
  have e0 : zuQ P w K mg (zo9 s₁.heap H) callerA [] s₁ H := ⟨rfl, hM, fun b o e => zrB e, Nat.le_of_eq (zmN _ _), trivial, fun b hb => absurd (show b ∈ ([] : List Addr) from hb) (by simp), hok, .of_eq hg⟩
  refine codeAny_mono ((F _ hKb (nsK hns)).run callerA [] s₁ H ⟨[.ref a], []⟩ [.ref a] [.ref a] _ _ hr e0 (hbind s₁ (.ref a)) (.cons rfl .nil) (hsp H hO hS)) fun r s' h => ?_
  cases r with
  | error e => exact (hCX H e s' h).elim
  | ok fl =>
   cases fl with
   | next => exact False.elim h
   | brk => exact False.elim h
   | cont => exact False.elim h
   | ret u =>
    obtain ⟨v, H', os, bare, un, hok', r', q⟩ := h
    have q' : v = .bl true := q
    subst q'
    obtain rfl : u = Value.bool true := r'
    refine ⟨rfl, OldK.of_keep fun b o e => ?_, os, bare⟩
    cases q : H b with
    | none => exact un.keep b o e q (by intro z; exact absurd (show b ∈ ([] : List Addr) from z) (by simp)) (by simp)
    | some u =>
     rcases hO b with z | ⟨ob, xs, z⟩
     ·rw [q] at z; cases z
     ·have z2 := un.frzs b ob _ z
      obtain ⟨e1, _⟩ := hok b _ z
      obtain ⟨e2, _⟩ := hok' b _ z2
      rw [e] at e1; cases e1
      exact e2
 cases hk : K.lookup a with
 | some o =>
  have e := KX a o hk
  rw [ha] at e
  cases e
  refine core (fun _ => none) (fun _ => .inl rfl) (.inr ⟨_, vs.toArray, _, hk, rfl, rfl, rfl, by rw [List.size_toArray, lenV]; exact hl, by simpa using rv⟩) (fun b u z => by have z' : (none : Option HO) = some u := z; cases z') (fun b z => absurd rfl z) fun z => absurd rfl z
 | none =>
  refine core (fun b => if b = a then some (.frz { cls := .type "list", data := .seq vs.toArray } (.lst (ns.map V.int))) else none) (fun b => ?_) (.inl (.inr ⟨{ cls := .type "list", data := .seq vs.toArray }, if_pos rfl⟩)) (fun b u z => ?_) (fun b z => ?_) fun _ => hk
  ·by_cases hb : b = a
   ·exact .inr ⟨_, _, if_pos hb⟩
   ·exact .inl (if_neg hb)
  ·by_cases hb : b = a
   ·have z' := (if_pos hb).symm.trans z
    cases z'
    subst hb
    exact ⟨ha, by rw [List.length_map]; exact hl, vs, _, rv, ha⟩
   ·have z' := (if_neg hb).symm.trans z
    cases z'
  ·by_cases hb : b = a
   ·exact hb
   ·exact absurd (if_neg hb) z
end L2
namespace L2
open PySem PySem.Spec PyProof.Rows
theorem walk_of {l : PySem.W.OpenLaw} {n k : Nat} {q : Program} {loose : List Str} {XP : (Str → Option Value) → Heap → Prop} {YP : World → Heap → Prop} {d : DefRec} {K : Params → PySem.W.Frag} {CX : World → CXT} {sp : World → Sp} {x : Str}
  (hn : l.most = some n) (hn2 : n ≤ sizeLine) (hdf : d.params.defaults = []) (hr : zhw k callerA)
  (hY : ∀ (w : World) (h : Heap), YP w h → (K w.params).In h)
  (F : ∀ (w : World) (mg : Str → Option Value) (fa : Addr) (h : Heap), (K w.params).In h → h.Ns mainGlobals mg → mg d.name = some (.ref fa) →
   ∃ fd : FuncData, (∀ (s : Shared) (u : Value), BindsTo s fd ⟨[u], []⟩ [(x, u)]) ∧
    ∀ base : Heap, (K w.params).In base → base.Ns mainGlobals mg → zhN l.prog w (K w.params) mg base (CX w) k fa fd [x] (sp w))
  (hsp : ∀ (w : World) (H : Hp) (a : Addr) (ns : List Int), ns.length ≤ n → zvn H → SqL (K w.params) H a (ns.map V.int) → sp w [.ref a] H (fun v _ => v = .bl true) fun _ _ _ => False)
  (hCX : ∀ (w : World) (H : Hp) (s : Shared) (e : Value) (s' : Shared), CX w [] H s (fun _ _ _ => False) e s' → False) :
  PySem.W.WalkO q loose XP YP l.row.toRowW d [] (fun f vs => PySem.call f vs) := by
 refine Att.attach_call hn hdf fun w s₀ s₁ mg mb fa o pm cd doc a vs ns G Y ho hd hcd hmg hobj hints hlen hg => ?_
 have KX := hY w _ Y
 obtain ⟨fd, hb, hF⟩ := F w mg fa _ KX G.T.g hmg
 exact zpl KX G.T.g G.T.b G.T.builtins G.T.nolimit hg hobj hints (Nat.le_trans hlen hn2) hr hF hb (fun H hO hS => hsp w H a ns hlen hO hS) fun H e s' => hCX w H s₁ e s'
end L2
namespace L2
open PySem PySem.Spec PyProof.Rows
def zax (s : Stmt) : Arguments := match s with
 | .FunctionDef _ a _ _ _ _ _ _ _ _ => a
 | _ => { posonlyargs := [], args := [], vararg := none, kwonlyargs := [], kw_defaults := [], kwarg := none, defaults := [] }
def zau (s : Stmt) : List Stmt := match s with
 | .FunctionDef _ _ b _ _ _ _ _ _ _ => b
 | _ => []
def zag (s : Stmt) : Scope := match s with
 | .FunctionDef _ _ _ _ _ _ sc _ _ _ => sc
 | _ => { kind := .function, names := [], isGenerator := false, isCoroutine := false }
abbrev E0 : XK := fun _ _ _ => False
structure Fun (K : PySem.W.Frag) (x qual : Str) (st : Stmt) (f : Addr) (fd : FuncData) : Prop where
 ex : ∃ (oc : Value) (od : Option Addr) (kV doc pm : Value) (an : Option Addr) (cdv ct : Value) (osl : Array (Option Value)),
  fd = PySem.W.fnOf x qual (zax st) (zau st) (zag st) .none kV doc pm an cdv ct ∧ K.lookup f = some ⟨oc, od, .func fd, osl⟩ ∧ PySem.W.codeIn K cdv qual = true
 kp : PySem.W.keepIn K (.ref f) = true
section
variable {P : Program} {w : World} {K : PySem.W.Frag} {mg : Str → Option Value} {base : Heap}
theorem Fun.binds {x qual : Str} {st : Stmt} {f : Addr} {fd : FuncData} {ps : List Str} (F : Fun K x qual st f fd)
  (h : ∀ (kV doc pm : Value) (an : Option Addr) (cdv ct : Value) (us : List Value), us.length = ps.length → bindArgs (PySem.W.fnOf x qual (zax st) (zau st) (zag st) .none kV doc pm an cdv ct) ⟨us, []⟩ = pure (ps.zip us)) : zbg K fd ps [] := by
 obtain ⟨oc, od, kV, doc, pm, an, cdv, ct, osl, rfl, lk, hcd⟩ := F.ex
 exact .all (h kV doc pm an cdv ct)
theorem zaT {x qual : Str} {st : Stmt} {f : Addr} {oc : Value} {od an : Option Addr} {osl : Array (Option Value)} {kV doc pm cdv ct : Value} (l : K.lookup f = some ⟨oc, od, .func (PySem.W.fnOf x qual (zax st) (zau st) (zag st) .none kV doc pm an cdv ct), osl⟩)
  (c : PySem.W.codeIn K cdv qual = true) (k : PySem.W.keepIn K (.ref f) = true) : Fun K x qual st f (PySem.W.fnOf x qual (zax st) (zau st) (zag st) .none kV doc pm an cdv ct) := ⟨⟨oc, od, kV, doc, pm, an, cdv, ct, osl, rfl, l, c⟩, k⟩
end
theorem zm4 {n : Nat} (h : n ≤ 1000) : n < sizeLine := Nat.lt_of_le_of_lt h (by decide)
section
variable {X : Cx}
theorem pv (i : Nat) {x : Str} {pos : Pos} (hN : X.N[i]? = some x := by rfl) (hv : Vis X.env.scope x := by first | exact Or.inl rfl | exact Or.inr (Or.inl rfl) | exact Or.inr (Or.inr rfl)) (hd : (x == ("__debug__" : Str)) = false := by decide)
  (hcd : (x == ("__classdict__" : Str)) = false := by decide) : PE X (.Name x pos) (tVar i) := zs2 hN hv hd hcd
end
theorem iteF {A B : Prop} (h : B) : if false = true then A else B := by
 rw [if_neg Bool.false_ne_true]
 exact h
theorem iteT {A B : Prop} (h : A) : if true = true then A else B := by
 rw [if_pos rfl]
 exact h
def zaP (H H' : Hp) : Prop := ∀ b o, H b = some o → H' b = some o
theorem zaP.refl (H : Hp) : zaP H H := fun _ _ h => h
theorem zaP.trans {H H1 H2 : Hp} (a : zaP H H1) (b : zaP H1 H2) : zaP H H2 := fun c o h => b c o (a c o h)
theorem zaP.free {H H' : Hp} (e : zaP H H') {l : Addr} (h : H' l = Option.none) : H l = Option.none := by
 cases q : H l with
 | none => rfl
 | some o =>
  rw [e l o q] at h
  cases h
theorem zaP.seq {K : PySem.W.Frag} {H H' : Hp} {a : Addr} {xs : List V} (e : zaP H H') (h : SqL K H a xs) : SqL K H' a xs := by
 rcases h with (h | ⟨o, h⟩) | h
 ·exact .inl (.inl (e _ _ h))
 ·exact .inl (.inr ⟨o, e _ _ h⟩)
 ·exact .inr h
end L2
end
section
set_option Elab.async false
set_option linter.all false
set_option maxRecDepth 100000
namespace L2
open PySem PySem.Spec PyProof.Rows
theorem zhP {α β : Type} (g : β → α → β) : ∀ {l : List α} {f : α → β → Sem (ForInStep β)} (c : β), (∀ x ∈ l, ∀ c, f x c = pure (.yield (g c x))) → forIn l c f = pure (l.foldl g c)
 | [], _, _, _ => rfl
 | x :: l, f, c, h => by
  rw [List.forIn_cons, h x List.mem_cons_self c, pure_bind]
  exact zhP g (g c x) fun y hy => h y (List.mem_cons_of_mem _ hy)
def zcc (env : Env) (cs : List (Str × Addr)) (x : Str × NameKind) : List (Str × Addr) :=
 if (x.2 == NameKind.free) = true then (x.1, (env.cells.lookup x.1).getD 0) :: cs else cs
def zsS (env : Env) (names : List (Str × NameKind)) : List (Str × Addr) := names.foldl (zcc env) []
theorem zm5 {env : Env} {scope : Scope} (h : ∀ x ∈ scope.names, x.2 = .free → ∃ c, env.cells.lookup x.1 = some c) : closureFor scope env = pure (zsS env scope.names) := by
 simp only [closureFor]
 rw [zhP (zcc env) [] (fun x hx c => by
  obtain ⟨n, k⟩ := x
  by_cases hk : k = .free
  ·obtain ⟨a, e⟩ := h (n, k) hx hk
   have e' : env.cells.lookup n = some a := e
   subst hk
   simp [zcc, cellOf, e']
  ·have hb : (k == NameKind.free) = false := by simpa using hk
   simp [zcc, hb])]
 rfl
theorem ziy {env : Env} : ∀ (l : List (Str × NameKind)) (acc : List (Str × Addr)), (∀ x ∈ l, x.2 = .free → ∃ c, env.cells.lookup x.1 = some c) → (∀ y c, acc.lookup y = some c → env.cells.lookup y = some c) →
  ∀ y c, (l.foldl (zcc env) acc).lookup y = some c → env.cells.lookup y = some c
 | [], acc, _, ha, y, c, e => ha y c e
 | x :: l, acc, h, ha, y, c, e => by
  refine ziy l (zcc env acc x) (fun z hz => h z (List.mem_cons_of_mem _ hz)) (fun z d q => ?_) y c e
  unfold zcc at q
  split at q
  ·rename_i hk
   obtain ⟨a, ea⟩ := h x List.mem_cons_self (by simpa using hk)
   rw [List.lookup_cons] at q
   cases hz : z == x.1 with
   | true =>
    rw [hz] at q
    rw [ea] at q
    have : z = x.1 := by simpa using hz
    rw [this, ea]; simpa using q
   | false => rw [hz] at q; exact ha z d q
  ·exact ha z d q
theorem zgF {env : Env} : ∀ (l : List (Str × NameKind)) (acc : List (Str × Addr)) (y : Str), ((∃ c, acc.lookup y = some c) ∨ (y, NameKind.free) ∈ l) → ∃ c, (l.foldl (zcc env) acc).lookup y = some c
 | [], acc, y, h => by
  rcases h with h | h
  ·exact h
  ·exact absurd h (by simp)
 | x :: l, acc, y, h => by
  refine zgF l (zcc env acc x) y ?_
  rcases h with ⟨c, h⟩ | h
  ·left
   unfold zcc
   split
   ·rw [List.lookup_cons]
    cases hz : y == x.1 with
    | true => exact ⟨_, rfl⟩
    | false => exact ⟨c, h⟩
   ·exact ⟨c, h⟩
  ·rcases List.mem_cons.mp h with e | h
   ·left
    subst e
    unfold zcc
    rw [if_pos (by rfl), List.lookup_cons]
    simp
   ·exact .inr h
theorem zbH {scope : Scope} {env : Env} : ∀ {names : List (Str × NameKind)} {x : Str} {k : NameKind},
  (names.map fun (n, k) => if (k == NameKind.free && env.scope.kind == .function && env.kindOf n == some .cell) then (n, NameKind.cell) else (n, k)).lookup x = some k →
  names.lookup x = some k ∨ (k = .cell ∧ names.lookup x = some .free)
 | [], _, _, h => by simp at h
 | (n, k') :: r, x, k, h => by
  change List.lookup x ((if (k' == NameKind.free && env.scope.kind == .function && env.kindOf n == some .cell) = true then (n, NameKind.cell) else (n, k')) :: _) = some k at h
  by_cases hc : (k' == NameKind.free && env.scope.kind == .function && env.kindOf n == some .cell) = true
  ·rw [if_pos hc, List.lookup_cons] at h
   rw [List.lookup_cons]
   cases hx : x == n with
   | true =>
    rw [hx] at h
    have hk : k' = .free := by
     simp only [Bool.and_eq_true, beq_iff_eq] at hc
     exact hc.1.1
    subst hk
    have h' : NameKind.cell = k := by simpa using h
    exact .inr ⟨h'.symm, rfl⟩
   | false => rw [hx] at h; exact zbH (scope := scope) h
  ·rw [if_neg hc, List.lookup_cons] at h
   rw [List.lookup_cons]
   cases hx : x == n with
   | true => rw [hx] at h; exact .inl h
   | false => rw [hx] at h; exact zbH (scope := scope) h
def zvo (k : Nat) (NY N : List Str) (sc : Scope) : Bool :=
 NY.length == k + N.length && ((NY.drop k).zip N).all fun p => (sc.names.lookup p.1).isNone || (p.1 == p.2 && sc.names.lookup p.1 != some .local)
structure LC (X : Cx) (k : Nat) (scope : Scope) (NY : List Str) : Prop where
 cells : ∀ y ∈ scope.names, y.2 ≠ .cell
 kind : scope.kind = .function
 names : ∀ y ∈ scope.names, y.2 = .local → scope.names.lookup y.1 = some .local
 free : ∀ y ∈ scope.names, y.2 = .free → X.env.kindOf y.1 = some .cell ∨ X.env.kindOf y.1 = some .free
 ny : zvo k NY X.N scope = true
 nd : NY.Nodup
def lcOk (k : Nat) (N : List Str) (sc0 scope : Scope) (NY : List Str) : Bool :=
 (scope.names.all fun y => y.2 != .cell) && (scope.kind == .function) && (scope.names.all fun y => y.2 != .local || scope.names.lookup y.1 == some .local) &&
 (scope.names.all fun y => y.2 != .free || sc0.names.lookup y.1 == some .cell || sc0.names.lookup y.1 == some .free) && zvo k NY N scope && decide NY.Nodup
theorem LC.of {X : Cx} {k : Nat} {N NY : List Str} {sc0 scope : Scope} (hN : X.N = N) (hs : X.env.scope = sc0) (h : lcOk k N sc0 scope NY = true) : LC X k scope NY := by
 unfold lcOk at h
 simp only [Bool.and_eq_true, List.all_eq_true, Bool.or_eq_true, bne_iff_ne, beq_iff_eq, ne_eq] at h
 obtain ⟨⟨⟨⟨⟨h1, h2⟩, h3⟩, h4⟩, h5⟩, h6⟩ := h
 refine ⟨h1, h2, fun y hy e => ?_, fun y hy e => ?_, by rw [hN]; exact h5, of_decide_eq_true h6⟩
 ·rcases h3 y hy with z | z
  ·exact absurd e z
  ·exact z
 ·show X.env.scope.names.lookup y.1 = _ ∨ X.env.scope.names.lookup y.1 = _
  rw [hs]
  rcases h4 y hy with (z | z) | z
  ·exact absurd e z
  ·exact .inl z
  ·exact .inr z
def zeV (X : Cx) (scope : Scope) (NY : List Str) (s₀ : Shared) (H₀ : Hp) (C : Addr) (ex : List Addr) : Cx :=
 { X with N := NY, s₀ := s₀, H₀ := H₀, env := compEnvC scope (zsS X.env scope.names) C X.env, outer := X.stack, ex := ex, fn := fun _ => false, pn := [], xe := fun _ _ => False }
def PTs (X : Cx) (cs : List Expr) (t : TT) : Prop :=
 ∀ (pins : List (Addr × Obj)) (s : Shared) (σ : St) (H : Hp) (Q : Bool → Hp → Prop), Inv X pins σ H s → t σ H Q →
  wpAny (model X.prog X.w) X.A (forIn cs true fun c r => if r = true then do let ok ← isTrue c X.env (eval c X.env); pure (ForInStep.yield ok) else pure (ForInStep.yield r)) (TP X pins σ Q) X.xe s
def zvp : TT := fun _ H Q => Q true H
theorem zrZ {X : Cx} : PTs X [] zvp := fun _ _ _ H _ I h => wpAny_tests_nil ⟨H, I, h⟩
theorem zr0 {X : Cx} {c : Expr} {t : TT} (hc : PT X c t) : PTs X [c] t := fun pins s σ H Q I h => wpAny_tests_one (hc pins s σ H Q I h)
def zr1 (σ σ2 : St) : Prop := σ2.length = σ.length ∧ ∀ (j : Nat) (v : V), σ[j]? = some (some v) → σ2[j]? = some (some v)
def tLC (k : Nat) (wi : TI) (g : TG) (tc : TT) (te : TE) : TE := fun σ H Q => wi σ H fun J H1 => ∃ W : Nat → Nat → List V → Hp → Prop, (∃ m, W 0 m [] H1) ∧ ∀ i m ys H, W i m ys H → ys.length < sizeLine ∧
 ((J.stop i H ∧ ∀ D, H D = none → Q (.ref D) (upd H D (.lst ys))) ∨
  (J.go i H ∧ ∃ N : List V → Hp → Prop, (∀ ys' H', N ys' H' → ∃ m', m' < m ∧ W (i + 1) m' ys' H') ∧
    ∀ v H', J.yld i H v H' → g v (List.replicate k none ++ σ) H' fun σ2 H2 => zr1 (List.replicate k none ++ σ) σ2 ∧
      tc σ2 H2 fun b H3 => if b = true then te σ2 H3 fun y H4 => N (ys ++ [y]) H4 else N ys H3))
theorem zvq {α : Type} {t : Sem α} {Q Q' : α → Shared → Prop} {M : Model} {A : Around} {E : Value → Shared → Prop} {s : Shared} (h : wpAny M A t Q (fun _ _ => False) s) (hQ : ∀ a s, Q a s → Q' a s) : wpAny M A t Q' E s :=
 wpAny_mono h hQ fun _ _ z => False.elim z
section
variable {prog : Program} {w : World} {A : Around} {R : Result → Shared → Prop} {s : Shared}
theorem zjj {elt tg iter : Expr} {ifs : List Expr} {scope : Scope} {pos : Pos} {it acc : Value} {env : Env} (W : Nat → Shared → Prop)
  (turn : ∀ n s, W n s → ∀ E', wpAny (model prog w) A (pyNext it) (fun r s1 => match r with
   | none => R (.ok .next) s1
   | some v => wpAny (model prog w) A (letOwnedTupleGo tg it v) (fun _ s2 => wpAny (model prog w) A (assign tg env v) (fun _ s3 =>
     wpAny (model prog w) A (forIn ifs true fun c r => if r = true then do let ok ← isTrue c env (eval c env); pure (ForInStep.yield ok) else pure (ForInStep.yield r)) (fun ok s4 =>
      if ok = true then wpAny (model prog w) A (eval elt env) (fun x s5 => wpAny (model prog w) A (call (.builtin "list.append") [acc, x]) (fun _ s6 => ∃ m, m < n ∧ W m s6) E' s5) E' s4
      else ∃ m, m < n ∧ W m s4) E' s3) E' s2) E' s1) E' s)
  (n : Nat) (h : W n s) : codeAny (model prog w) A (.compLoop (.ListComp elt [⟨tg, iter, ifs, 0⟩] scope pos) 0 it acc env) R s := by
 refine codeAny_loop rfl W (fun n s hW => ?_) n h
 show wpAny _ A ((compTurn (.ListComp elt [⟨tg, iter, ifs, 0⟩] scope pos) 0 it acc env).onRaise (fun x => do noteFrame x env; theTreesLotGoes x)) _ _ s
 refine wpAny_noted ?_
 rw [compTurn_list]
 refine wpAny_bind (wpAny_standAt (wpAny_bind (thn (turn n s hW _) fun r s1 h1 => ?_)))
 cases r with
 | none => exact wpAny_pure h1
 | some v =>
  refine wpAny_bind (thn h1 fun _ s2 h2 => wpAny_bind (thn h2 fun _ s3 h3 => wpAny_bind (thn h3 fun ok s4 h4 => ?_)))
  cases ok with
  | false => exact wpAny_pure ⟨rfl, h4⟩
  | true => exact wpAny_bind (wpAny_bind (thn h4 fun x s5 h5 => wpAny_bind (thn h5 fun _ s6 h6 => wpAny_pure (wpAny_pure ⟨rfl, h6⟩))))
end
section
variable {X : Cx} {pins : List (Addr × Obj)} {σ : St} {H2 : Hp} {s2 : Shared} {scope : Scope} {NY : List Str} {k : Nat} {C D : Addr} {fp : List Addr}
theorem zvr (I2 : Inv X pins σ H2 s2) (lc : LC X k scope NY) (hf : ∀ b ∈ fp, zmf X pins H2 b) (hfl : ∀ b ∈ fp, b < s2.heap.objs.size) (hC : s2.heap.objs.size ≤ C) : (zeV X scope NY s2 H2 C fp).Ok := by
 have hfree : ∀ x ∈ scope.names, x.2 = .free → ∃ c, X.env.cells.lookup x.1 = some c := fun x hx e => I2.ok.has x.1 (lc.free x hx e)
 have sub : ∀ x c, (zsS X.env scope.names).lookup x = some c → X.env.cells.lookup x = some c := ziy scope.names [] hfree (fun y c e => by simp at e)
 refine ⟨I2.ok.mod, ?_, I2.ok.glob, I2.ok.blt, hC, fun x y c e1 e2 => I2.ok.inj x y c (sub x c e1) (sub y c e2), fun x hx => ?_, fun x c z => absurd z (by show ¬ (false = true); decide), I2.ok.hd, I2.ok.frames, .inl rfl, fun b hb => ⟨Nat.ne_of_lt (Nat.lt_of_lt_of_le (hfl b hb) hC), fun x c e => (hf b hb).2.2.2.2.1 x c (sub x c e)⟩,
  I2.bs, Nat.le_trans I2.ok.bsz I2.sz, fun b o e hb => ?_, fun b hb z => ?_, I2.stack, I2.stkFree⟩
 ·show (relabel scope X.env).kind = .function
  exact lc.kind
 ·have hx : (relabel scope X.env).names.lookup x = some .cell ∨ (relabel scope X.env).names.lookup x = some .free := hx
  have key : scope.names.lookup x = some .free := by
   rcases hx with hx | hx
   ·rcases zbH (scope := scope) hx with z | ⟨_, z⟩
    ·exact absurd rfl (lc.cells _ (PySem.mem_of_lookup z))
    ·exact z
   ·rcases zbH (scope := scope) hx with z | ⟨_, z⟩
    ·exact z
    ·exact z
  exact zgF scope.names [] x (.inr (PySem.mem_of_lookup key))
 ·have q : b ∈ X.ex ∨ X.s₀.heap.objs.size ≤ b := (hf b hb).2.2.2.1
  rcases q with q | q
  ·exact I2.ok.noex b o e q
  ·exact absurd (Nat.lt_of_lt_of_le (Heap.lt_size e) (Nat.le_trans I2.ok.bsz q)) (Nat.lt_irrefl _)
 ·rcases List.mem_cons.mp (I2.stkSub b z) with e | e
  ·exact (hf b hb).2.1 e
  ·exact (hf b hb).2.2.1 e
theorem zpm {h1 : Heap} {tk : Nat} {m : Str → Option Value} {oD : Obj} (I2 : Inv X pins σ H2 s2) (lc : LC X k scope NY) (hf : ∀ b ∈ fp, zmf X pins H2 b) (hfl : ∀ b ∈ fp, b < s2.heap.objs.size) (hC : s2.heap.objs.size ≤ C) (hD : s2.heap.objs.size ≤ D) (hDC : D ≠ C)
  (old : ∀ b o, s2.heap.get? b = some o → h1.get? b = some o) (hn : h1.Ns C m) (ho : h1.get? D = some oD) (hoD : ∀ v, oD.data ≠ .cell v) :
  Inv (zeV X scope NY s2 H2 C fp) [(D, oD)] (List.replicate k none ++ σ) H2 { s2 with heap := h1, toks := tk } := by
 have hfree : ∀ x ∈ scope.names, x.2 = .free → ∃ c, X.env.cells.lookup x.1 = some c := fun x hx e => I2.ok.has x.1 (lc.free x hx e)
 have sub : ∀ x c, (zsS X.env scope.names).lookup x = some c → X.env.cells.lookup x = some c := ziy scope.names [] hfree (fun y c e => by simp at e)
 have hny := lc.ny
 unfold zvo at hny
 simp only [Bool.and_eq_true, beq_iff_eq, List.all_eq_true, Bool.or_eq_true, bne_iff_ne, ne_eq] at hny
 obtain ⟨hlen, hz⟩ := hny
 refine ⟨zvr I2 lc hf hfl hC, rfl, I2.bare, Un.kept old, ⟨m, hn, fun i x v e1 e2 e3 => ?_⟩, fun x c e => ?_, I2.hok.fresh hC, fun x c e => I2.freeC x c (sub x c e), fun p hp => ?_, I2.hok.kept old, ?_⟩
 ·have e1 : NY[i]? = some x := e1
  have hik : k ≤ i := by
   refine Nat.le_of_not_lt fun z => ?_
   rw [List.getElem?_append_left (by simpa using z), List.getElem?_replicate, if_pos z] at e2
   cases e2
  rw [List.getElem?_append_right (by simpa using hik), List.length_replicate] at e2
  have hi2 : i - k < X.N.length := by
   rw [← I2.len]; exact (List.getElem?_eq_some_iff.mp e2).1
  obtain ⟨y, ey⟩ : ∃ y, X.N[i - k]? = some y := ⟨_, List.getElem?_eq_getElem hi2⟩
  have em : (x, y) ∈ (NY.drop k).zip X.N := by
   refine List.mem_of_getElem? (i := i - k) ?_
   rw [List.getElem?_zip_eq_some]
   refine ⟨?_, ey⟩
   rw [List.getElem?_drop, show k + (i - k) = i by omega]; exact e1
  have e3 : Vis (relabel scope X.env) x := e3
  have kf : scope.names.lookup x = some .free := by
   have kk : ∃ q, scope.names.lookup x = some q := by
    rcases e3 with z | z | z <;> rcases zbH (scope := scope) z with z | ⟨_, z⟩ <;> exact ⟨_, z⟩
   have zz := hz (x, y) em
   have nl : scope.names.lookup x ≠ some .local := by
    rcases zz with zz | zz
    ·obtain ⟨q, hq⟩ := kk
     have zz : (scope.names.lookup x).isNone = true := zz
     rw [hq] at zz; cases zz
    ·exact zz.2
   rcases e3 with z | z | z <;> rcases zbH (scope := scope) z with z | ⟨_, z⟩
   ·exact absurd z nl
   ·exact z
   ·exact absurd rfl (lc.cells _ (PySem.mem_of_lookup z))
   ·exact z
   ·exact z
   ·exact z
  have exy : x = y := by
   rcases hz (x, y) em with zz | zz
   ·have zz : (scope.names.lookup x).isNone = true := zz
    rw [kf] at zz; cases zz
   ·exact zz.1
  subst exy
  obtain ⟨mX, hnX, hlX⟩ := I2.loc
  have hk := lc.free (x, .free) (PySem.mem_of_lookup kf) rfl
  have hk : X.env.kindOf x = some .cell ∨ X.env.kindOf x = some .free := hk
  obtain ⟨u, ru, lu⟩ := hlX (i - k) x v ey e2 (.inr hk)
  refine ⟨u, ru, ?_⟩
  rcases lu with ⟨z, _⟩ | ⟨_, c, hc, hcell⟩
  ·rcases hk with q | q <;> rw [q] at z <;> cases z
  ·obtain ⟨c', hc'⟩ := zgF (env := X.env) scope.names [] x (.inr (PySem.mem_of_lookup kf))
   have : c' = c := by
    have q := sub x c' hc'
    rw [hc] at q; exact (Option.some.inj q).symm
   subst this
   refine .inr ⟨?_, c', hc', hcell.keeps old⟩
   show (relabel scope X.env).names.lookup x = some .cell ∨ (relabel scope X.env).names.lookup x = some .free
   rcases e3 with z | z
   ·rcases zbH (scope := scope) z with z | ⟨z, _⟩
    ·rw [kf] at z; cases z
    ·cases z
   ·exact z
 ·obtain ⟨v, z⟩ := I2.cell x c (sub x c e)
  exact ⟨v, z.keeps old⟩
 ·have e : p = (D, oD) := by simpa [zeV] using hp
  subst e
  refine ⟨ho, I2.hok.fresh hD, hDC, fun z => ?_, hoD⟩
  have z : D ∈ frs X.stack := z
  rcases List.mem_cons.mp (I2.stkSub D z) with q | q
  ·exact absurd (Nat.lt_of_lt_of_le I2.lt hD) (by rw [q]; exact Nat.lt_irrefl _)
  ·exact I2.nofs hD q
 ·show (List.replicate k none ++ σ).length = NY.length
  rw [hlen, List.length_append, List.length_replicate, I2.len]
theorem ztB {H4 : Hp} {s4 : Shared} {σ' : St} {ys : List V} {us : List Value} (I2 : Inv X pins σ H2 s2) (hf : ∀ b ∈ fp, zmf X pins H2 b) (hC : s2.heap.objs.size ≤ C) (hD : s2.heap.objs.size ≤ D)
  (I4 : Inv (zeV X scope NY s2 H2 C fp) [(D, LCg.lst us)] σ' H4 s4) (rv : zca ys us) (hz : ys.length ≤ sizeLine) : Inv X pins σ (upd H4 D (.lst ys)) s4 := by
 obtain ⟨pD, nD, neD, nfD, dD⟩ := I4.pin (D, LCg.lst us) (by simp)
 have u0 : Un (frs X.stack) fp H2 H4 s2.heap s4.heap := I4.base
 have neb : ∀ b o, s2.heap.get? b = some o → b ≠ D := fun b o e => Nat.ne_of_lt (Nat.lt_of_lt_of_le (Heap.lt_size e) hD)
 have hok : HOk X.prog X.w (upd H4 D (.lst ys)) s4.heap := fun b u e => by
  by_cases hb : b = D
  ·subst hb
   rw [zaA] at e; cases e
   exact ⟨hz, us, us.length, rv, pD⟩
  ·rw [zay hb] at e
   exact (I4.hok b u e).stay (fun _ _ _ q => q) (fun c q => by rw [zay (zas q nD)]; exact q) fun c xs q => by rw [zay (zas q nD)]; exact q
 refine I2.call' (ch := fp) I4.os ⟨u0.keep, u0.slot, fun b o e n hx => ?_, u0.there, fun b xs q => ?_, fun b o u q => ?_, fun b ps q => ?_⟩ hok I4.bare fun b hb => ⟨(hf b hb).2.2.2.1, (hf b hb).2.1, (hf b hb).2.2.2.2.1, (hf b hb).2.2.2.2.2⟩
 ·rw [zay (neb b o e)]; exact u0.free b o e n hx
 ·have z := u0.tups b xs q
  rw [zay (zas z nD)]; exact z
 ·have z := u0.frzs b o u q
  rw [zay (zas z nD)]; exact z
 ·obtain ⟨more, z⟩ := u0.tbls b ps q
  exact ⟨more, by rw [zay (zas z nD)]; exact z⟩
end
theorem zqr {X : Cx} {tg elt iter : Expr} {ifs : List Expr} {scope : Scope} {pos : Pos} {NY : List Str} {k : Nat} {g : TG} {tc : TT} {te : TE} (hc : X.calm = true) (lc : LC X k scope NY)
  (hb : ∀ (s₀ : Shared) (H₀ : Hp) (C : Addr) (ex : List Addr), NY.Nodup → PG (zeV X scope NY s₀ H₀ C ex) tg g ∧ PTs (zeV X scope NY s₀ H₀ C ex) ifs tc ∧ PE (zeV X scope NY s₀ H₀ C ex) elt te)
  {pins : List (Addr × Obj)} {σ : St} {H2 : Hp} {s2 : Shared} {it : Addr} {fp : List Addr} {tn : Nat → Heap → Prop} {J : It} {RR : Value → Addr → Result → Shared → Prop} {E : Value → Shared → Prop} {Fin : List V → Hp → Prop}
  (I2 : Inv X pins σ H2 s2) (T : zrI X.prog X.w X.K tg J fp it tn) (st2 : tn 0 s2.heap) (f2 : ∀ b ∈ fp, zmf X pins H2 b) {W : Nat → Nat → List V → Hp → Prop} {m0 : Nat} (w0 : W 0 m0 [] H2)
  (turn : ∀ i m ys H, W i m ys H → ys.length < sizeLine ∧ ((J.stop i H ∧ Fin ys H) ∨ (J.go i H ∧ ∃ N : List V → Hp → Prop, (∀ ys' H', N ys' H' → ∃ m', m' < m ∧ W (i + 1) m' ys' H') ∧
   ∀ v H', J.yld i H v H' → g v (List.replicate k none ++ σ) H' fun σ2 H2 => zr1 (List.replicate k none ++ σ) σ2 ∧ tc σ2 H2 fun b H3 => if b = true then te σ2 H3 fun y H4 => N (ys ++ [y]) H4 else N ys H3)))
  (fin : ∀ (C D : Addr) (H4 : Hp) (s4 : Shared) (ys : List V) (m : Str → Option Value), s2.heap.objs.size ≤ C → H4 D = none → H4 C = none → D ≠ C → s4.heap.Ns C m → Inv X pins σ (upd H4 D (.lst ys)) s4 → Fin ys H4 → RR (.ref D) C (.ok .next) s4) :
  wpAny (model X.prog X.w) X.A (newList []) (fun acc s3 => wpAny (model X.prog X.w) X.A (newFunctionEnv scope X.env.globals (zsS X.env scope.names) [] X.env.qual none .none (some X.env)) (fun cenv s4 =>
   codeAny (model X.prog X.w) X.A (.compStart (.ListComp elt [⟨tg, iter, ifs, 0⟩] scope pos) 0 (.ref it) acc { cenv with scope := relabel scope X.env }) (RR acc cenv.locals) s4) E s3) E s2 := by
 refine wpAny_newObj_type (wpAny_newFunctionEnv lc.cells (by intro y hy; simp at hy) (fun h1 hns1 hsb1 => ?_) lc.kind)
 dsimp only at hns1 hsb1 ⊢
 generalize hG : s2.heap.push { cls := .type "list", dict := none, data := .seq ([] : List Value).toArray } = G at hns1 hsb1 ⊢
 have hC : G.objs.size = s2.heap.objs.size + 1 := by rw [← hG, Heap.size_push]
 have hCle : s2.heap.objs.size ≤ G.objs.size := by omega
 have hDC : s2.heap.objs.size ≠ G.objs.size := by omega
 have hfl : ∀ b ∈ fp, b < s2.heap.objs.size := fun b hb => by obtain ⟨o, e, _⟩ := T.obj 0 _ st2 b hb; exact Heap.lt_size e
 have old : ∀ b o, s2.heap.get? b = some o → h1.get? b = some o := fun b o e => by
  have lt := Heap.lt_size e
  refine hsb1.extBut b o (Nat.ne_of_lt (Nat.lt_of_lt_of_le lt hCle)) (Heap.get?_push_of_some _ ?_)
  rw [← hG]; exact Heap.get?_push_of_some _ e
 have hacc : h1.get? s2.heap.objs.size = some (LCg.lst []) := by
  refine hsb1.extBut _ _ hDC (Heap.get?_push_of_some _ ?_)
  rw [← hG]; exact Heap.get?_push_size _ rfl
 have dl : ∀ (us : List Value) v, (LCg.lst us).data ≠ .cell v := fun us v z => by
  have z' : Data.seq us.toArray us.length = Data.cell v := z
  cases z'
 have I3 := zpm (h1 := h1) (tk := s2.toks + ([] : List (Str × Value)).length) I2 lc f2 hfl hCle (Nat.le_refl _) hDC old hns1 hacc (dl [])
 have fpY : ∀ {us : List Value} {H' : Hp}, (∀ b ∈ fp, H' b = none) → ∀ b ∈ fp, zmf (zeV X scope NY s2 H2 G.objs.size fp) [(s2.heap.objs.size, LCg.lst us)] H' b := fun {us H'} hn b hb => by
  have lt := hfl b hb
  have okY := I3.ok
  refine ⟨hn b hb, (okY.exf b hb).1, okY.exfs b hb, .inl hb, (okY.exf b hb).2, fun p hp => ?_⟩
  have e : p = (s2.heap.objs.size, LCg.lst us) := by simpa [zeV] using hp
  subst e
  exact Nat.ne_of_gt lt
 obtain ⟨hg, ht, he⟩ := hb s2 H2 G.objs.size fp lc.nd
 have loop : ∀ s3 : Shared, s3 = { s2 with heap := h1, toks := s2.toks + ([] : List (Str × Value)).length } →
   codeAny (model X.prog X.w) X.A (.compLoop (.ListComp elt [⟨tg, iter, ifs, 0⟩] scope pos) 0 (.ref it) (.ref s2.heap.objs.size) (compEnvC scope (zsS X.env scope.names) G.objs.size X.env)) (RR (.ref s2.heap.objs.size) G.objs.size) s3 := by
  rintro s3 rfl
  refine zjj (fun n s' => ∃ i H' ys us, Inv (zeV X scope NY s2 H2 G.objs.size fp) [(s2.heap.objs.size, LCg.lst us)] (List.replicate k none ++ σ) H' s' ∧ zca ys us ∧ tn i s'.heap ∧ (∀ b ∈ fp, H' b = none) ∧ W i n ys H') ?_ m0
   ⟨0, H2, [], [], I3, .nil, T.keep _ _ _ st2 fun b _ o e => old b o e, fun b hb => (f2 b hb).1, w0⟩
  rintro n s3 ⟨i, H3, ys, us, I3, rv, st3, fr3, w3⟩ E'
  obtain ⟨hsz, hturn⟩ := turn i n ys H3 w3
  rcases hturn with ⟨stop, qn⟩ | ⟨go, N, hN, step⟩
  ·refine thn (T.done (zeV X scope NY s2 H2 G.objs.size fp) rfl rfl rfl hc i _ s3 _ H3 E' I3 (fpY fr3) st3 stop) fun r s4 ⟨hr, I4⟩ => ?_
   subst hr
   obtain ⟨m4, hn4, _⟩ := I4.loc
   exact fin _ _ H3 s4 ys m4 hCle (I4.pin (s2.heap.objs.size, LCg.lst us) (by simp)).2.1 I4.free hDC hn4 (ztB I2 f2 hCle (Nat.le_refl _) I4 rv (Nat.le_of_lt hsz)) qn
  ·refine thn (T.item (zeV X scope NY s2 H2 G.objs.size fp) rfl rfl rfl hc i _ s3 _ H3 E' I3 (fpY fr3) st3 go) fun r s4 ⟨u, hr, h4⟩ => ?_
   subst hr
   refine thn h4 fun _ s5 ⟨x, H5, I5, r5, y5, st5, fr5⟩ => ?_
   have I5' := I5.pinned (fpY fr5) (T.obj _ _ st5)
   refine zvq (hg _ s5 _ H5 x u _ I5' r5 (step x H5 y5)) fun _ s6 ⟨σ6, H6, I6, sub6, q6⟩ => ?_
   have keep : ∀ {σ7 : St} {H7 : Hp} {s7 : Shared}, Inv (zeV X scope NY s2 H2 G.objs.size fp) ([(s2.heap.objs.size, LCg.lst us)] ++ zi8 fp s5.heap) σ7 H7 s7 → tn (i + 1) s7.heap ∧ (∀ b ∈ fp, H7 b = none) := fun {σ7 H7 s7} I7 => by
    refine ⟨T.keep _ _ _ st5 fun b hb o e => (I7.pin (b, o) (List.mem_append_right _ (List.mem_append_right _ (zeJ hb e)))).1, fun b hb => ?_⟩
    obtain ⟨o, e, d⟩ := T.obj _ _ st5 b hb
    exact (I7.pin (b, o) (List.mem_append_right _ (List.mem_append_right _ (zeJ hb e)))).2.1
   refine zvq (ht _ s6 σ6 H6 _ I6 q6) fun ok s7 ⟨H7, I7, q7⟩ => ?_
   cases ok with
   | false =>
    rw [if_neg Bool.false_ne_true] at q7 ⊢
    obtain ⟨m', hm, w7⟩ := hN _ _ q7
    obtain ⟨k1, k2⟩ := keep I7
    exact ⟨m', hm, i + 1, H7, ys, us, (I7.weak (by rw [I7.len, I5.len]) sub6.2).unpinned, rv, k1, k2, w7⟩
   | true =>
    rw [if_pos rfl] at q7 ⊢
    refine zvq (he _ s7 σ6 H7 _ I7 q7) fun y s8 ⟨v, H8, I8, r8, q8⟩ => ?_
    obtain ⟨m', hm, w8⟩ := hN _ _ q8
    obtain ⟨k1, k2⟩ := keep I8
    obtain ⟨pD, nD, neD, nfD, dD⟩ := I8.pin (s2.heap.objs.size, LCg.lst us) (by simp)
    have hul : us.toArray.size ≤ sizeLine := by rw [List.size_toArray, ← rv.length]; exact Nat.le_of_lt hsz
    refine append_at pD (fun h9 sb9 hD9 => ?_) hul
    have I8' : Inv (zeV X scope NY s2 H2 G.objs.size fp) [] (List.replicate k none ++ σ) H8 s8 := (I8.weak (by rw [I8.len, I5.len]) sub6.2).pins_of fun p hp => absurd hp (by simp)
    have hDfp : s2.heap.objs.size ∉ fp := fun z => Nat.lt_irrefl _ (hfl _ z)
    have I9 : Inv (zeV X scope NY s2 H2 G.objs.size fp) [] (List.replicate k none ++ σ) H8 { s8 with heap := h9 } :=
     I8'.turned (t' := s8.toks) (it := s2.heap.objs.size) (fun b o hb e => (sb9.2 b hb).trans e) nD neD (.inr (Nat.le_refl _)) (fun x c e z => by
      obtain ⟨v', o', e1, e2⟩ := I8.cell x c e
      rw [z, pD] at e1
      have e1' : LCg.lst us = o' := Option.some.inj e1
      rw [← e1'] at e2
      exact dl us v' e2) (fun p hp => absurd hp (by simp [zeV]))
    refine ⟨m', hm, i + 1, H8, ys ++ [v], us ++ [y], I9.pins_of fun p hp => ?_, rv.append (.cons r8 .nil), T.keep _ _ _ k1 fun b hb o e => (sb9.2 b fun z => hDfp (z ▸ hb)).trans e, k2, w8⟩
    have e : p = (s2.heap.objs.size, LCg.lst (us ++ [y])) := by simpa using hp
    subst e
    exact ⟨hD9.trans (congrArg some (LCg.lst_snoc us y)), nD, neD, nfD, dl _⟩
 exact codeAny_compStart_list (loop _ rfl) (T.self _ 0 _ _ _ (T.keep _ _ _ st2 fun b _ o e => old b o e) (loop _ rfl))
section
variable {X : Cx} {tg elt iter : Expr} {ifs : List Expr} {scope : Scope} {pos : Pos} {NY : List Str} {k : Nat} {wi : TI} {g : TG} {tc : TT} {te : TE}
theorem zvs (hc : X.calm = true) (lc : LC X k scope NY) (hi : PI X tg iter wi)
  (hb : ∀ (s₀ : Shared) (H₀ : Hp) (C : Addr) (ex : List Addr), NY.Nodup → PG (zeV X scope NY s₀ H₀ C ex) tg g ∧ PTs (zeV X scope NY s₀ H₀ C ex) ifs tc ∧ PE (zeV X scope NY s₀ H₀ C ex) elt te)
  (hs : ∀ x, foldedSetIterable iter X.env x = pure x := by intro _; rfl) : PE X (.ListComp elt [⟨tg, iter, ifs, 0⟩] scope pos) (tLC k wi g tc te) := by
 intro pins s σ H Q I h
 rw [eval_ListComp]
 refine wpAny_comprehension_free (use := none) rfl hs (zm5 fun x hx e => I.ok.has x.1 (lc.free x hx e)) lc.kind lc.names (thn (hi pins s σ H _ I h) fun v s1 h1 => thn h1 fun itv s2 h2 => ?_)
 obtain ⟨it, fp, tn, J, H2, e, I2, T, st2, f2, W, ⟨m0, w0⟩, turn⟩ := h2
 subst e
 refine zqr (RR := fun acc C => compPost (model X.prog X.w) X.A X.xe none (EP X pins σ Q) acc C) hc lc hb I2 T st2 f2 w0 turn fun C D H4 s4 ys m hC nD nC hDC hn I4 q => ?_
 refine ⟨m, hn, fun h' sb => ?_⟩
 have hCn : upd H4 D (.lst ys) C = none := by rw [zay (Ne.symm hDC)]; exact nC
 obtain ⟨f0, f1, f2', f3, f4, f5⟩ := I2.fpOk (H' := upd H4 D (.lst ys)) hC hCn
 exact ⟨.ref D, _, I4.turned (t' := s4.toks) (fun b o hb e => (sb.2 b hb).trans e) f0 f1 f3 f4 f5, rfl, q D nD⟩
theorem zvt {i : Nat} {y : Str} {py spos : Pos} (hc : X.calm = true) (hN : X.N.Nodup) (hi' : X.N[i]? = some y) (hy : X.env.kindOf y = some .local) (lc : LC X k scope NY) (hi : PI X tg iter wi)
  (hb : ∀ (s₀ : Shared) (H₀ : Hp) (C : Addr) (ex : List Addr), NY.Nodup → PG (zeV X scope NY s₀ H₀ C ex) tg g ∧ PTs (zeV X scope NY s₀ H₀ C ex) ifs tc ∧ PE (zeV X scope NY s₀ H₀ C ex) elt te)
  (hsw : swapsWith (.ListComp elt [⟨tg, iter, ifs, 0⟩] scope pos) (some (.Name y py)) spos.line X.env = pure true := by rfl)
  (hs : ∀ x, foldedSetIterable iter X.env x = pure x := by intro _; rfl) : PS X (.Assign [.Name y py] (.ListComp elt [⟨tg, iter, ifs, 0⟩] scope pos) spos) (zsR (tLC k wi g tc te) (zkn i)) := by
 intro pins s σ H D0 I h
 rw [exec_Assign_Name_used _ _ _ _ hsw]
 refine wpAny_bind (wpAny_standAt (wpAny_bind ?_))
 show wpAny _ X.A (do let _ ← comprehension (.ListComp elt [⟨tg, iter, ifs, 0⟩] scope pos) scope X.env _ (newList []) false (eval iter X.env) (some (assign (.Name y py) X.env))) _ _ s
 refine wpAny_bind (thn (wpAny_comprehension_free (use := some (assign (.Name y py) X.env)) (Q := fun _ s' => SP X pins D0 .next s') rfl hs (zm5 fun x hx e => I.ok.has x.1 (lc.free x hx e)) lc.kind lc.names
  (thn (hi pins s σ H _ I h) fun v s1 h1 => thn h1 fun itv s2 h2 => ?_)) fun _ s' q => wpAny_pure (wpAny_pure q))
 obtain ⟨it, fp, tn, J, H2, e, I2, T, st2, f2, W, ⟨m0, w0⟩, turn⟩ := h2
 subst e
 refine zqr (RR := fun acc C => compPost (model X.prog X.w) X.A X.xe (some (assign (.Name y py) X.env)) (fun _ s' => SP X pins D0 .next s') acc C) hc lc hb I2 T st2 f2 w0 turn fun C D H4 s4 ys m hC nD nC hDC hn I4 q => ?_
 have hCn : upd H4 D (.lst ys) C = none := by rw [zay (Ne.symm hDC)]; exact nC
 obtain ⟨f0, f1, f2', f3, f4, f5⟩ := I2.fpOk (H' := upd H4 D (.lst ys)) hC hCn
 obtain ⟨oC, es, ep, eC, dC, rC⟩ := id hn
 have I5 : Inv X (pins ++ [(C, oC)]) σ (upd H4 D (.lst ys)) s4 := I4.pins_of fun p hp => by
  rcases List.mem_append.mp hp with z | z
  ·exact I4.pin p (List.mem_append_right _ z)
  ·have e : p = (C, oC) := by simpa using z
   subst e
   exact ⟨eC, hCn, f1, f2', fun v z => by rw [show (C, oC).2.data = oC.data from rfl, dC] at z; cases z⟩
 show wpAny _ X.A (assign (.Name y py) X.env (.ref D)) _ _ _
 refine wpAny_assign_Name (zeI (v := .ref D) I5 hN hi' (.inl hy) rfl (fun s5 I6 => ?_) (.inr hy))
 refine ⟨m, ⟨oC, es, ep, (I6.pin (C, oC) (by simp)).1, dC, rC⟩, fun h' sb => ?_⟩
 exact ⟨_, _, I6.unpinned.turned (t' := s5.toks) (fun b o hb e => (sb.2 b hb).trans e) f0 f1 f3 f4 f5, q D nD⟩
end
section
variable {K : PySem.W.Frag} {k : Nat} {g : TG} {tc : TT} {te : TE} {σ : St} {H : Hp} {Fin : List V → Hp → Prop}
end
end L2
end
section
set_option Elab.async false
set_option linter.all false
set_option maxRecDepth 100000
namespace L2
open PySem PySem.Spec PyProof.Rows
theorem zmm {n k : Nat} (hk : 0 < k) (h : n < 2 ^ k) : n.log2 < k := by
 rcases Nat.eq_zero_or_pos n with h0 | hp
 ·rw [h0]; simpa using hk
 ·exact (Nat.log2_lt (Nat.ne_of_gt hp)).mpr h
section
variable {X : Cx}
theorem zpn (hc : X.calm = true) : zde X (.builtin "sum") (fun xs H Q => ∃ (p : Addr) (ns : List Int), xs = [.ref p] ∧ SqL X.K H p (ns.map V.int) ∧ Q (.int ns.sum) H) := by
 intro pins s σ H xs us Q I r h
 obtain ⟨p, ns, rfl, hq, q⟩ := h
 obtain ⟨u, rfl, e⟩ := ziv r
 cases e
 obtain ⟨its, rv, pl, hz⟩ := I.list hq
 have hi := zml rv
 obtain ⟨zs, e⟩ := hi.allInts.items
 have hl : s.heap.IsList p (intItems zs) := by rw [← e]; exact pl.isList
 have hn : (zs.toList.map (·.1)) = ns := by
  have a1 := nums_intItems zs
  rw [← e] at a1
  rw [show its.toArray.toList = its from rfl, hi.numsOf] at a1
  exact a1.symm
 refine sum_intListG (I.ok.hd hc) hl fun h' tk t' hk => ⟨.int ns.sum, H, I.kept hk, ⟨t', ?_⟩, q⟩
 rw [preSum_eq, List.take_of_length_le (by simp), hn]
def gLst (K : PySem.W.Frag) (n : Nat) (t : TGs) : TG := fun v σ H Q => ∃ a xs, v = .ref a ∧ SqL K H a xs ∧ xs.length = n ∧ t xs σ H Q
theorem ztC {es : List Expr} {k : Nat} {t : TGs} {n : Nat} {pos : Pos} (hc : X.calm = true) (h : PGs X es t)
  (hn : (assignEach es X.env).length = n := by rfl) (hst : (assignEach es X.env).findIdx? (·.1) = none := by rfl) : PG X (.Tuple es k pos) (gLst X.K n t) := by
 intro pins s σ H v u Q I r hw
 obtain ⟨a, xs, e1, hq, hl, hw⟩ := hw
 subst e1
 cases r
 obtain ⟨its, rv, pl, hz⟩ := I.list hq
 have hsz : (assignEach es X.env).length = its.toArray.size := by simp [hn, ← hl, rv.length]
 rw [assign_Tuple]
 refine wpAny_bind (wpAny_standAt ?_)
 unfold unpack
 rw [hsz, hst]
 refine wpAny_bind (wpAny_holding (PySem.W.kun_itemsOf (I.ok.hd hc) pl.isList fun h' hx => ?_))
 have I1 : Inv X pins σ H { s with heap := h' } := I.kept (t' := s.toks) fun b o e => hx b o (Nat.ne_of_lt (Heap.lt_size e)) e
 exact h pins _ σ H xs _ Q I1 (by simpa using rv) hw
end
end L2
end
section
set_option linter.all false
namespace Mth
theorem gcd_step (m n : Nat) : Nat.gcd n (m % n) = Nat.gcd m n := by
 rw [Nat.gcd_comm n (m % n), ← Nat.gcd_rec n m, Nat.gcd_comm]
structure ziz (s x y z x' y' z' : Int) : Prop where
 ne : s ≠ 0
 x : x = s * x'
 y : y = s * y'
 z : z = s * z'
theorem zgG {s x x' : Int} (h : s ≠ 0) (e : x = s * x') : x.fdiv s = x' := by
 rw [e]; exact Int.mul_fdiv_cancel_left x' h
theorem zfs {s x x' : Int} (h : s ≠ 0) (e : x = s * x') : x'.natAbs ≤ x.natAbs := by
 rw [e, Int.natAbs_mul]
 exact Nat.le_mul_of_pos_left _ (by omega)
theorem zmn (x y z : Int) (h : ¬ (x = 0 ∧ y = 0 ∧ z = 0)) : ∃ x' y' z', ziz ((Nat.gcd (Nat.gcd x.natAbs y.natAbs) z.natAbs : Nat) : Int) x y z x' y' z' := by
 have d1 : (Nat.gcd (Nat.gcd x.natAbs y.natAbs) z.natAbs) ∣ x.natAbs := Nat.dvd_trans (Nat.gcd_dvd_left _ _) (Nat.gcd_dvd_left _ _)
 have d2 : (Nat.gcd (Nat.gcd x.natAbs y.natAbs) z.natAbs) ∣ y.natAbs := Nat.dvd_trans (Nat.gcd_dvd_left _ _) (Nat.gcd_dvd_right _ _)
 have d3 : (Nat.gcd (Nat.gcd x.natAbs y.natAbs) z.natAbs) ∣ z.natAbs := Nat.gcd_dvd_right _ _
 have n0 : Nat.gcd (Nat.gcd x.natAbs y.natAbs) z.natAbs ≠ 0 := by
  intro e
  rw [e] at d1 d2 d3
  exact h ⟨by have := Nat.eq_zero_of_zero_dvd d1; omega, by have := Nat.eq_zero_of_zero_dvd d2; omega, by have := Nat.eq_zero_of_zero_dvd d3; omega⟩
 have c1 : ((Nat.gcd (Nat.gcd x.natAbs y.natAbs) z.natAbs : Nat) : Int) ∣ x := Int.natAbs_dvd_natAbs.mp (by rw [Int.natAbs_natCast]; exact d1)
 have c2 : ((Nat.gcd (Nat.gcd x.natAbs y.natAbs) z.natAbs : Nat) : Int) ∣ y := Int.natAbs_dvd_natAbs.mp (by rw [Int.natAbs_natCast]; exact d2)
 have c3 : ((Nat.gcd (Nat.gcd x.natAbs y.natAbs) z.natAbs : Nat) : Int) ∣ z := Int.natAbs_dvd_natAbs.mp (by rw [Int.natAbs_natCast]; exact d3)
 obtain ⟨x', e1⟩ := c1
 obtain ⟨y', e2⟩ := c2
 obtain ⟨z', e3⟩ := c3
 exact ⟨x', y', z', by omega, e1, e2, e3⟩
theorem ziz.neg {s x y z x' y' z' : Int} (p : ziz s x y z x' y' z') : ziz (0 - s) x y z (-x') (-y') (-z') := by
 refine ⟨by have := p.ne; omega, ?_, ?_, ?_⟩
 ·rw [p.x, Int.zero_sub, Int.neg_mul_neg]
 ·rw [p.y, Int.zero_sub, Int.neg_mul_neg]
 ·rw [p.z, Int.zero_sub, Int.neg_mul_neg]
theorem zgH {a b B : Nat} (ha : a ≤ B) (hb : b ≤ B) : Nat.gcd a b ≤ B := by
 rcases Nat.eq_zero_or_pos a with h | h
 ·rw [h, Nat.gcd_zero_left]; exact hb
 ·exact Nat.le_trans (Nat.gcd_le_left b h) ha
end Mth
end
section
set_option Elab.async false
set_option linter.all false
set_option maxRecDepth 100000
namespace L2
open PySem PySem.Spec PyProof.Rows
theorem zpo {H : Hp} {p : Addr} (h : H p = none) (o : HO) : zaP H (upd H p o) := fun b u q => by rw [zay (zas q h)]; exact q
theorem zaP.tup {K : PySem.W.Frag} {H H' : Hp} {a : Addr} {xs : List V} (e : zaP H H') (h : SqT K H a xs) : SqT K H' a xs := by
 rcases h with (h | ⟨o, h⟩) | h
 ·exact .inl (.inl (e _ _ h))
 ·exact .inl (.inr ⟨o, e _ _ h⟩)
 ·exact .inr h
theorem zvu {n : Nat} (h : n ≤ 1000) : n ≤ sizeLine := Nat.le_of_lt (zm4 h)
section
variable {X : Cx}
end
section
variable {K : PySem.W.Frag} {a : Addr} {xs : List V} {H : Hp}
theorem lgo (h : SqL K H a xs) : (Itl K a).stop xs.length H ∧ ∀ i, i < xs.length → (Itl K a).go i H ∧ ∀ v H', (Itl K a).yld i H v H' → H' = H ∧ xs[i]? = some v :=
 ⟨⟨xs, h, Nat.le_refl _⟩, fun i hi => ⟨⟨xs, xs[i], h, by simp [hi]⟩, fun v H' y => ⟨y.1, y.2 xs h⟩⟩⟩
theorem tgo (h : SqT K H a xs) : (Itt K a).stop xs.length H ∧ ∀ i, i < xs.length → (Itt K a).go i H ∧ ∀ v H', (Itt K a).yld i H v H' → H' = H ∧ xs[i]? = some v :=
 ⟨⟨xs, h, Nat.le_refl _⟩, fun i hi => ⟨⟨xs, xs[i], h, by simp [hi]⟩, fun v H' y => ⟨y.1, y.2 xs h⟩⟩⟩
end
end L2
end
section
set_option Elab.async false
set_option linter.all false
set_option maxRecDepth 100000
namespace L2
open PySem PySem.Spec PyProof.Rows
structure Fly (B : Heap) (l : List Env) (x : Addr) (cls : Value) (dct : Option Addr) (fl : Value) (h : Heap) : Prop where
 stays : B.StaysIn h
 new : B.get? x = none
 frames : h.FunFrames B l
 obj : ∃ ox vs T oT ts, h.get? x = some ox ∧ ox.cls = cls ∧ ox.dict = dct ∧ ox.data = .fields vs ∧ vs[1]? = some (.ref T) ∧ B.get? T = none ∧ T ≠ x ∧ h.get? T = some oT ∧ oT.data = .fields ts ∧ ts[3]? = some fl
theorem zm6 (o : Obj) (f : Array Value → Array Value) : (o.mapFields f).dict = o.dict := by
 obtain ⟨c, d, dt, sl⟩ := o; cases dt <;> rfl
section
variable {M : Model} {A : Around} {E : Value → Shared → Prop} {s : Shared} {B : Heap} {env : Env} {outer : List Env} {L x : Addr} {Q : Unit → Shared → Prop}
theorem zc0 {h : Heap} {y : Addr} {oy : Obj} {ws : Array Value} (ey : h.get? y = some oy) (dy : oy.data = .fields ws) {b : Addr} {o : Obj} (eb : h.get? b = some o) (nf : ∀ us, o.data ≠ .fields us) : b ≠ y := fun z => by
 rw [z, ey] at eb
 have z' : oy = o := Option.some.inj eb
 rw [← z'] at nf
 exact nf ws dy
theorem zjk {ox : Obj} {vs : Array Value} {head : Value} {hadNext : Bool} (hfr : A.frames = some (env :: outer)) (hl : s.heap.FunFrames B (env :: outer)) (hf : env.frame = some L)
  (ex : s.heap.get? x = some ox) (hB : B.StaysIn s.heap) (nx : B.get? x = none) (dx : ox.data = .fields vs) (sz : 1 < vs.size)
  (k : ∀ h', Fly B (env :: outer) x ox.cls ox.dict (rawInt L) h' → s.heap.UpToSlots h' → Q () { s with heap := h' }) :
  wpAny M A (do let a ← frameOf env; let pl ← entryPlaceOf L hadNext; let b ← EntryCells.newEntry head a .none (rawInt L) .none pl; setField (.ref x) 1 b) Q E s := by
 have nfr : x ∉ (env :: outer).filterMap (·.frame) := fun hm => by
  obtain ⟨_, o, ho, nf⟩ := hl.mem hm
  exact zc0 ex dx ho nf rfl
 refine wpAny_bind (wpAny_frameOf_fun hfr hl hf fun g1 so => wpAny_bind (wpAny_entryPlaceOf fun pl hpl => ?_))
 unfold EntryCells.newEntry newFields
 refine wpAny_bind (wpAny_newObj_type ?_ (hpl.sizeOk5 _ _ _ _ _))
 have ex1 : g1.get? x = some ox := (so.2.1 x nfr).trans ex
 have B1 : B.StaysIn g1 := fun b o eb => (so.2.1 b fun hm => by rw [(hl.mem hm).1] at eb; cases eb).trans (hB b o eb)
 generalize eo : ({ cls := .type "traceback", dict := none, data := .fields ([head, .ref L, .none, rawInt L, .none] ++ (if pl.isEmpty then List.replicate 6 Value.none else pl)).toArray } : Obj) = ob
 have ex2 := Heap.get?_push_of_some (h := g1) ob ex1
 refine wpAny_setField ex2 dx sz (k _ ?_ ?_)
 ·have Tx : g1.objs.size ≠ x := Nat.ne_of_gt (Heap.lt_size ex1)
  have d3 := Obj.data_mapFields dx (·.setIfInBounds 1 (Value.ref g1.objs.size))
  have e3 := Heap.get?_update_self (Obj.mapFields (·.setIfInBounds 1 (Value.ref g1.objs.size))) ex2 (Obj.isFreed_of_fields d3)
  have freeOb : ob.isFreed = false := by rw [← eo]; rfl
  have T3 := (Heap.get?_update_other (g1.push ob) (Obj.mapFields (·.setIfInBounds 1 (Value.ref g1.objs.size))) (Ne.symm Tx)).trans (Heap.get?_push_size g1 freeOb)
  refine ⟨fun b o eb => ?_, nx, hl.of_keeps fun b o eb nf => ?_, _, _, g1.objs.size, ob, _, e3, Obj.cls_mapFields _ _, zm6 _ _, d3, by simp [sz], B1.fresh, Tx, T3, by rw [← eo], ?_⟩
  ·rw [Heap.get?_update_other _ _ (fun z => by rw [← z, nx] at eb; cases eb)]
   exact Heap.get?_push_of_some _ (B1 b o eb)
  ·obtain ⟨sl, q⟩ := so.2.2 b o eb
   refine ⟨{ o with slots := sl }, ?_, rfl⟩
   rw [Heap.get?_update_other _ _ (Ne.symm (zc0 ex dx eb nf))]
   exact Heap.get?_push_of_some _ q
  ·rcases hpl with rfl | ⟨_, _, _, _, _, _, _, rfl⟩ <;> simp
 ·intro b o eb nf
  obtain ⟨sl, q⟩ := so.2.2 b o eb
  refine ⟨sl, ?_⟩
  rw [Heap.get?_update_other _ _ (Ne.symm (zc0 ex dx eb nf))]
  exact Heap.get?_push_of_some _ q
theorem zm7 {ox : Obj} {vs : Array Value} (hfr : A.frames = some (env :: outer)) (hl : s.heap.FunFrames B (env :: outer)) (hf : env.frame = some L)
  (ex : s.heap.get? x = some ox) (hB : B.StaysIn s.heap) (nx : B.get? x = none) (dx : ox.data = .fields vs) (v1 : vs[1]? = some .none)
  (k : ∀ h', Fly B (env :: outer) x ox.cls ox.dict (rawInt L) h' → s.heap.UpToSlots h' → Q () { s with heap := h' }) : wpAny M A (noteFrame (.ref x) env) Q E s := by
 unfold noteFrame
 simp only [hf]
 refine wpAny_bind (wpAny_field ex dx v1 ?_)
 rw [if_neg (show ¬ ((Value.none != Value.none) = true) by decide)]
 exact zjk hfr hl hf ex hB nx dx (Array.getElem?_eq_some_iff.mp v1).1 k
theorem zkT {cls : Value} {dct : Option Addr} (hfr : A.frames = some (env :: outer)) (hf : env.frame = some L) (F : Fly B (env :: outer) x cls dct .none s.heap)
  (k : ∀ h', Fly B (env :: outer) x cls dct (rawInt L) h' → s.heap.UpToSlots h' → Q () { s with heap := h' }) : wpAny M A (noteFrame (.ref x) env) Q E s := by
 obtain ⟨ox, vs, T, oT, ts, ex, hc, hd, dx, v1, nT, Tx, eT, dT, t3⟩ := F.obj
 subst hc hd
 unfold noteFrame
 simp only [hf]
 refine wpAny_bind (wpAny_field ex dx v1 ?_)
 rw [if_pos (show (Value.ref T != Value.none) = true by simp)]
 refine wpAny_bind (wpAny_field eT dT t3 ?_)
 rw [if_neg (show ¬ ((Value.none == rawInt L) = true) by simp [rawInt])]
 refine wpAny_bind (wpAny_setField eT dT (Array.getElem?_eq_some_iff.mp t3).1 ?_)
 have oth : ∀ b, b ≠ T → (s.heap.update T (Obj.mapFields (·.setIfInBounds 3 Value.none))).get? b = s.heap.get? b := fun b hb => Heap.get?_update_other _ _ (Ne.symm hb)
 have up : s.heap.UpToSlots (s.heap.update T (Obj.mapFields (·.setIfInBounds 3 Value.none))) := fun b o eb nf => ⟨o.slots, (oth b (zc0 eT dT eb nf)).trans eb⟩
 refine zjk hfr (F.frames.of_keeps fun b o eb nf => ⟨o, (oth b (zc0 eT dT eb nf)).trans eb, rfl⟩) hf ((oth x (Ne.symm Tx)).trans ex) (fun b o eb => (oth b fun z => by rw [z, nT] at eb; cases eb).trans (F.stays b o eb)) F.new dx
  (Array.getElem?_eq_some_iff.mp v1).1 fun h' f u => k h' f (up.trans u)
theorem zgs {l : List Env} {cls fl : Value} {dct : Option Addr} (F : Fly B l x cls dct fl s.heap)
  (k : ∀ h', Fly B l x cls dct .none h' → s.heap.UpToSlots h' → Q () { s with heap := h' }) : wpAny M A (setFlight (.ref x) none) Q E s := by
 obtain ⟨ox, vs, T, oT, ts, ex, hc, hd, dx, v1, nT, Tx, eT, dT, t3⟩ := F.obj
 have sz : 3 < ts.size := (Array.getElem?_eq_some_iff.mp t3).1
 unfold setFlight
 refine wpAny_bind (wpAny_field ex dx v1 ?_)
 rw [if_pos (show (Value.ref T != Value.none) = true by simp)]
 have oth : ∀ b, b ≠ T → (s.heap.update T (Obj.mapFields (·.setIfInBounds 3 ((none : Option Addr).elim Value.none fun f => rawInt f)))).get? b = s.heap.get? b := fun b hb => Heap.get?_update_other _ _ (Ne.symm hb)
 refine wpAny_setField eT dT sz (k _ ⟨fun b o eb => (oth b fun z => by rw [z, nT] at eb; cases eb).trans (F.stays b o eb), F.new, F.frames.of_keeps fun b o eb nf => ⟨o, (oth b (zc0 eT dT eb nf)).trans eb, rfl⟩,
  ox, vs, T, _, _, (oth x (Ne.symm Tx)).trans ex, hc, hd, dx, v1, nT, Tx, Heap.get?_update_self _ eT (Obj.isFreed_of_fields (Obj.data_mapFields dT _)), Obj.data_mapFields dT _, by simp [sz]⟩
  fun b o eb nf => ⟨o.slots, (oth b (zc0 eT dT eb nf)).trans eb⟩)
theorem Fly.out {cls : Value} {dct : Option Addr} {fl : Value} {h : Heap} (F : Fly B (env :: outer) x cls dct fl h) : Fly B outer x cls dct fl h := ⟨F.stays, F.new, F.frames.2.2, F.obj⟩
end
end L2
end
section
set_option Elab.async false
set_option linter.all false
set_option maxRecDepth 100000
namespace L2
open PySem PySem.Spec PyProof.Rows
theorem zd0.there {P : Program} {w : World} {H : Hp} {h : Heap} {a : Addr} {o : HO} (x : zd0 P w H h a o) : ∃ ob, h.get? a = some ob := by
 cases o with
 | lst xs => obtain ⟨_, _, _, _, e⟩ := x; exact ⟨_, e⟩
 | tup xs => obtain ⟨_, _, _, ob, e, _⟩ := x; exact ⟨ob, e⟩
 | dK kvs => obtain ⟨_, _, _, _, o, _, _, e, _⟩ := x; exact ⟨o, e⟩
 | dT kvs => obtain ⟨_, _, _, _, o, _, _, e, _⟩ := x; exact ⟨o, e⟩
 | set S n => obtain ⟨o, _, _, _, e, _⟩ := x; exact ⟨o, e⟩
 | ins C dx fs => obtain ⟨_, _, _, e, _⟩ := x; exact ⟨_, e⟩
 | own y => exact x
 | xd fs => obtain ⟨_, ⟨o, _, _, e, _⟩, _⟩ := x; exact ⟨o, e⟩
 | rng lo hi => obtain ⟨_, _, _, e⟩ := x; exact ⟨_, e⟩
 | frz ob u => obtain ⟨e, _⟩ := x; exact ⟨_, e⟩
 | tbl ps => exact ⟨_, (show h.get? a = some _ from x)⟩
 | met f y => exact ⟨_, (show h.get? a = some _ from x)⟩
 | ext φ => exact x.2.1
structure InB (B : Heap) (fs : List Addr) (h0 : Heap) (H' : Hp) (h' : Heap) : Prop where
 old : ∀ b o, h0.get? b = some o → b ∉ fs → ∀ o', h'.get? b = some o' → B.get? b = some o'
 trk : ∀ b u, H' b = some u → ∀ o', h'.get? b = some o' → B.get? b = some o'
def CXe (P : Program) (w : World) : CXT := fun outer H s E e s' => ∃ (x C : Addr) (dct : Option Addr) (H' : Hp) (B : Heap), e = .ref x ∧ s'.os = s.os ∧ AllBare s'.gens ∧ Un (frs outer) [] H H' s.heap s'.heap ∧ HOk P w H' s'.heap ∧
 Fly B outer x (.ref C) dct .none s'.heap ∧ InB B (frs outer) s.heap H' s'.heap ∧ H' x = none ∧ E (.ref C) dct H'
section
variable {X : Cx} {pins : List (Addr × Obj)} {σ : St} {H H' : Hp} {s s' : Shared} {x C : Addr} {B : Heap} {E : XK} {dct : Option Addr} {M : Model} {EE : Value → Shared → Prop}
theorem zkU {env : Env} {outer : List Env} {L : Addr} (hf : env.frame = some L) : frs (env :: outer) = L :: frs outer := by
 unfold frs; rw [List.filterMap_cons, hf]
theorem zmo {h' : Heap} {args : List Value} {tk : Nat} (I : Inv X pins σ H s) (hst : X.stack = X.env :: X.outer) (hf : X.env.frame = some X.env.locals) (hex : X.ex = []) (m : Heap.MadeExcOf s.heap h' x (.ref C) args) (hE : E (.ref C) none H) :
  wpAny M X.A (leaving X.env (.ref x)) (fun _ s2 => CXe X.prog X.w X.outer X.H₀ X.s₀ E (.ref x) s2) EE { s with heap := h', toks := tk } := by
 have stk := I.stack
 have hfr : X.A.frames = some (X.env :: X.outer) := by rw [← hst]; exact I.ok.frames
 rw [hst] at stk
 have fc : frs (X.env :: X.outer) = X.env.locals :: X.fs := zkU hf
 have hin : ∀ env ∈ (X.env :: X.outer), ∀ b, env.frame = some b → b ∈ frs (X.env :: X.outer) := fun env he b hb => List.mem_filterMap.mpr ⟨env, he, hb⟩
 generalize eB : PySem.W.hideAll s.heap (frs (X.env :: X.outer)) = B
 have inB : ∀ b o, s.heap.get? b = some o → b ∉ frs (X.env :: X.outer) → B.get? b = some o := fun b o e n => by rw [← eB]; exact PySem.W.hideAll_get _ e n
 have ofB : ∀ b o, B.get? b = some o → s.heap.get? b = some o := fun b o e => by rw [← eB] at e; exact PySem.W.of_hideAll _ e
 have fl0 : s.heap.FunFrames B (X.env :: X.outer) := by rw [← eB]; exact PySem.W.funFrames_hide stk hin
 have nx : B.get? x = none := by
  cases q : B.get? x with
  | none => rfl
  | some o => have := ofB x o q; rw [m.new] at this; cases this
 obtain ⟨t, et, _, _⟩ := m.there
 have tfree : ∀ b u, H b = some u → b ∉ frs (X.env :: X.outer) := fun b u e hb => by
  have := I.stkFree b (by rw [hst]; exact hb)
  rw [e] at this; cases this
 have hHx : H x = none := by
  cases q : H x with
  | none => rfl
  | some u =>
   obtain ⟨ob, e⟩ := (I.hok x u q).there
   rw [m.new] at e; cases e
 unfold leaving
 refine wpAny_bind (zm7 (s := { s with heap := h', toks := tk }) hfr (fl0.of_keeps fun b o e _ => ⟨o, m.keeps b o e, rfl⟩) hf et (fun b o e => m.keeps b o (ofB b o e)) nx rfl rfl fun h1 F1 u1 => zgs F1 fun h2 F2 u2 => ?_)
 have up : s.heap.UpToSlots h2 := (Heap.UpToSlots.of_keeps m.keeps).trans (u1.trans u2)
 have keep2 : ∀ b o, s.heap.get? b = some o → b ∉ frs (X.env :: X.outer) → h2.get? b = some o := fun b o e n => F2.stays b o (inB b o e n)
 have below : ∀ b o, X.s₀.heap.get? b = some o → b ∉ X.fs → b ∉ frs (X.env :: X.outer) := fun b o e nb hb => by
  rw [fc] at hb
  rcases List.mem_cons.mp hb with z | z
  ·exact absurd (Nat.lt_of_lt_of_le (Heap.lt_size e) I.ok.above) (by rw [z]; exact Nat.lt_irrefl _)
  ·exact nb z
 have noex : ∀ b, b ∉ X.ex := fun b z => by rw [hex] at z; cases z
 have slot2 : ∀ b o, s.heap.get? b = some o → b ∈ X.fs → ∃ sl, h2.get? b = some { o with slots := sl } := fun b o e hb => by
  obtain ⟨_, o1, e1, nf⟩ := stk.mem (b := b) (by show b ∈ frs (X.env :: X.outer); rw [fc]; exact List.mem_cons_of_mem _ hb)
  rw [e] at e1; cases e1
  exact up b o e nf
 refine ⟨x, C, none, H, B, rfl, I.os, I.bare, ⟨fun b o e n hb _ => keep2 b o (I.base.keep b o e n hb (noex b)) (below b o e hb), fun b o e n hb _ => ?_, fun b o e n _ => I.base.free b o e n (noex b), fun b o e _ => ?_, I.base.tups, I.base.frzs, I.base.tbls⟩,
  fun b u e => (I.hok b u e).stay (fun c v hc q => keep2 c v q ?_) (fun _ q => q) fun _ _ q => q, F2.out, ⟨fun b o e nb o' e' => ?_, fun b u e o' e' => ?_⟩, hHx, hE⟩
 ·obtain ⟨sl, e1⟩ := I.base.slot b o e n hb (noex b)
  obtain ⟨sl2, e2⟩ := slot2 b _ e1 hb
  exact ⟨sl2, e2⟩
 ·obtain ⟨o1, e1⟩ := I.base.there b o e (noex b)
  by_cases hb : b ∈ X.fs
  ·obtain ⟨sl2, e2⟩ := slot2 b _ e1 hb
   exact ⟨_, e2⟩
  ·exact ⟨o1, keep2 b o1 e1 (below b o e hb)⟩
 ·rcases hc with z | z
  ·rw [z]; exact tfree b u e
  ·exact tfree c _ z
 ·obtain ⟨o1, e1⟩ := I.base.there b o e (noex b)
  have q := inB b o1 e1 (below b o e nb)
  rw [F2.stays b o1 q] at e'
  cases e'; exact q
 ·obtain ⟨o1, e1⟩ := (I.hok b u e).there
  have q := inB b o1 e1 (tfree b u e)
  rw [F2.stays b o1 q] at e'
  cases e'; exact q
theorem zpp {e : Value} (I : Inv X pins σ H s) (hst : X.stack = X.env :: X.outer) (hf : X.env.frame = some X.env.locals) (hex : X.ex = []) (h : CXe X.prog X.w X.stack H s E e s') :
  wpAny M X.A (leaving X.env e) (fun _ s2 => CXe X.prog X.w X.outer X.H₀ X.s₀ E e s2) EE s' := by
 obtain ⟨x, C, dct, H', B, rfl, ho, hg, un, hok, F, ib, nx, hE⟩ := h
 have stk := I.stack
 have hfr : X.A.frames = some (X.env :: X.outer) := by rw [← hst]; exact I.ok.frames
 rw [hst] at stk F ib un
 have fc : frs (X.env :: X.outer) = X.env.locals :: X.fs := zkU hf
 unfold leaving
 refine wpAny_bind (zkT hfr hf F fun h1 F1 u1 => zgs F1 fun h2 F2 u2 => ?_)
 have up : s'.heap.UpToSlots h2 := u1.trans u2
 have below : ∀ b o, X.s₀.heap.get? b = some o → b ∉ X.fs → b ∉ frs (X.env :: X.outer) := fun b o e nb hb => by
  rw [fc] at hb
  rcases List.mem_cons.mp hb with z | z
  ·exact absurd (Nat.lt_of_lt_of_le (Heap.lt_size e) I.ok.above) (by rw [z]; exact Nat.lt_irrefl _)
  ·exact nb z
 have inFs : ∀ b, b ∈ X.fs → b ∈ frs (X.env :: X.outer) := fun b hb => by rw [fc]; exact List.mem_cons_of_mem _ hb
 have noex : ∀ b, b ∉ X.ex := fun b z => by rw [hex] at z; cases z
 have no0 : ∀ b : Addr, b ∉ ([] : List Addr) := fun b => by simp
 have slot2 : ∀ b o, s.heap.get? b = some o → H b = none → b ∈ X.fs → ∃ sl, h2.get? b = some { o with slots := sl } := fun b o e n hb => by
  obtain ⟨_, o1, e1, nf⟩ := stk.mem (b := b) (inFs b hb)
  rw [e] at e1; cases e1
  obtain ⟨sl, e2⟩ := un.slot b o e n (inFs b hb) (no0 b)
  obtain ⟨sl2, e3⟩ := up b _ e2 nf
  exact ⟨sl2, e3⟩
 have free1 : ∀ b o, X.s₀.heap.get? b = some o → X.H₀ b = none → H b = none := fun b o e n => I.base.free b o e n (noex b)
 refine ⟨x, C, dct, H', B, rfl, ho.trans I.os, hg, ⟨fun b o e n hb _ => ?_, fun b o e n hb _ => ?_, fun b o e n _ => ?_, fun b o e _ => ?_, fun b xs q => un.tups b xs (I.base.tups b xs q), fun b o u q => un.frzs b o u (I.base.frzs b o u q), fun b ps q => ?_⟩,
  fun b u e => (hok b u e).stay (fun c v hc q => F2.stays c v ?_) (fun _ q => q) fun _ _ q => q, F2.out, ⟨fun b o e nb o' e' => ?_, fun b u e o' e' => ?_⟩, nx, hE⟩
 ·have e1 := I.base.keep b o e n hb (noex b)
  have e2 := un.keep b o e1 (free1 b o e n) (below b o e hb) (no0 b)
  exact F2.stays b o (ib.old b o e1 (below b o e hb) o e2)
 ·obtain ⟨sl, e1⟩ := I.base.slot b o e n hb (noex b)
  obtain ⟨sl2, e2⟩ := slot2 b _ e1 (free1 b o e n) hb
  exact ⟨sl2, e2⟩
 ·obtain ⟨o1, e1⟩ := I.base.there b o e (noex b)
  exact un.free b o1 e1 (free1 b o e n) (no0 b)
 ·obtain ⟨o1, e1⟩ := I.base.there b o e (noex b)
  obtain ⟨o2, e2⟩ := un.there b o1 e1 (no0 b)
  by_cases hb : b ∈ X.fs
  ·have n : H b = none := I.stkFree b (by rw [hst]; exact inFs b hb)
   obtain ⟨sl2, e3⟩ := slot2 b _ e1 n hb
   exact ⟨_, e3⟩
  ·exact ⟨o2, F2.stays b o2 (ib.old b o1 e1 (below b o e hb) o2 e2)⟩
 ·obtain ⟨m1, e1⟩ := I.base.tbls b ps q
  obtain ⟨m2, e2⟩ := un.tbls b _ e1
  exact ⟨m1 ++ m2, by rw [e2, Array.append_assoc]⟩
 ·rcases hc with z | z
  ·subst z; exact ib.trk c u e v q
  ·exact ib.trk c _ z v q
 ·obtain ⟨o1, e1⟩ := I.base.there b o e (noex b)
  obtain ⟨o2, e2⟩ := un.there b o1 e1 (no0 b)
  have q := ib.old b o1 e1 (below b o e nb) o2 e2
  rw [F2.stays b o2 q] at e'
  cases e'; exact q
 ·obtain ⟨o1, e1⟩ := (hok b u e).there
  have q := ib.trk b u e o1 e1
  rw [F2.stays b o1 q] at e'
  cases e'; exact q
def zo6 (x C : Addr) (dct : Option Addr) : HO := .ext fun h => ∃ o, h.get? x = some o ∧ o.cls = .ref C ∧ o.dict = dct ∧ PySem.W.notCls o = true
theorem zhQ {h3 : Heap} {tk : Nat} (I : Inv X pins σ H s) (ho : s'.os = s.os) (hg : AllBare s'.gens) (un : Un (frs X.stack) [] H H' s.heap s'.heap) (hok : HOk X.prog X.w H' s'.heap) (F : Fly B X.stack x (.ref C) dct .none h3)
  (ib : InB B (frs X.stack) s.heap H' s'.heap) (up : s'.heap.UpToSlots h3) (nx : H' x = none) : Inv X pins σ (upd H' x (zo6 x C dct)) { s' with heap := h3, toks := tk } := by
 have stk := I.stack
 have no0 : ∀ b : Addr, b ∉ ([] : List Addr) := fun b => by simp
 have nex : ∀ b o, s.heap.get? b = some o → b ∉ frs X.stack → b ≠ x := fun b o e nb z => by
  obtain ⟨o2, e2⟩ := un.there b o e (no0 b)
  have q := ib.old b o e nb o2 e2
  rw [z, F.new] at q; cases q
 have nfx : ∀ b, b ∈ frs X.stack → b ≠ x := fun b hb z => by
  obtain ⟨_, o1, e1, nf⟩ := F.frames.mem (b := b) hb
  obtain ⟨ox, vs, T, oT, ts, ex, _, _, dx, _⟩ := F.obj
  rw [z, ex] at e1; cases e1
  exact nf vs dx
 have ne : ∀ b o, s.heap.get? b = some o → b ≠ x := fun b o e => by
  by_cases hb : b ∈ frs X.stack
  ·exact nfx b hb
  ·exact nex b o e hb
 have hok3 : HOk X.prog X.w (upd H' x (zo6 x C dct)) h3 := fun b u e => by
  by_cases hb : b = x
  ·subst hb
   rw [zaA] at e; cases e
   obtain ⟨ox, vs, T, oT, ts, ex, hc, hd, dx, _⟩ := F.obj
   have nc : PySem.W.notCls ox = true := by unfold PySem.W.notCls; rw [dx]
   exact ⟨⟨ox, ex, hc, hd, nc⟩, ⟨ox, ex⟩, fun h1 h2 ⟨o, q, r⟩ k => ⟨o, k o q, r⟩⟩
  ·rw [zay hb] at e
   refine (hok b u e).stay (fun c v hc q => F.stays c v ?_) (fun c q => by rw [zay (zas q nx)]; exact q) fun c xs q => by rw [zay (zas q nx)]; exact q
   rcases hc with z | z
   ·subst z; exact ib.trk c u e v q
   ·exact ib.trk c _ z v q
 have U : Un (frs X.stack) [] H (upd H' x (zo6 x C dct)) s.heap h3 := by
  refine ⟨fun b o e n hb _ => ?_, fun b o e n hb _ => ?_, fun b o e n _ => ?_, fun b o e _ => ?_, fun b xs q => ?_, fun b o u q => ?_, fun b ps q => ?_⟩
  ·exact F.stays b o (ib.old b o e hb o (un.keep b o e n hb (no0 b)))
  ·obtain ⟨sl, e1⟩ := un.slot b o e n hb (no0 b)
   obtain ⟨_, o1, e2, nf⟩ := stk.mem (b := b) hb
   rw [e] at e2; cases e2
   obtain ⟨sl2, e3⟩ := up b _ e1 nf
   exact ⟨sl2, e3⟩
  ·rw [zay (ne b o e)]; exact un.free b o e n (no0 b)
  ·obtain ⟨o2, e2⟩ := un.there b o e (no0 b)
   by_cases hb : b ∈ frs X.stack
   ·have n : H b = none := I.stkFree b hb
    obtain ⟨sl, e1⟩ := un.slot b o e n hb (no0 b)
    obtain ⟨_, o1, e3, nf⟩ := stk.mem (b := b) hb
    rw [e] at e3; cases e3
    obtain ⟨sl2, e4⟩ := up b _ e1 nf
    exact ⟨_, e4⟩
   ·exact ⟨o2, F.stays b o2 (ib.old b o e hb o2 e2)⟩
  ·have z := un.tups b xs q
   rw [zay (zas z nx)]; exact z
  ·have z := un.frzs b o u q
   rw [zay (zas z nx)]; exact z
  ·obtain ⟨more, z⟩ := un.tbls b ps q
   exact ⟨more, by rw [zay (zas z nx)]; exact z⟩
 have J := I.call (g' := s'.gens) (t' := tk) (d' := s'.drawn) (ch := []) U hok3 hg (fun b z => absurd z (no0 b))
 obtain ⟨hh, g, d, t, os⟩ := s'
 have e : os = s.os := ho
 subst e
 exact J
end
end L2
end
section
set_option Elab.async false
set_option linter.all false
set_option maxRecDepth 100000
namespace L2
open PySem PySem.Spec PyProof.Rows PySem.W
section
variable {prog : Program} {w : World} {A : Around} {E : Value → Shared → Prop} {s : Shared} {K : Frag} {x D : Addr} {ox : Obj} {od : Option Obj} {name : Str} {tk : Tok}
theorem zm8 {M : Model} {nameV : Value} {Q : Unit → Shared → Prop} (X : K.In s.heap) (I : InstAt s.heap x ox D od) (hb : mroIn K D (.type "BaseException") = some true) (hq : Q () s) :
  wpAny M A (checkBuiltinCall "BaseException.__getattribute__" ⟨[.ref x, nameV], []⟩) Q E s := by
 have hk : builtinKind "BaseException.__getattribute__" = some .slot := by decide +kernel
 have hsp : splitId "BaseException.__getattribute__" = some ("BaseException", "__getattribute__") := by decide +kernel
 have ha := F.args_bexc_ga (.ref x) nameV
 obtain ⟨hh, g, d, t, os⟩ := s
 have L0 : Looks M hh (isInstance (.ref x) (.type "BaseException")) true := (I.type (M := M)).andThen (looks_mroIn X hb)
 simp only [checkBuiltinCall, hk, hsp]
 refine wpAny_bind (L0.at ?_)
 repeat (any_goals (first | assumption | wp_step))
theorem ztD {R : Result → Shared → Prop} {g a : Value} (X : K.In s.heap) (I : InstAt s.heap x ox D od) (hb : mroIn K D (.type "BaseException") = some true) (hf : findObj K D od name = some (.bind g a))
  (h : wpAny (model prog w) A.in1 (call g [a, .ref x, .ref D]) (fun v s' => R (.ok (.ret v)) s') (fun e s' => R (.error e) s') s) :
  codeAny (model prog w) A (.call (.builtin "BaseException.__getattribute__") ⟨[.ref x, .str name tk], []⟩) R s := by
 refine codeAny_call_builtin F.attr_ValueError.ga.plain F.entry_bexc_ga (zm8 X I hb ?_)
 obtain ⟨hh, gg, d, t, os⟩ := s
 have L0 := I.type (M := model prog w)
 have L1 := looks_find (M := model prog w) X I hf
 unfold Builtin.«object.__getattribute__»
 refine wpAny_bind (wpAny_of_eq (a := (Value.ref x, [Value.str name tk])) rfl ?_)
 refine wpAny_bind (wpAny_of_eq (a := name) rfl ?_)
 refine wpAny_bind (L0.at (wpAny_bind (L1.at ?_)))
 show wpAny _ _ (do ret (← holding [a] (call g [a, Value.ref x, Value.ref D]))) _ _ _
 exact wpAny_bind (wpAny_holding (wpAny_mono h (fun v s' q => wpAny_pure q) fun e s' q => q))
theorem zjl {a g : Value} (hc : (clsIn K D).isSome = true) (ha : findIn K (.ref D) name = some (some a)) (hg : specialIn K a "__get__" = some (some g)) (ht : takesIn K a = some true) : findObj K D od name = some (.bind g a) := by
 obtain ⟨cd, hc⟩ := Option.isSome_iff_exists.mp hc
 unfold findObj
 rw [hc, Option.bind_some, ha, Option.bind_some]
 simp [hg, ht]
structure zr2 (K : Frag) (D : Addr) : Prop where
 cls : (clsIn K D).isSome = true
 ga : findIn K (.ref D) "__getattribute__" = some (some (.builtin "BaseException.__getattribute__"))
 gh : findIn K (.ref D) "__getattr__" = some none
 base : mroIn K D (.type "BaseException") = some true
 obj : mroIn K D (.type "object") = some true
 ca : findIn K (.ref D) "__class__" = some (some (.builtin "object.__class__"))
 cg : specialIn K (.builtin "object.__class__") "__get__" = some (some (.builtin "getset_descriptor.__get__"))
 ct : takesIn K (.builtin "object.__class__") = some true
theorem zm9 {Q : Option Value → Shared → Prop} (c : zr2 K D) (X : K.In s.heap) (I : InstAt s.heap x ox D od) (h : Q (some (.ref D)) { s with toks := s.toks + 1 }) :
  wpAny (model prog w) A (getAttr? (.ref x) "__class__") Q E s := by
 obtain ⟨hh, gg, d, t, os⟩ := s
 have L0 := I.type (M := model prog w)
 have L1 := looks_findIn (M := model prog w) X c.ga
 have L2 := looks_findIn (M := model prog w) X c.gh
 have hf : findObj K D od "__class__" = some (.bind (.builtin "getset_descriptor.__get__") (.builtin "object.__class__")) := zjl c.cls c.ca c.cg c.ct
 have hx1 : (onTheHeap (Value.ref D) && Value.builtin "BaseException.__getattribute__" == Value.builtin "object.__getattribute__") = false := by
  rw [show (Value.builtin "BaseException.__getattribute__" == Value.builtin "object.__getattribute__") = false by decide +kernel]; rfl
 unfold getAttr? getAttrBy? getAttrBy
 refine wpAny_bind (wpAny_mkText (wpAny_bind (wpAny_attempt (wpAny_holding (wpAny_bind (L0.at (wpAny_bind (L1.at ?_))))))))
 dsimp only
 rw [hx1, if_neg Bool.false_ne_true]
 unfold getAttrByItsOwn
 refine wpAny_bind ?_
 show wpAny _ _ (typeLookup (.ref D) "__getattr__") _ _ _
 refine L2.at ?_
 refine wpAny_bind (wpAny_attempt (wpAny_holding ?_))
 show wpAny _ _ (boundAndCalled (.builtin "BaseException.__getattribute__") (.ref x) (.str "__class__" t)) _ _ _
 unfold boundAndCalled
 refine wpAny_bind (wpAny_of_eq (F.attr_ValueError.ga.bind (.ref x)) ?_)
 refine wpAny_call (ztD X I c.base hf ?_)
 refine wpAny_call (class_get X I c.obj ?_)
 exact handed_on rfl (wpAny_pure h)
theorem zkV (c : zr2 K D) : KitX K (.ref x) (.ref D) (fun h => ∃ ox od, InstAt h x ox D od) where
 ty := fun _ _ _ ⟨_, _, I⟩ => I.type
 it := fun _ _ X _ => by
  obtain ⟨cdD, hcD⟩ := Option.isSome_iff_exists.mp c.cls
  unfold clsIn at hcD
  split at hcD
  ·rename_i c' d' cd' sl' ho
   intro A' Q' E' s' k q
   unfold isType loadHead
   exact wpAny_bind (wpAny_loadPart (k _ _ (X _ _ ho)) (wpAny_pure q))
  ·cases hcD
 ne := fun h tp dd its n sl X htp => by
  obtain ⟨cdD, hcD⟩ := Option.isSome_iff_exists.mp c.cls
  refine Bool.eq_false_iff.mpr fun q => ?_
  have e : D = tp := Value.ref.inj (beq_iff_eq.mp q)
  subst e
  unfold clsIn at hcD
  split at hcD
  ·rename_i c' d' cd' sl' ho
   have z := (X _ _ ho).symm.trans htp
   cases z
  ·cases hcD
 ca := fun X ⟨_, _, I⟩ k => zm9 c X I k
end
end L2
end
section
set_option Elab.async false
set_option linter.all false
set_option maxRecDepth 100000
namespace L2
open PySem PySem.Spec PyProof.Rows
section
variable {P : Program} {w : World} {K : PySem.W.Frag} {mg : Str → Option Value} {base : Heap}
theorem Fun.okX {CX : CXT} {x qual : Str} {st : Stmt} {f : Addr} {fd : FuncData} {N ps : List Str} {k : Nat} {sp : Sp} (F : Fun K x qual st f fd) (S : zaw N ps (zag st)) (len : ∀ vs H Q E, sp vs H Q E → vs.length = ps.length)
  (hbody : ∀ (cdv : Value) (A : Around) (outer : List Env) (s : Shared) (H : Hp) (vs : List V) (Q : VK) (E : XK), zhw k (A.deeper (envOfC qual (zag st) s.heap.objs.size f cdv)) → sp vs H Q E →
   ∃ t, PSs (zi5 CX P w K mg base N qual (zag st) f cdv A outer s H E) (zau st) t ∧ t { nx := fun _ H' => Q .non H', rt := Q } (start N vs) H) : zhN P w K mg base CX (k + 1) f fd ps sp := by
 obtain ⟨oc, od, kV, doc, pm, an, cdv, ct, osl, rfl, lk, hcd⟩ := F.ex
 exact zvj lk hcd S len fun A outer s H vs Q E hr hsp => hbody cdv A outer s H vs Q E hr hsp
theorem ztE {N : List Str} {qual : Str} {scope : Scope} {f : Addr} {cdv : Value} {A : Around} {outer : List Env} {s : Shared} {H : Hp} {E : XK} : zi9 (CXe P w) (zi5 (CXe P w) P w K mg base N qual scope f cdv A outer s H E) E :=
 fun pins σ H1 s1 e s' I h => zpp (X := zi5 (CXe P w) P w K mg base N qual scope f cdv A outer s H E) I rfl rfl rfl h
theorem zvv {X : Cx} : zi9 (CXe P w) X E0 := fun _ _ _ _ _ _ _ h => by
 obtain ⟨_, _, _, _, _, _, _, _, _, _, _, _, _, z⟩ := h
 exact z.elim
end
theorem zr3 {K : PySem.W.Frag} {h : Heap} {C : Addr} {bmB : List Value} {newId : String} (X : K.In h) (q : PySem.W.excIn K C bmB newId = true) :
  ∃ bm N nm qn bs hdct sn sub ab col dd k0 k1 k2 k3 k5 mN, h.get? C = some (excClassObj nm qn C N bs bm hdct sn sub ab col dd k0 k1 k2 k3 k5 newId) ∧ h.Ns N mN ∧ mN "__init__" = none ∧ OwnTail h bmB bm := by
 unfold PySem.W.excIn at q
 split at q
 ·rename_i dd cd sl lk
  split at q
  ·rename_i C' bm k0 k1 k2 k3 nn k5 hm hs
   simp only [Bool.and_eq_true, beq_iff_eq, Bool.not_eq_true'] at q
   obtain ⟨⟨⟨⟨⟨rfl, rfl⟩, hdel⟩, ht⟩, hok⟩, hni⟩ := q
   obtain ⟨nm, bs, mro, ns, qn, hd, sn, sub, ab, col, del⟩ := cd
   dsimp only at hm hdel hok hni
   subst hm hdel
   obtain rfl : sl = #[k0, k1, k2, k3, some (.builtin nn), k5] := by
    obtain ⟨l⟩ := sl
    simp only at hs
    rw [hs]
   exact ⟨bm, ns, nm, qn, bs, hd, sn, sub, ab, col, dd, k0, k1, k2, k3, k5, _, X _ _ lk, .of_isNs (PySem.W.isNs_of_in X hok), PySem.W.nsMap_none_of_in X hok hni, PySem.W.tail_of_in X ht⟩
  ·cases q
 ·cases q
def ztF (C : Addr) (ta : TA) (E : XK) : TS := fun _ σ H => ta σ H fun vs H1 => vs.length ≤ sizeLine ∧ E (.ref C) none H1
section
variable {P : Program} {w : World} {K : PySem.W.Frag} {mg : Str → Option Value} {base : Heap} {N : List Str} {qual : Str} {scope : Scope} {f : Addr} {cdv : Value} {A : Around} {outer : List Env} {s0 : Shared} {H0 : Hp} {E : XK}
theorem zpq {x : Str} {C : Addr} {e0 : Expr} {zcB : List Expr} {np cpos pos : Pos} {ta : TA} (q : PySem.W.excIn K C [.type "ValueError", .type "Exception", .type "BaseException", .type "object"] "ValueError.__new__" = true)
  (hg : Gl (zi5 (CXe P w) P w K mg base N qual scope f cdv A outer s0 H0 E) x) (hm : mg x = some (.ref C)) (ha : PA (zi5 (CXe P w) P w K mg base N qual scope f cdv A outer s0 H0 E) (e0 :: zcB) ta)
  (hdb : (x == ("__debug__" : Str)) = false := by decide)
  (he : starEach (e0 :: zcB) (envOfC qual scope s0.heap.objs.size f cdv) = (false, eval e0 (envOfC qual scope s0.heap.objs.size f cdv)) :: starEach zcB (envOfC qual scope s0.heap.objs.size f cdv) := by rfl)
  (hpl : (backTo cpos (starEach zcB (envOfC qual scope s0.heap.objs.size f cdv))).any (·.1) = false := by rfl) :
  PS (zi5 (CXe P w) P w K mg base N qual scope f cdv A outer s0 H0 E) (.Raise (some (.Call (.Name x np) (e0 :: zcB) [] cpos)) none pos) (ztF C ta E) := by
 intro pins s σ H D I h
 obtain ⟨bm, Nn, nm, qn, bs, hdct, sn, sub, ab, col, dd, k0, k1, k2, k3, k5, mN, hC, hN, hni, T⟩ := zr3 I.mod.kin q
 refine wpAny_Raise_call_subT (C := C) (nm := nm) (q := qn) (N := Nn) (bs := bs) (bm := bm) (hdct := hdct) (sn := sn) (sub := sub) (ab := ab) (col := col) (dd := dd) (k0 := k0) (k1 := k1) (k2 := k2) (k3 := k3) (k5 := k5)
  PySem.F.excBase_ValueError (mN := mN) (T.hasType PySem.F.excBase_ValueError.hasBase) (I.ok.hd rfl) (by
   show (backTo cpos (starEach (e0 :: zcB) (envOfC qual scope s0.heap.objs.size f cdv))).any (·.1) = false
   rw [he]; show (false || (backTo cpos (starEach zcB (envOfC qual scope s0.heap.objs.size f cdv))).any (·.1)) = false; rw [hpl]; rfl) hni (zgB I hg hm ⟨rfl, ?_⟩ hdb)
 have ha' := ha cpos pins s σ H _ I h
 show wpAny _ _ (evalArgs (.ref C) true (backTo cpos (starEach (e0 :: zcB) (envOfC qual scope s0.heap.objs.size f cdv))) []) _ _ _
 change wpAny _ _ (spliced (backTo cpos (starEach (e0 :: zcB) (envOfC qual scope s0.heap.objs.size f cdv)))) _ _ _ at ha'
 rw [he] at ha' ⊢
 refine Calls.evalArgs_plain (thn ha' fun us s2 ⟨vs, H1, I1, r, hz, hE⟩ => ?_)
 have hl : us.length ≤ sizeLine := by rw [← r.length]; exact hz
 exact ⟨rfl, hl, I1.bk _ _ hC, hN.keeps I1.bk, T.keeps I1.bk, fun h' e m => zmo (tk := s2.toks) I1 rfl rfl rfl m hE⟩
end
end L2
end
section
set_option Elab.async false
set_option linter.all false
set_option maxRecDepth 100000
namespace L2
open PySem PySem.Spec PyProof.Rows
abbrev TEX := St → Hp → VK → XK → Prop
abbrev TSX := zmP → XK → St → Hp → Prop
def XP (X : Cx) (CX : CXT) (pins : List (Addr × Obj)) (σ : St) (E : XK) (e : Value) (s' : Shared) : Prop := ∃ s1 H1, Inv X pins σ H1 s1 ∧ CX X.stack H1 s1 E e s'
def PEX (X : Cx) (CX : CXT) (e : Expr) (t : TEX) : Prop :=
 ∀ (pins : List (Addr × Obj)) (s : Shared) (σ : St) (H : Hp) (Q : VK) (E : XK), Inv X pins σ H s → t σ H Q E → wpAny (model X.prog X.w) X.A (eval e X.env) (EP X pins σ Q) (XP X CX pins σ E) s
def PSX (X : Cx) (CX : CXT) (st : Stmt) (t : TSX) : Prop :=
 ∀ (pins : List (Addr × Obj)) (s : Shared) (σ : St) (H : Hp) (D : zmP) (E : XK), Inv X pins σ H s → t D E σ H → wpAny (model X.prog X.w) X.A (exec st X.env) (SP X pins D) (XP X CX pins σ E) s
def zvw (X : Cx) (CX : CXT) (st : List Stmt) (t : TSX) : Prop :=
 ∀ (pins : List (Addr × Obj)) (s : Shared) (σ : St) (H : Hp) (D : zmP) (E : XK), Inv X pins σ H s → t D E σ H → wpAny (model X.prog X.w) X.A (execs st X.env) (SP X pins D) (XP X CX pins σ E) s
section
variable {X : Cx} {CX : CXT} {k : Nat} {f : Addr} {fd : FuncData} {ps : List Str} {sp : Sp} {dvs : List V} {ds : List Value} {x : Str} {p pos : Pos} {e : Expr} {es : List Expr} {t : TA}
def ztG (sp : Sp) (dvs : List V) (t : TA) : TEX := fun σ H Q E => t σ H fun vs H1 => sp (vs ++ dvs) H1 Q E
theorem zpr (F : zhN X.prog X.w X.K X.mg X.base CX k f fd ps sp) (hr : zhw k X.A) (hg : Gl X x) (hm : X.mg x = some (.ref f)) (hk : PySem.W.keepIn X.K (.ref f) = true) (hb : zbg X.K fd ps ds) (hd : zca dvs ds)
  (ha : PA X.nox (e :: es) t) (hdb : (x == ("__debug__" : Str)) = false := by decide) (he : starEach (e :: es) X.env = (false, eval e X.env) :: starEach es X.env := by rfl) (hpl : (backTo pos (starEach es X.env)).any (·.1) = false := by rfl) :
  PEX X CX (.Call (.Name x p) (e :: es) [] pos) (ztG sp dvs t) := by
 intro pins s σ H Q E I h
 refine wpAny_Call_Name_kw (zgB I hg hm ?_ hdb)
 refine PySem.W.callWith_K (h₀ := X.base) I.ok.mod.kin hk (wpAny_mono (ha pos pins s σ H _ (I.wish _) h) (fun us s1 ⟨vs, H1, I1', r, q⟩ => ?_) fun _ _ z => False.elim z) he hpl
 have I1 : Inv X pins σ H1 s1 := I1'.unwish
 refine ⟨I1.kIn, ?_⟩
 have r2 : zca (vs ++ dvs) (us ++ ds) := r.append hd
 have hl : (us ++ ds).length = ps.length := by rw [← r2.length]; exact F.len _ _ _ _ q
 refine wpAny_call (codeAny_mono (F.run X.A X.stack s1 H1 ⟨us, []⟩ (us ++ ds) (vs ++ dvs) Q E hr I1.env0 (hb s1 us I1.kIn hl) r2 q) fun r s' hq => ?_)
 cases r with
 | error e => exact ⟨s1, H1, I1, hq⟩
 | ok fl =>
  cases fl with
  | ret u => exact I1.after hq
  | next => exact False.elim hq
  | brk => exact False.elim hq
  | cont => exact False.elim hq
def zvx (t : TEX) : TSX := fun D E σ H => t σ H (fun _ H1 => D.nx σ H1) E
theorem zps {te : TEX} (he : PEX X CX e te) (hs : swapsWith e none pos.line X.env = pure false := by rfl) : PSX X CX (.Expr e pos) (zvx te) := by
 intro pins s σ H D E I h
 exact wpAny_Expr_any (thn (he pins s σ H _ E I h) fun v s1 ⟨y, H1, I1, r1, q1⟩ => ⟨σ, H1, I1, q1⟩) I.quiet hs
theorem zpt {st : Stmt} {ts : TSX} (h1 : PSX X CX st ts) : zvw X CX [st] ts := by
 intro pins s σ H D E I h
 refine wpAny_execs_cons (thn (h1 pins s σ H D E I h) fun fl s1 q => ?_)
 cases fl with
 | next => exact wpAny_execs_nil q
 | ret v => exact q
 | brk => exact q
 | cont => exact q
end
theorem Inv.gone {X : Cx} {pins : List (Addr × Obj)} {σ : St} {H : Hp} {s : Shared} {h' : Heap} {m : Str → Option Value} {n : Str} {v : Option Value} {i : Nat} {tk : Nat} (I : Inv X pins σ H s) (hN : X.N.Nodup) (hi : X.N[i]? = some n)
  (hm : ∀ (j : Nat) (y : Str) (v : V), X.N[j]? = some y → σ[j]? = some (some v) → Vis X.env.scope y → ∃ u, zcb v u ∧ Look X.env s.heap m y u) (hn : h'.Ns X.env.locals (fun y => if y = n then v else m y)) (hs : Heap.SameBut X.env.locals s.heap h') :
  Inv X pins (σ.set i none) H { s with heap := h', toks := tk } := by
 have neL : ∀ b o, X.s₀.heap.get? b = some o → b ≠ X.env.locals := fun b o e => Nat.ne_of_lt (Nat.lt_of_lt_of_le (Heap.lt_size e) I.ok.above)
 have hiσ : i < σ.length := by rw [I.len]; exact (List.getElem?_eq_some_iff.mp hi).1
 refine ⟨I.ok, I.os, I.bare, ⟨fun b o e nn hb hx => (hs.2 b (neL b o e)).trans (I.base.keep b o e nn hb hx), fun b o e nn hb hx => ?_, I.base.free, fun b o e hx => ?_, I.base.tups, I.base.frzs, I.base.tbls⟩, ⟨_, hn, fun j y v' e1 e2 e3 => ?_⟩, fun y c e => ?_, I.free, I.freeC, fun p hp => ?_, fun b ob e => ?_, by simpa using I.len⟩
 ·obtain ⟨sl, e1⟩ := I.base.slot b o e nn hb hx
  exact ⟨sl, (hs.2 b (neL b o e)).trans e1⟩
 ·obtain ⟨o', e1⟩ := I.base.there b o e hx
  exact ⟨o', (hs.2 b (neL b o e)).trans e1⟩
 ·have hj : j ≠ i := fun z => by rw [z, List.getElem?_set_self hiσ] at e2; cases e2
  rw [List.getElem?_set_ne (Ne.symm hj)] at e2
  obtain ⟨u, r, l⟩ := hm j y v' e1 e2 e3
  refine ⟨u, r, ?_⟩
  rcases l with ⟨k, e⟩ | ⟨k, c, e, z⟩
  ·have ny : y ≠ n := fun z => hj (ziu hN e1 (z ▸ hi))
   exact .inl ⟨k, by simp [ny, e]⟩
  ·exact .inr ⟨k, c, e, z.sameBut hs (I.cne y c e)⟩
 ·obtain ⟨w', z⟩ := I.cell y c e
  exact ⟨w', z.sameBut hs (I.cne y c e)⟩
 ·obtain ⟨e, nn, ne, nf, d⟩ := I.pin p hp
  exact ⟨(hs.2 p.1 ne).trans e, nn, ne, nf, d⟩
 ·refine (I.hok b ob e).stay (fun c w' hc q => (hs.2 c ?_).trans q) (fun _ q => q) fun _ _ q => q
  rintro rfl
  rcases hc with z | z
  ·rw [← z, I.free] at e; cases e
  ·rw [I.free] at z; cases z
def hdl (X : Cx) (x : Addr) : Cx := { X with A := X.A.mark (some (.ref x)), calm := false, xe := fun _ _ => False }
section
variable {X : Cx} {pins : List (Addr × Obj)} {σ : St} {H : Hp} {s : Shared} {x : Addr}
theorem Inv.hdl (I : Inv X pins σ H s) (x : Addr) : Inv (hdl X x) pins σ H s :=
 ⟨⟨I.ok.mod, I.ok.kind, I.ok.glob, I.ok.blt, I.ok.above, I.ok.inj, I.ok.has, I.ok.cab, fun z => absurd z (by show ¬ (false = true); decide), I.ok.frames, I.ok.stk, I.ok.exf, I.ok.bs, I.ok.bsz, I.ok.noex, I.ok.exfs, I.ok.funs, I.ok.frf⟩, I.os, I.bare, I.base, I.loc, I.cell, I.free, I.freeC, I.pin, I.hok, I.len⟩
theorem Inv.unhdl (I : Inv (L2.hdl X x) pins σ H s) (ok : X.Ok) : Inv X pins σ H s := ⟨ok, I.os, I.bare, I.base, I.loc, I.cell, I.free, I.freeC, I.pin, I.hok, I.len⟩
end
def tTry (K : PySem.W.Frag) (Dc : Addr) (i : Nat) (tb : TSX) (th : TS) : TS := fun D σ H => ∃ E : XK, tb D E σ H ∧ ∀ (C : Addr) (dct : Option Addr) (H' : Hp) (x : Addr), E (.ref C) dct H' → H' x = none →
 PySem.W.exmOne K (.ref C) (.ref Dc) = some true ∧ th { nx := fun σ' H'' => D.nx (σ'.set i none) H'', rt := fun _ _ => False } (σ.set i (some (.ref x))) (upd H' x (zo6 x C dct))
theorem ztH {X : Cx} {body : List Stmt} {c n : Str} {np hpos pos : Pos} {b0 : Stmt} {suite : List Stmt} {tb : TSX} {th : TS} {i : Nat} {Dc : Addr} (hst : X.stack = X.env :: X.outer) (hf : X.env.frame = some X.env.locals)
  (hN : X.N.Nodup) (hi : X.N[i]? = some n) (hn : X.env.scope.names.lookup n = some .local) (hg : Gl X c) (hm : X.mg c = some (.ref Dc)) (hb : zvw X (CXe X.prog X.w) body tb) (hh : ∀ x, PSs (hdl X x) (b0 :: suite) th)
  (hdb : (c == ("__debug__" : Str)) = false := by decide) : PS X (.Try body [.ExceptHandler (some (.Name c np)) (some n) (b0 :: suite) hpos] [] [] pos) (tTry X.K Dc i tb th) := by
 intro pins s σ H D I h
 obtain ⟨Ex, hbody, hhand⟩ := h
 refine wpAny_Try_except (wpAny_mono (hb pins s σ H D Ex I hbody) (fun fl s1 q => ?_) (fun e s1 q => ?_))
 ·cases fl with
  | next => exact wpAny_execs_nil q
  | ret v => exact q
  | brk => exact q
  | cont => exact q
 obtain ⟨s2, H2, I2, x, C, dct, H', B, rfl, ho, hg', un, hok, F, ib, nx, hE⟩ := q
 obtain ⟨hx, hth⟩ := hhand C dct H' x hE nx
 have hfr : X.A.frames = some (X.env :: X.outer) := by rw [← hst]; exact I.ok.frames
 have F' : Fly B (X.env :: X.outer) x (.ref C) dct .none s1.heap := by rw [← hst]; exact F
 refine zkT hfr hf F' fun h1 F1 u1 => zgs F1 fun h2 F2 u2 => ?_
 have I3 := zhQ (tk := s1.toks) I2 ho hg' un hok (hst ▸ F2) ib (u1.trans u2) nx
 refine wpAny_handleBy_cons (codeAny_handlers_test ?_) (by intro z; cases z)
 refine zgB (X := hdl X x) (I3.hdl x) hg hm ?_ hdb
 obtain ⟨ox, vs, T, oT, ts, ex, hcl, _⟩ := F2.obj
 have LT : PySem.W.Looks (model X.prog X.w) h2 (typeOf (.ref x)) (.ref C) := hcl ▸ (PySem.W.Looks.ld ex).andThen .now
 refine (PySem.W.exm_one (M := model X.prog X.w) I3.kIn LT hx) _ _ _ _ (fun _ _ e => e) ?_
 refine codeAny_handlers_suite_as ?_
 refine zgs F2 fun h3 F3 u3 => ?_
 have I4 := zhQ (tk := s1.toks) I2 ho hg' un hok (hst ▸ F3) ib (u1.trans (u2.trans u3)) nx
 refine zeI (X := hdl X x) (v := .ref x) (I4.hdl x) hN hi (.inl hn) rfl (fun s5 I5 => ?_) (.inr hn)
 refine wpAny_mono (hh x pins s5 _ _ _ I5 hth) (fun fl s6 q6 => ?_) fun _ _ z => False.elim z
 cases fl with
 | ret v => obtain ⟨_, _, _, _, _, z⟩ := q6; exact False.elim z
 | brk => obtain ⟨_, _, _, z⟩ := q6; exact False.elim z
 | cont => obtain ⟨_, _, _, z⟩ := q6; exact False.elim z
 | next =>
  obtain ⟨σ6, H6, I6, q⟩ := q6
  have I7 : Inv X pins σ6 H6 s6 := I6.unhdl I.ok
  obtain ⟨m, hnm, hl⟩ := I7.loc
  have hp : (X.env.scope.kind == .class || (X.env.scope.kind == .module && X.env.locals != X.env.globals)) = false := by rw [I.ok.kind]; rfl
  exact wpAny_nameGoes_keeps hn hnm hp fun h' v hn' hs' => ⟨_, H6, I7.gone hN hi hl hn' hs', q⟩
theorem zna {X : Cx} : zde X (.builtin "isinstance") (fun xs H Q => ∃ (a C : Addr) (c : V) (cv : Value) (b : Bool), xs = [.ref a, c] ∧ H a = some (zo6 a C none) ∧ ((∃ D, c = .ref D ∧ cv = .ref D) ∨ ∃ T, c = .ty T ∧ cv = .type T) ∧ zr2 X.K C ∧ PySem.W.kitOne X.K (.ref C) cv = some b ∧ Q (.bl b) H) := by
 intro pins s σ H xs us Q I r h
 obtain ⟨a, C, c, cv, b, rfl, ha, hc, ec, hk, q⟩ := h
 obtain ⟨u, w', rfl, ru, rw'⟩ := zpg r
 obtain rfl : u = Value.ref a := ru
 have e : w' = cv := by
  rcases hc with ⟨D, rfl, rfl⟩ | ⟨T, rfl, rfl⟩
  ·exact rw'
  ·exact rw'
 subst e
 obtain ⟨⟨o, e1, e2, e3, e4⟩, _, _⟩ := I.hok a _ ha
 have hI : PySem.W.InstAt s.heap a o C none := ⟨e1, e2, e4, by rw [e3]; trivial⟩
 exact PySem.W.kia_one (zkV ec) I.kIn ⟨o, none, hI⟩ hk (fun z => nomatch z) fun tk => ⟨.bl b, H, I.tok tk, rfl, q⟩
end L2
end
section
set_option Elab.async false
set_option linter.all false
set_option maxRecDepth 100000
namespace L2
open PySem PySem.Spec PyProof.Rows
section
variable {X : Cx}
theorem znb (bs : List Bool) : (List.range bs.length).all (fun i => bs.getD i false) = bs.all id := by
 rw [Bool.eq_iff_iff]
 simp only [List.all_eq_true, List.mem_range, id]
 constructor
 ·intro h b hb
  obtain ⟨i, hi, rfl⟩ := List.mem_iff_getElem.mp hb
  have q := h i hi
  simpa [List.getD, hi] using q
 ·intro h i hi
  have q := h _ (List.getElem_mem hi)
  simpa [List.getD, hi] using q
theorem zpu {bs : List Bool} {its : List Value} (r : zca (bs.map V.bl) its) {i : Nat} {v : Value} (h : its.toArray[i]? = some v) : v = .bool (bs.getD i false) := by
 have hl := r.length
 rw [List.length_map] at hl
 have hi : i < bs.length := by
  rw [hl]
  have : its[i]? = some v := by simpa using h
  exact (List.getElem?_eq_some_iff.mp this).1
 obtain ⟨u, hu, ru⟩ := r.get (i := i) (x := .bl bs[i]) (by simp [hi])
 have e : its[i]? = some v := by simpa using h
 rw [hu] at e
 cases e
 rw [show v = .bool bs[i] from ru]
 simp [List.getD, hi]
theorem zpv (hc : X.calm = true) : zde X (.builtin "all") (fun xs H Q => ∃ (p : Addr) (bs : List Bool), xs = [.ref p] ∧ SqL X.K H p (bs.map V.bl) ∧ Q (.bl (bs.all id)) H) := by
 intro pins s σ H xs us Q I r h
 obtain ⟨p, bs, rfl, hq, q⟩ := h
 obtain ⟨u, rfl, e⟩ := ziv r
 cases e
 obtain ⟨its, rv, pl, hz⟩ := I.list hq
 have hl : its.toArray.size = bs.length := by rw [List.size_toArray, ← rv.length, List.length_map]
 have hlt : p < s.heap.objs.size := by obtain ⟨o, e, _⟩ := pl.isList; exact Heap.lt_size e
 refine call_all_walk (wpAny_pyIter_list pl.isList ⟨_, _, _, _, _, _, fun i => bs.getD i false, rfl, Walks.list (A := X.A.in1) (I.ok.hd hc) s.heap.objs.size p (Nat.ne_of_lt hlt) its.toArray, ⟨⟨_, Heap.get?_push_size _ rfl, rfl, rfl⟩, pl.isList.push _⟩, fun i v s' Q' E' hv hQ => ?_, fun h' tk k => ?_⟩)
 ·rw [zpu rv hv]; exact wpAny_truthy_bool hQ
 ·refine ⟨.bl (bs.all id), H, I.kept fun b o e => k b o (fun z => Nat.ne_of_lt (Heap.lt_size e) (by simpa using z)) (Heap.get?_push_of_some _ e), ?_, q⟩
  rw [hl, znb]; rfl
end
end L2
end
section
set_option linter.all false
namespace Mth
def zaR (x y z : Int) : Int := if z ≠ 0 then z else if y ≠ 0 then y else x
def g3 (x y z : Int) : Nat := Nat.gcd (Nat.gcd x.natAbs y.natAbs) z.natAbs
def zer (x y z : Int) : Int := if zaR x y z < 0 then 0 - ((g3 x y z : Nat) : Int) else ((g3 x y z : Nat) : Int)
abbrev NZ (x y z : Int) : Prop := ¬ (x = 0 ∧ y = 0 ∧ z = 0)
theorem zc1 {x y z : Int} (h : NZ x y z) : ziz (zer x y z) x y z (x.fdiv (zer x y z)) (y.fdiv (zer x y z)) (z.fdiv (zer x y z)) := by
 obtain ⟨x', y', z', p⟩ := zmn x y z h
 have key : ∃ x' y' z', ziz (zer x y z) x y z x' y' z' := by
  unfold zer
  by_cases c : zaR x y z < 0
  ·rw [if_pos c]; exact ⟨-x', -y', -z', p.neg⟩
  ·rw [if_neg c]; exact ⟨x', y', z', p⟩
 obtain ⟨x', y', z', p⟩ := key
 rw [zgG p.ne p.x, zgG p.ne p.y, zgG p.ne p.z]
 exact p
theorem ziz.nz {s x y z x' y' z' : Int} (p : ziz s x y z x' y' z') (h : NZ x y z) : NZ x' y' z' := fun q => h (by rw [p.x, p.y, p.z, q.1, q.2.1, q.2.2]; simp)
theorem zvy {x y z : Int} (h : NZ x y z) : g3 x y z ≠ 0 := by
 unfold g3
 intro e
 have e1 := Nat.eq_zero_of_gcd_eq_zero_left e
 have e2 := Nat.eq_zero_of_gcd_eq_zero_right e
 have e3 := Nat.eq_zero_of_gcd_eq_zero_left e1
 have e4 := Nat.eq_zero_of_gcd_eq_zero_right e1
 exact h ⟨by omega, by omega, by omega⟩
theorem zkW (x y z : Int) : (zer x y z).natAbs = g3 x y z := by
 unfold zer
 split <;> omega
theorem znc (s x y z : Int) : g3 (s * x) (s * y) (s * z) = s.natAbs * g3 x y z := by
 unfold g3
 rw [Int.natAbs_mul, Int.natAbs_mul, Int.natAbs_mul, Nat.gcd_mul_left, Nat.gcd_mul_left]
theorem zmp {s : Int} (hs : s ≠ 0) (x y z : Int) : zaR (s * x) (s * y) (s * z) = s * zaR x y z := by
 unfold zaR
 by_cases hz : z = 0
 ·subst hz
  by_cases hy : y = 0
  ·subst hy; simp
  ·have : s * y ≠ 0 := fun e => by rcases Int.mul_eq_zero.mp e with q | q <;> contradiction
   simp [hy, this]
 ·have : s * z ≠ 0 := fun e => by rcases Int.mul_eq_zero.mp e with q | q <;> contradiction
  simp [hz, this]
theorem zjm {x y z : Int} (h : NZ x y z) : zaR x y z ≠ 0 := by
 unfold zaR
 by_cases hz : z = 0
 ·by_cases hy : y = 0
  ·have : x ≠ 0 := fun e => h ⟨e, hy, hz⟩
   simp [hz, hy, this]
  ·simp [hz, hy]
 ·simp [hz]
theorem zpw {x y z x' y' z' : Int} (h : NZ x y z) (p : ziz (zer x y z) x y z x' y' z') : zer x' y' z' = 1 := by
 have hg : g3 x y z = (zer x y z).natAbs * g3 x' y' z' := by
  have e := znc (zer x y z) x' y' z'
  rw [← p.x, ← p.y, ← p.z] at e
  exact e
 rw [zkW] at hg
 have n0 := zvy h
 have g1 : g3 x' y' z' = 1 := by
  have : g3 x y z * 1 = g3 x y z * g3 x' y' z' := by rw [Nat.mul_one]; exact hg
  exact (Nat.eq_of_mul_eq_mul_left (Nat.pos_of_ne_zero n0) this).symm
 have hl : zaR x y z = zer x y z * zaR x' y' z' := by
  have e := zmp p.ne x' y' z'
  rw [← p.x, ← p.y, ← p.z] at e
  exact e
 have ln := zjm (p.nz h)
 have lp : 0 < zaR x' y' z' := by
  by_cases c : zaR x y z < 0
  ·have es : zer x y z < 0 := by unfold zer; rw [if_pos c]; omega
   rcases (show 0 < zaR x' y' z' ∨ zaR x' y' z' ≤ 0 by omega) with q | q
   ·exact q
   ·have q' : zaR x' y' z' < 0 := by omega
    have := Int.mul_pos_of_neg_of_neg es q'
    rw [← hl] at this; omega
  ·have es : 0 < zer x y z := by unfold zer; rw [if_neg c]; omega
   rcases (show 0 < zaR x' y' z' ∨ zaR x' y' z' ≤ 0 by omega) with q | q
   ·exact q
   ·have q' : zaR x' y' z' < 0 := by omega
    have := Int.mul_neg_of_pos_of_neg es q'
    rw [← hl] at this; omega
 unfold zer
 rw [if_neg (by omega), g1]; rfl
theorem ziA (x : Int) : x.fdiv 1 = x := by
 rw [Int.fdiv_eq_ediv_of_nonneg _ (by decide)]; exact Int.ediv_one x
theorem zvz {x y z : Int} {B : Nat} (hx : x.natAbs ≤ B) (hy : y.natAbs ≤ B) (hz : z.natAbs ≤ B) : g3 x y z ≤ B := zgH (zgH hx hy) hz
theorem zr4 {x y z : Int} {B : Nat} (hx : x.natAbs ≤ B) (hy : y.natAbs ≤ B) (hz : z.natAbs ≤ B) : (zer x y z).natAbs ≤ B := by rw [zkW]; exact zvz hx hy hz
end Mth
end
section
set_option Elab.async false
set_option linter.all false
namespace Mth
abbrev P3 := Int × Int × Int
def dot (p q : P3) : Int := p.1 * q.1 + p.2.1 * q.2.1 + p.2.2 * q.2.2
def crs (p q : P3) : P3 := (p.2.1 * q.2.2 - p.2.2 * q.2.1, p.2.2 * q.1 - p.1 * q.2.2, p.1 * q.2.1 - p.2.1 * q.1)
abbrev Nz (p : P3) : Prop := NZ p.1 p.2.1 p.2.2
abbrev sOf (p : P3) : Int := zer p.1 p.2.1 p.2.2
def low (p : P3) : P3 := (p.1.fdiv (sOf p), p.2.1.fdiv (sOf p), p.2.2.fdiv (sOf p))
structure Nrm (p : P3) : Prop where
 nz : Nz p
 one : sOf p = 1
theorem zqs {p : P3} (h : Nz p) : sOf p ≠ 0 ∧ p.1 = sOf p * (low p).1 ∧ p.2.1 = sOf p * (low p).2.1 ∧ p.2.2 = sOf p * (low p).2.2 :=
 ⟨(zc1 h).ne, (zc1 h).x, (zc1 h).y, (zc1 h).z⟩
theorem znd {p : P3} (h : Nz p) : Nrm (low p) := ⟨(zc1 h).nz h, zpw h (zc1 h)⟩
theorem zkp {p q : P3} (h : Nz q) : dot p (low q) = 0 ↔ dot p q = 0 := by
 obtain ⟨h0, h1, h2, h3⟩ := zqs h
 have e : dot p q = sOf q * dot p (low q) := by unfold dot; grind
 rw [e, Int.mul_eq_zero]
 exact ⟨.inr, fun z => z.resolve_left h0⟩
theorem zr5 {p : P3} (h : Nz p) : (low p).1.natAbs ≤ p.1.natAbs ∧ (low p).2.1.natAbs ≤ p.2.1.natAbs ∧ (low p).2.2.natAbs ≤ p.2.2.natAbs := by
 obtain ⟨h0, h1, h2, h3⟩ := zqs h
 exact ⟨zfs h0 h1, zfs h0 h2, zfs h0 h3⟩
theorem Nrm.last {p : P3} (h : Nrm p) : 0 < zaR p.1 p.2.1 p.2.2 ∧ g3 p.1 p.2.1 p.2.2 = 1 := by
 have h1 := h.one
 have h2 := zjm h.nz
 unfold sOf zer at h1
 split at h1 <;> constructor <;> omega
theorem zmq {p q : P3} (hp : Nz p) (hq : Nz q) (h : crs p q = (0, 0, 0)) :
  zaR q.1 q.2.1 q.2.2 * p.1 = zaR p.1 p.2.1 p.2.2 * q.1 ∧ zaR q.1 q.2.1 q.2.2 * p.2.1 = zaR p.1 p.2.1 p.2.2 * q.2.1 ∧ zaR q.1 q.2.1 q.2.2 * p.2.2 = zaR p.1 p.2.1 p.2.2 * q.2.2 := by
 obtain ⟨a, b, c⟩ := p
 obtain ⟨x, y, z⟩ := q
 simp only [crs, Prod.mk.injEq] at h
 obtain ⟨h1, h2, h3⟩ := h
 simp only [Nz, NZ] at hp hq
 unfold zaR
 simp only
 by_cases hc : c = 0
 ·subst hc
  by_cases hz : z = 0
  ·subst hz
   by_cases hb : b = 0
   ·subst hb
    by_cases hy : y = 0
    ·subst hy; grind
    ·have : a = 0 := by
      have := h3
      simp at this
      exact (Int.mul_eq_zero.mp this).resolve_right hy
     exact absurd ⟨this, rfl, rfl⟩ hp
   ·by_cases hy : y = 0
    ·subst hy
     have : x = 0 := by
      have := h3
      simp at this
      exact (Int.mul_eq_zero.mp this).resolve_left hb
     exact absurd ⟨this, rfl, rfl⟩ hq
    ·simp only [ne_eq, not_true_eq_false, if_false, hb, hy, not_false_eq_true, if_true]
     grind
  ·have hb : b = 0 := by
    have := h1
    simp at this
    exact (Int.mul_eq_zero.mp this).resolve_right hz
   have ha : a = 0 := by
    have := h2
    simp at this
    exact (Int.mul_eq_zero.mp this).resolve_right hz
   exact absurd ⟨ha, hb, rfl⟩ hp
 ·by_cases hz : z = 0
  ·subst hz
   have hy : y = 0 := by
    have := h1
    simp at this
    exact (Int.mul_eq_zero.mp this).resolve_left hc
   have hx : x = 0 := by
    have := h2
    simp at this
    exact (Int.mul_eq_zero.mp this).resolve_left hc
   exact absurd ⟨hx, hy, rfl⟩ hq
  ·simp only [ne_eq, hc, hz, not_false_eq_true, if_true]
   grind
theorem zpx {p q : P3} (hp : Nrm p) (hq : Nrm q) (h : p ≠ q) : Nz (crs p q) := by
 intro hz
 apply h
 obtain ⟨e1, e2, e3⟩ := zmq hp.nz hq.nz (Prod.ext hz.1 (Prod.ext hz.2.1 hz.2.2))
 obtain ⟨sp, gp⟩ := hp.last
 obtain ⟨sq, gq⟩ := hq.last
 have g1 := znc (zaR q.1 q.2.1 q.2.2) p.1 p.2.1 p.2.2
 have g2 := znc (zaR p.1 p.2.1 p.2.2) q.1 q.2.1 q.2.2
 rw [e1, e2, e3, g2, gp, gq] at g1
 have e : zaR q.1 q.2.1 q.2.2 = zaR p.1 p.2.1 p.2.2 := by omega
 rw [e] at e1 e2 e3
 have ne : zaR p.1 p.2.1 p.2.2 ≠ 0 := by omega
 exact Prod.ext (Int.eq_of_mul_eq_mul_left ne e1) (Prod.ext (Int.eq_of_mul_eq_mul_left ne e2) (Int.eq_of_mul_eq_mul_left ne e3))
def Col (ps : List P3) : Prop := ∀ p ∈ ps, ∀ q ∈ ps, ∀ r ∈ ps, dot p (crs q r) = 0
theorem zr6 {L p q r : P3} (hL : Nz L) (hp : dot p L = 0) (hq : dot q L = 0) (hr : dot r L = 0) : dot p (crs q r) = 0 := by
 have e1 : dot p (crs q r) * L.1 = 0 := by unfold dot crs at *; grind
 have e2 : dot p (crs q r) * L.2.1 = 0 := by unfold dot crs at *; grind
 have e3 : dot p (crs q r) * L.2.2 = 0 := by unfold dot crs at *; grind
 by_cases h : dot p (crs q r) = 0
 ·exact h
 ·exact absurd ⟨(Int.mul_eq_zero.mp e1).resolve_left h, (Int.mul_eq_zero.mp e2).resolve_left h, (Int.mul_eq_zero.mp e3).resolve_left h⟩ hL
theorem Col.iff {ps : List P3} {p0 o : P3} (h0 : p0 ∈ ps) (ho : o ∈ ps) (hL : Nz (crs p0 o)) : Col ps ↔ ∀ p ∈ ps, dot p (crs p0 o) = 0 :=
 ⟨fun c p hp => c p hp p0 h0 o ho, fun c p hp q hq r hr => zr6 hL (c p hp) (c q hq) (c r hr)⟩
theorem Col.same {ps : List P3} {p0 : P3} (h : ∀ p ∈ ps, p = p0) : Col ps := fun p hp q hq r hr => by
 rw [h p hp, h q hq, h r hr]; unfold dot crs; grind
end Mth
end
section
set_option Elab.async false
set_option linter.all false
namespace Mth
abbrev M3 := P3 × P3 × P3
def mul (m : M3) (p : P3) : P3 := (dot m.1 p, dot m.2.1 p, dot m.2.2 p)
def det (m : M3) : Int := dot m.1 (crs m.2.1 m.2.2)
theorem zpy (a b p q : P3) : dot a p * dot b q - dot b p * dot a q = dot (crs a b) (crs p q) := by unfold dot crs; grind
theorem zvA (m : M3) (p : P3) : det m * p.1 = dot m.1 p * (crs m.2.1 m.2.2).1 + dot m.2.1 p * (crs m.2.2 m.1).1 + dot m.2.2 p * (crs m.1 m.2.1).1 := by unfold det dot crs; grind
theorem zvB (m : M3) (p : P3) : det m * p.2.1 = dot m.1 p * (crs m.2.1 m.2.2).2.1 + dot m.2.1 p * (crs m.2.2 m.1).2.1 + dot m.2.2 p * (crs m.1 m.2.1).2.1 := by unfold det dot crs; grind
theorem zvC (m : M3) (p : P3) : det m * p.2.2 = dot m.1 p * (crs m.2.1 m.2.2).2.2 + dot m.2.1 p * (crs m.2.2 m.1).2.2 + dot m.2.2 p * (crs m.1 m.2.1).2.2 := by unfold det dot crs; grind
theorem zdC {a b : Int} (h : a ≠ 0) (e : a * b = 0) : b = 0 := (Int.mul_eq_zero.mp e).resolve_left h
theorem zqt {m : M3} {p : P3} (h : det m ≠ 0) (hp : Nz p) : Nz (mul m p) := by
 rintro ⟨h1, h2, h3⟩
 have h1 : dot m.1 p = 0 := h1
 have h2 : dot m.2.1 p = 0 := h2
 have h3 : dot m.2.2 p = 0 := h3
 exact hp ⟨zdC h (by rw [zvA, h1, h2, h3]; simp), zdC h (by rw [zvB, h1, h2, h3]; simp), zdC h (by rw [zvC, h1, h2, h3]; simp)⟩
def tms (s : Int) (p : P3) : P3 := (s * p.1, s * p.2.1, s * p.2.2)
theorem zeW {a b : Int} (ha : a ≠ 0) (hb : b ≠ 0) : a * b ≠ 0 := fun e => by rcases Int.mul_eq_zero.mp e with q | q <;> contradiction
theorem zpz (a : P3) : dot a (0, 0, 0) = 0 := by unfold dot; simp
theorem zqu {p q L : P3} (h1 : dot p L = 0) (h2 : dot q L = 0) : crs (crs p q) L = (0, 0, 0) := by
 have e1 : (crs (crs p q) L).1 = dot p L * q.1 - dot q L * p.1 := by unfold crs dot; grind
 have e2 : (crs (crs p q) L).2.1 = dot p L * q.2.1 - dot q L * p.2.1 := by unfold crs dot; grind
 have e3 : (crs (crs p q) L).2.2 = dot p L * q.2.2 - dot q L * p.2.2 := by unfold crs dot; grind
 rw [h1, h2] at e1 e2 e3
 exact Prod.ext (by rw [e1]; simp) (Prod.ext (by rw [e2]; simp) (by rw [e3]; simp))
end Mth
end
section
set_option Elab.async false
set_option linter.all false
namespace Mth
def zkX (ns : List Int) : Nat := ns.foldl (fun g n => Nat.gcd g n.natAbs) 0
def zaE : List Int → Int
 | [] => 0
 | n :: ns => if n = 0 then zaE ns else n
def zdZ (ns : List Int) : Int := if zaE ns < 0 then -((zkX ns : Nat) : Int) else ((zkX ns : Nat) : Int)
def zkj (ns : List Int) : List Int := ns.map fun n => n.fdiv (zdZ ns)
theorem zjn : ∀ (ns : List Int) (g : Nat), (ns.foldl (fun g n => Nat.gcd g n.natAbs) g ∣ g) ∧ ∀ n ∈ ns, ns.foldl (fun g n => Nat.gcd g n.natAbs) g ∣ n.natAbs
 | [], g => ⟨Nat.dvd_refl _, fun n h => by cases h⟩
 | m :: ns, g => by
  obtain ⟨h1, h2⟩ := zjn ns (Nat.gcd g m.natAbs)
  refine ⟨Nat.dvd_trans h1 (Nat.gcd_dvd_left _ _), fun n hn => ?_⟩
  rcases List.mem_cons.mp hn with rfl | hn
  ·exact Nat.dvd_trans h1 (Nat.gcd_dvd_right _ _)
  ·exact h2 n hn
theorem zjo (c : Int) : ∀ (ns : List Int) (g : Nat), (ns.map (c * ·)).foldl (fun g n => Nat.gcd g n.natAbs) (c.natAbs * g) = c.natAbs * ns.foldl (fun g n => Nat.gcd g n.natAbs) g
 | [], g => rfl
 | m :: ns, g => by
  rw [List.map_cons, List.foldl_cons, List.foldl_cons, Int.natAbs_mul, Nat.gcd_mul_left]
  exact zjo c ns _
theorem zpA (c : Int) (ns : List Int) : zkX (ns.map (c * ·)) = c.natAbs * zkX ns := by
 have := zjo c ns 0
 rw [Nat.mul_zero] at this
 exact this
theorem zfe {c : Int} (hc : c ≠ 0) : ∀ ns : List Int, zaE (ns.map (c * ·)) = c * zaE ns
 | [] => by simp [zaE]
 | n :: ns => by
  rw [List.map_cons]
  unfold zaE
  by_cases h : n = 0
  ·subst h; simp [zfe hc ns]
  ·rw [if_neg h, if_neg (zeW hc h)]
theorem zff : ∀ {ns : List Int}, zaE ns ≠ 0 → zaE ns ∈ ns
 | [], h => absurd rfl h
 | n :: ns, h => by
  unfold zaE at h ⊢
  by_cases e : n = 0
  ·rw [if_pos e] at h ⊢; exact List.mem_cons_of_mem _ (zff h)
  ·rw [if_neg e]; exact List.mem_cons_self
theorem zhR : ∀ {ns : List Int} {n : Int}, n ∈ ns → n ≠ 0 → zaE ns ≠ 0
 | m :: ns, n, h, hn => by
  unfold zaE
  by_cases e : m = 0
  ·rw [if_pos e]
   rcases List.mem_cons.mp h with rfl | h
   ·exact absurd e hn
   ·exact zhR h hn
  ·rw [if_neg e]; exact e
theorem ziB {ns : List Int} {n : Int} (h : n ∈ ns) : ((zkX ns : Nat) : Int) ∣ n := Int.ofNat_dvd_left.mpr ((zjn ns 0).2 n h)
theorem zne {ns : List Int} (h : zaE ns ≠ 0) : zkX ns ≠ 0 := fun e => h (by
 have := ziB (zff h)
 rw [e] at this
 obtain ⟨k, hk⟩ := this
 rw [hk]; simp)
theorem zes {ns : List Int} (h : zaE ns ≠ 0) : zdZ ns ≠ 0 := by
 have := zne h
 unfold zdZ; split <;> omega
theorem zpB {ns : List Int} {n : Int} (h : n ∈ ns) : zdZ ns ∣ n := by
 unfold zdZ; split
 ·exact Int.neg_dvd.mpr (ziB h)
 ·exact ziB h
theorem zeK {ns : List Int} (h : zaE ns ≠ 0) {n : Int} (hn : n ∈ ns) : n = zdZ ns * n.fdiv (zdZ ns) := by
 obtain ⟨k, hk⟩ := zpB hn
 rw [zgG (zes h) hk]; exact hk
theorem zkY {c : Int} (hc : c ≠ 0) {ns : List Int} (h : zaE ns ≠ 0) : zdZ (ns.map (c * ·)) = c * zdZ ns := by
 unfold zdZ
 rw [zfe hc, zpA, Int.natCast_mul]
 rcases Int.lt_or_gt_of_ne hc with h1 | h1
 ·have e : ((c.natAbs : Nat) : Int) = -c := by omega
  rw [e]
  rcases Int.lt_or_gt_of_ne h with h2 | h2
  ·rw [if_neg (by have := Int.mul_pos_of_neg_of_neg h1 h2; omega), if_pos h2]; grind
  ·rw [if_pos (Int.mul_neg_of_neg_of_pos h1 h2), if_neg (by omega)]; grind
 ·have e : ((c.natAbs : Nat) : Int) = c := by omega
  rw [e]
  rcases Int.lt_or_gt_of_ne h with h2 | h2
  ·rw [if_pos (Int.mul_neg_of_pos_of_neg h1 h2), if_pos h2]; grind
  ·rw [if_neg (by have := Int.mul_pos h1 h2; omega), if_neg (by omega)]
theorem zkZ {c : Int} (hc : c ≠ 0) {ns : List Int} (h : zaE ns ≠ 0) : zkj (ns.map (c * ·)) = zkj ns := by
 unfold zkj
 rw [zkY hc h, List.map_map]
 apply List.map_congr_left
 intro n hn
 have e := zeK h hn
 show (c * n).fdiv (c * zdZ ns) = n.fdiv (zdZ ns)
 refine zgG (zeW hc (zes h)) ?_
 rw [Int.mul_assoc, ← e]
theorem zpC {ns : List Int} (h : zaE ns ≠ 0) {n : Int} (hn : n ∈ ns) : (n.fdiv (zdZ ns)).natAbs ≤ n.natAbs := zfs (zes h) (zeK h hn)
theorem zk0 : ∀ (ns : List Int) (g : Nat) (k : Nat), g ≤ k → (∀ n ∈ ns, n.natAbs ≤ k) → ns.foldl (fun g n => Nat.gcd g n.natAbs) g ≤ k
 | [], g, k, hg, _ => hg
 | m :: ns, g, k, hg, h => zk0 ns _ k (zgH hg (h m List.mem_cons_self)) fun n hn => h n (List.mem_cons_of_mem _ hn)
theorem zr7 {ns : List Int} {k : Nat} (h : ∀ n ∈ ns, n.natAbs ≤ k) : (zdZ ns).natAbs ≤ k := by
 have := zk0 ns 0 k (Nat.zero_le _) h
 unfold zdZ zkX; split <;> omega
end Mth
end
section
set_option Elab.async false
set_option linter.all false
namespace Mth
theorem zpD (p q : P3) : dot p q = dot q p := by unfold dot; grind
end Mth
end
section
set_option Elab.async false
set_option linter.all false
namespace Mth
def zco (x y z : P3) : Int := dot x (crs y z)
end Mth
end
section
set_option Elab.async false
set_option linter.all false
namespace Mth
end Mth
end
section
set_option Elab.async false
set_option linter.all false
namespace Mth
def C3 (x y z : P3) : Prop := zco x y z = 0
theorem zvD (x y z : P3) : zco y x z = - zco x y z := by unfold zco dot crs; grind
theorem zvE (x y z : P3) : zco x z y = - zco x y z := by unfold zco dot crs; grind
theorem C3.s12 {x y z : P3} (h : C3 x y z) : C3 y x z := by unfold C3 at *; rw [zvD, h]; rfl
theorem C3.s23 {x y z : P3} (h : C3 x y z) : C3 x z y := by unfold C3 at *; rw [zvE, h]; rfl
theorem C3.rot {x y z : P3} (h : C3 x y z) : C3 z x y := h.s23.s12
theorem C3.aab (x y : P3) : C3 x x y := by unfold C3 zco dot crs; grind
theorem C3.aba (x y : P3) : C3 x y x := (C3.aab x y).s23
theorem C3.baa (x y : P3) : C3 y x x := (C3.aba x y).s12
end Mth
end
section
set_option Elab.async false
set_option linter.all false
namespace Mth
abbrev P6 := P3 × P3
def qv (q : P6) (p : P3) : Int := q.1.1 * p.1 * p.1 + q.1.2.1 * p.2.1 * p.2.1 + q.1.2.2 * p.2.2 * p.2.2 + q.2.1 * p.1 * p.2.1 + q.2.2.1 * p.1 * p.2.2 + q.2.2.2 * p.2.1 * p.2.2
def bl (q : P6) (p r : P3) : Int := 2 * q.1.1 * p.1 * r.1 + 2 * q.1.2.1 * p.2.1 * r.2.1 + 2 * q.1.2.2 * p.2.2 * r.2.2 + q.2.1 * (p.1 * r.2.1 + p.2.1 * r.1) + q.2.2.1 * (p.1 * r.2.2 + p.2.2 * r.1) + q.2.2.2 * (p.2.1 * r.2.2 + p.2.2 * r.2.1)
def zar (q : P6) : List Int := [q.1.1, q.1.2.1, q.1.2.2, q.2.1, q.2.2.1, q.2.2.2]
def prd (l m : P3) : P6 := ((l.1 * m.1, l.2.1 * m.2.1, l.2.2 * m.2.2), (l.1 * m.2.1 + l.2.1 * m.1, l.1 * m.2.2 + l.2.2 * m.1, l.2.1 * m.2.2 + l.2.2 * m.2.1))
def comb (x y : Int) (q r : P6) : P6 := ((x * q.1.1 - y * r.1.1, x * q.1.2.1 - y * r.1.2.1, x * q.1.2.2 - y * r.1.2.2), (x * q.2.1 - y * r.2.1, x * q.2.2.1 - y * r.2.2.1, x * q.2.2.2 - y * r.2.2.2))
theorem zqv (l m p : P3) : qv (prd l m) p = dot l p * dot m p := by unfold qv prd dot; grind
theorem zr8 (x y : Int) (q r : P6) (p : P3) : qv (comb x y q r) p = x * qv q p - y * qv r p := by unfold qv comb; grind
theorem ztI (q : P6) (s : Int) (p : P3) : qv q (tms s p) = s * s * qv q p := by unfold qv tms; grind
def zr9 (x y z : Int) (a b c : P3) : P3 := (x * a.1 + y * b.1 + z * c.1, x * a.2.1 + y * b.2.1 + z * c.2.1, x * a.2.2 + y * b.2.2 + z * c.2.2)
theorem ztJ (q : P6) (x y z : Int) (a b c : P3) : qv q (zr9 x y z a b c) = x * x * qv q a + y * y * qv q b + z * z * qv q c + x * y * bl q a b + x * z * bl q a c + y * z * bl q b c := by
 unfold qv bl zr9; grind
theorem zsa (a b c p : P3) : zr9 (zco p b c) (zco a p c) (zco a b p) a b c = tms (zco a b c) p := by
 unfold zr9 tms zco dot crs; exact Prod.ext (by grind) (Prod.ext (by grind) (by grind))
def mx (a b c p : P3) : P3 := (zco p b c * zco a p c, zco p b c * zco a b p, zco a p c * zco a b p)
def ub (q : P6) (a b c : P3) : P3 := (bl q a b, bl q a c, bl q b c)
theorem zjp {q : P6} {a b c : P3} (ha : qv q a = 0) (hb : qv q b = 0) (hc : qv q c = 0) (p : P3) : zco a b c * zco a b c * qv q p = dot (mx a b c p) (ub q a b c) := by
 have e := ztJ q (zco p b c) (zco a p c) (zco a b p) a b c
 rw [zsa, ztI, ha, hb, hc] at e
 rw [e]; unfold dot mx ub; grind
theorem mx_1 (a b c d e : P3) : (crs (mx a b c d) (mx a b c e)).1 = zco a b d * zco a b e * (zco d b c * zco a e c - zco a d c * zco e b c) := by
 unfold crs mx; grind
theorem zvF (a b c d e : P3) : zco d b c * zco a e c - zco a d c * zco e b c = zco a b c * zco d e c := by
 unfold zco dot crs; grind
theorem ztK {n u v : P3} (hn : n.1 ≠ 0) (h1 : crs n u = (0, 0, 0)) (h2 : crs n v = (0, 0, 0)) : crs u v = (0, 0, 0) := by
 unfold crs at *
 simp only [Prod.mk.injEq] at *
 obtain ⟨a1, a2, a3⟩ := h1
 obtain ⟨b1, b2, b3⟩ := h2
 refine ⟨zdC hn ?_, zdC hn ?_, zdC hn ?_⟩ <;> grind
theorem ztL {q q' : P6} {a b c d e : P3} (h1 : zco a b c ≠ 0) (h2 : zco a b d ≠ 0) (h3 : zco a b e ≠ 0) (h4 : zco d e c ≠ 0)
  (qa : qv q a = 0) (qb : qv q b = 0) (qc : qv q c = 0) (qd : qv q d = 0) (qe : qv q e = 0)
  (ra : qv q' a = 0) (rb : qv q' b = 0) (rc : qv q' c = 0) (rd : qv q' d = 0) (re : qv q' e = 0) (p r : P3) : qv q p * qv q' r = qv q r * qv q' p := by
 have D := zeW h1 h1
 have k1 := zjp qa qb qc d
 have k2 := zjp qa qb qc e
 have k3 := zjp ra rb rc d
 have k4 := zjp ra rb rc e
 rw [qd, Int.mul_zero] at k1
 rw [qe, Int.mul_zero] at k2
 rw [rd, Int.mul_zero] at k3
 rw [re, Int.mul_zero] at k4
 have n1 := zqu k1.symm k2.symm
 have n2 := zqu k3.symm k4.symm
 have nz : (crs (mx a b c d) (mx a b c e)).1 ≠ 0 := by
  rw [mx_1, zvF]
  exact zeW (zeW h2 h3) (zeW h1 h4)
 have pr := ztK nz n1 n2
 have lg := zpy (mx a b c p) (mx a b c r) (ub q a b c) (ub q' a b c)
 rw [pr, zpz, ← zjp qa qb qc p, ← zjp ra rb rc r, ← zjp qa qb qc r, ← zjp ra rb rc p] at lg
 have e : (zco a b c * zco a b c) * ((zco a b c * zco a b c) * (qv q p * qv q' r - qv q r * qv q' p)) = 0 := by
  rw [← lg]; grind
 have := zdC D (zdC D e)
 omega
def Nz6 (q : P6) : Prop := zaE (zar q) ≠ 0
theorem znf {q : P6} (h : Nz6 q) : ∃ x ∈ zar q, x ≠ 0 := ⟨_, zff h, h⟩
theorem zsb {q : P6} (h : ∀ p, qv q p = 0) : ∀ x ∈ zar q, x = 0 := by
 have a1 := h (1, 0, 0)
 have a2 := h (0, 1, 0)
 have a3 := h (0, 0, 1)
 have a4 := h (1, 1, 0)
 have a5 := h (1, 0, 1)
 have a6 := h (0, 1, 1)
 unfold qv at a1 a2 a3 a4 a5 a6
 simp only [Int.mul_zero, Int.mul_one, Int.add_zero, Int.zero_add] at a1 a2 a3 a4 a5 a6
 intro x hx
 simp only [zar, List.mem_cons, List.not_mem_nil, or_false] at hx
 rcases hx with rfl | rfl | rfl | rfl | rfl | rfl <;> omega
theorem ztM {q : P6} {p : P3} (h : qv q p ≠ 0) : Nz6 q := fun e => by
 have z : ∀ x ∈ zar q, x = 0 := fun x hx => by
  refine Classical.byContradiction fun hne => ?_
  exact zhR hx hne e
 have a1 := z q.1.1 (by simp [zar])
 have a2 := z q.1.2.1 (by simp [zar])
 have a3 := z q.1.2.2 (by simp [zar])
 have a4 := z q.2.1 (by simp [zar])
 have a5 := z q.2.2.1 (by simp [zar])
 have a6 := z q.2.2.2 (by simp [zar])
 exact h (by unfold qv; rw [a1, a2, a3, a4, a5, a6]; simp)
theorem zsc {q q' : P6} (hq : Nz6 q) (hq' : Nz6 q') (h : ∀ p r, qv q p * qv q' r = qv q r * qv q' p) : zkj (zar q) = zkj (zar q') := by
 obtain ⟨r, hr⟩ : ∃ r, qv q' r ≠ 0 := by
  refine Classical.byContradiction fun hn => ?_
  obtain ⟨x, hx, hx0⟩ := znf hq'
  exact hx0 (zsb (fun p => Classical.byContradiction fun z => hn ⟨p, z⟩) x hx)
 generalize hy : qv q' r = y at hr
 generalize hx : qv q r = x
 have k : ∀ p, y * qv q p = x * qv q' p := fun p => by
  have := h p r
  rw [hy, hx] at this
  rw [Int.mul_comm y, this]
 have a1 := k (1, 0, 0)
 have a2 := k (0, 1, 0)
 have a3 := k (0, 0, 1)
 have a4 := k (1, 1, 0)
 have a5 := k (1, 0, 1)
 have a6 := k (0, 1, 1)
 unfold qv at a1 a2 a3 a4 a5 a6
 simp only [Int.mul_zero, Int.mul_one, Int.add_zero, Int.zero_add, Int.mul_add] at a1 a2 a3 a4 a5 a6
 have e : (zar q).map (y * ·) = (zar q').map (x * ·) := by
  simp only [zar, List.map_cons, List.map_nil, List.cons.injEq, and_true]
  refine ⟨?_, ?_, ?_, ?_, ?_, ?_⟩ <;> omega
 have x0 : x ≠ 0 := fun z => by
  obtain ⟨u, hu, hu0⟩ := znf hq
  have : y * u ∈ (zar q).map (y * ·) := List.mem_map_of_mem hu
  rw [e, z] at this
  obtain ⟨v, _, hv⟩ := List.mem_map.mp this
  exact zeW hr hu0 (by rw [← hv]; simp)
 rw [← zkZ hr hq, e, zkZ x0 hq']
theorem zk1 {ns : List Int} (h : zaE ns ≠ 0) : ns = (zkj ns).map (zdZ ns * ·) := by
 unfold zkj
 rw [List.map_map]
 conv => lhs; rw [← List.map_id ns]
 exact List.map_congr_left fun n hn => zeK h hn
theorem zkq {ns : List Int} (h : zaE ns ≠ 0) : zaE (zkj ns) ≠ 0 := fun e => by
 have e2 := zfe (zes h) (zkj ns)
 rw [← zk1 h, e, Int.mul_zero] at e2
 exact h e2
theorem zpE {ns : List Int} (h : zaE ns ≠ 0) : zkX (zkj ns) = 1 ∧ 0 < zaE (zkj ns) := by
 have e := zkY (zes h) (zkq h)
 rw [← zk1 h] at e
 have e1 : zdZ (zkj ns) = 1 := by
  have : zdZ ns * (zdZ (zkj ns) - 1) = 0 := by rw [Int.mul_sub, ← e]; omega
  have := zdC (zes h) this
  omega
 have g : zkX (zkj ns) ≠ 0 := zne (zkq h)
 have z := zkq h
 unfold zdZ at e1
 split at e1 <;> omega
def zjq (q : P6) : P6 := ((q.1.1.fdiv (zdZ (zar q)), q.1.2.1.fdiv (zdZ (zar q)), q.1.2.2.fdiv (zdZ (zar q))), (q.2.1.fdiv (zdZ (zar q)), q.2.2.1.fdiv (zdZ (zar q)), q.2.2.2.fdiv (zdZ (zar q))))
theorem zjr (q : P6) : zar (zjq q) = zkj (zar q) := rfl
theorem zjs {q q' : P6} (h : zar q = zar q') : q = q' := by
 unfold zar at h
 simp only [List.cons.injEq, and_true] at h
 obtain ⟨h1, h2, h3, h4, h5, h6⟩ := h
 exact Prod.ext (Prod.ext h1 (Prod.ext h2 h3)) (Prod.ext h4 (Prod.ext h5 h6))
theorem ztN {q : P6} (h : Nz6 q) (p : P3) : qv q p = zdZ (zar q) * qv (zjq q) p := by
 have m : ∀ x ∈ zar q, x = zdZ (zar q) * x.fdiv (zdZ (zar q)) := fun x hx => zeK h hx
 have a1 := m q.1.1 (by simp [zar])
 have a2 := m q.1.2.1 (by simp [zar])
 have a3 := m q.1.2.2 (by simp [zar])
 have a4 := m q.2.1 (by simp [zar])
 have a5 := m q.2.2.1 (by simp [zar])
 have a6 := m q.2.2.2 (by simp [zar])
 have e : qv q p = qv ((zdZ (zar q) * (zjq q).1.1, zdZ (zar q) * (zjq q).1.2.1, zdZ (zar q) * (zjq q).1.2.2), (zdZ (zar q) * (zjq q).2.1, zdZ (zar q) * (zjq q).2.2.1, zdZ (zar q) * (zjq q).2.2.2)) p := by
  congr 1
  exact Prod.ext (Prod.ext a1 (Prod.ext a2 a3)) (Prod.ext a4 (Prod.ext a5 a6))
 rw [e]
 generalize zdZ (zar q) = s
 generalize zjq q = r
 unfold qv; grind
theorem zkr {q : P6} (h : Nz6 q) {p : P3} : qv (zjq q) p = 0 ↔ qv q p = 0 := by
 rw [ztN h p]
 constructor
 ·intro e; rw [e, Int.mul_zero]
 ·intro e; exact zdC (zes h) e
def ziC (a b c d e : P3) : P6 := comb (dot (low (crs a c)) e * dot (low (crs b d)) e) (dot (low (crs a b)) e * dot (low (crs c d)) e) (prd (low (crs a b)) (low (crs c d))) (prd (low (crs a c)) (low (crs b d)))
theorem zqw (a b c d e p : P3) : qv (ziC a b c d e) p = dot (low (crs a c)) e * dot (low (crs b d)) e * (dot (low (crs a b)) p * dot (low (crs c d)) p) - dot (low (crs a b)) e * dot (low (crs c d)) e * (dot (low (crs a c)) p * dot (low (crs b d)) p) := by
 unfold ziC; rw [zr8, zqv, zqv]
structure G5 (a b c d e : P3) : Prop where
 abc : ¬ C3 a b c
 abd : ¬ C3 a b d
 abe : ¬ C3 a b e
 acd : ¬ C3 a c d
 ace : ¬ C3 a c e
 ade : ¬ C3 a d e
 bcd : ¬ C3 b c d
 bce : ¬ C3 b c e
 bde : ¬ C3 b d e
 cde : ¬ C3 c d e
theorem zbu {a b c : P3} (h : ¬ C3 a b c) : Nz (crs a b) := fun ⟨z1, z2, z3⟩ => h (by
 refine C3.rot (C3.rot (?_ : C3 c a b))
 show dot c (crs a b) = 0
 unfold dot; rw [z1, z2, z3]; simp)
theorem zkk {a b p : P3} (h : Nz (crs a b)) : dot (low (crs a b)) p = 0 ↔ C3 p a b := by
 rw [zpD, zkp h]; rfl
theorem zk2 {a b c d e : P3} (g : G5 a b c d e) : Nz6 (ziC a b c d e) := by
 have zab := zbu g.abc
 have zac := zbu (fun h => g.abc (C3.s23 h) : ¬ C3 a c b)
 have zcd := zbu g.cde
 have zbd := zbu g.bde
 refine ztM (p := zr9 1 1 0 a b c) ?_
 rw [zqw]
 have ld : ∀ l : P3, dot l (zr9 1 1 0 a b c) = dot l a + dot l b := fun l => by unfold dot zr9; grind
 have z1 : dot (low (crs a b)) a = 0 := (zkk zab).mpr (C3.aab _ _)
 have z2 : dot (low (crs a b)) b = 0 := (zkk zab).mpr (C3.aba _ _)
 have z3 : dot (low (crs a c)) a = 0 := (zkk zac).mpr (C3.aab _ _)
 have z4 : dot (low (crs b d)) b = 0 := (zkk zbd).mpr (C3.aab _ _)
 have y1 : dot (low (crs a c)) b ≠ 0 := fun z => g.abc (C3.s12 ((zkk zac).mp z))
 have y2 : dot (low (crs b d)) a ≠ 0 := fun z => g.abd ((zkk zbd).mp z)
 have y3 : dot (low (crs a b)) e ≠ 0 := fun z => g.abe (C3.rot (C3.rot ((zkk zab).mp z)))
 have y4 : dot (low (crs c d)) e ≠ 0 := fun z => g.cde (C3.rot (C3.rot ((zkk zcd).mp z)))
 rw [ld, ld, ld, ld, z1, z2, z3, z4]
 intro h
 have : dot (low (crs a b)) e * dot (low (crs c d)) e * (dot (low (crs a c)) b * dot (low (crs b d)) a) = 0 := by
  simp only [Int.add_zero, Int.zero_add, Int.zero_mul, Int.mul_zero, Int.zero_sub] at h
  omega
 exact zeW (zeW y3 y4) (zeW y1 y2) this
theorem zng {a b c d e : P3} (g : G5 a b c d e) : qv (ziC a b c d e) a = 0 ∧ qv (ziC a b c d e) b = 0 ∧ qv (ziC a b c d e) c = 0 ∧ qv (ziC a b c d e) d = 0 ∧ qv (ziC a b c d e) e = 0 := by
 have zab := zbu g.abc
 have zac := zbu (fun h => g.abc (C3.s23 h) : ¬ C3 a c b)
 have zcd := zbu g.cde
 have zbd := zbu g.bde
 have z1 : dot (low (crs a b)) a = 0 := (zkk zab).mpr (C3.aab _ _)
 have z2 : dot (low (crs a b)) b = 0 := (zkk zab).mpr (C3.aba _ _)
 have z3 : dot (low (crs a c)) a = 0 := (zkk zac).mpr (C3.aab _ _)
 have z4 : dot (low (crs a c)) c = 0 := (zkk zac).mpr (C3.aba _ _)
 have z5 : dot (low (crs c d)) c = 0 := (zkk zcd).mpr (C3.aab _ _)
 have z6 : dot (low (crs c d)) d = 0 := (zkk zcd).mpr (C3.aba _ _)
 have z7 : dot (low (crs b d)) b = 0 := (zkk zbd).mpr (C3.aab _ _)
 have z8 : dot (low (crs b d)) d = 0 := (zkk zbd).mpr (C3.aba _ _)
 refine ⟨?_, ?_, ?_, ?_, ?_⟩ <;> rw [zqw]
 ·rw [z1, z3]; simp
 ·rw [z2, z7]; simp
 ·rw [z5, z4]; simp
 ·rw [z6, z8]; simp
 ·rw [Int.mul_comm (dot (low (crs a b)) e * dot (low (crs c d)) e)]; omega
theorem zsd {a b c d e : P3} (g : G5 a b c d e) {q q' : P6} (hq : Nz6 q) (hq' : Nz6 q')
  (qa : qv q a = 0) (qb : qv q b = 0) (qc : qv q c = 0) (qd : qv q d = 0) (qe : qv q e = 0)
  (ra : qv q' a = 0) (rb : qv q' b = 0) (rc : qv q' c = 0) (rd : qv q' d = 0) (re : qv q' e = 0) : zjq q = zjq q' :=
 zjs (zsc hq hq' (ztL g.abc g.abd g.abe (fun h => g.cde (C3.rot h)) qa qb qc qd qe ra rb rc rd re))
end Mth
end
section
set_option Elab.async false
set_option linter.all false
namespace SetT
open PySem PySem.SetTable
theorem zk3 : ∀ (n : Nat) (l : List Nat), (∀ j, j < n → j ∈ l) → n ≤ l.length
 | 0, _, _ => Nat.zero_le _
 | n + 1, l, h => by
  have hn : n ∈ l := h n (Nat.lt_succ_self _)
  have := zk3 n (l.erase n) fun j hj => (List.mem_erase_of_ne (by omega)).mpr (h j (by omega))
  rw [List.length_erase_of_mem hn] at this
  have : 0 < l.length := List.length_pos_of_mem hn
  omega
theorem no_has (j : Nat) : has #[] j = false := rfl
theorem slot_cases {t : SetTable} (hd : t.dummies = #[]) (j : Nat) : t.slot j = .empty ∨ ∃ i, t.slot j = .live i ∧ t.place[i]? = some j := by
 unfold slot
 simp only
 by_cases h : (t.place[below t.place j]? == some j) = true
 ·rw [if_pos h]
  exact .inr ⟨_, rfl, eq_of_beq h⟩
 ·rw [if_neg h, hd, no_has]
  exact .inl rfl
theorem zmr {t : SetTable} (hd : t.dummies = #[]) {n : Nat} (hn : t.place.size < n) : ∃ j, j < n ∧ t.slot j = .empty := by
 refine Classical.byContradiction fun h => ?_
 have : n ≤ t.place.toList.length := zk3 n _ fun j hj => by
  rcases slot_cases hd j with e | ⟨i, _, hi⟩
  ·exact absurd ⟨j, hj, e⟩ h
  ·rw [← Array.getElem?_toList] at hi
   exact List.mem_of_getElem? hi
 rw [Array.length_toList] at this
 omega
def iter (t : SetTable) : Nat → Probe → Probe
 | 0, p => p
 | k + 1, p => iter t k (t.advance p)
theorem iter_add (t : SetTable) : ∀ (a b : Nat) (p : Probe), iter t (a + b) p = iter t b (iter t a p)
 | 0, b, p => by rw [Nat.zero_add]; rfl
 | a + 1, b, p => by rw [Nat.succ_add]; exact iter_add t a b (t.advance p)
theorem adv_dummy (t : SetTable) (p : Probe) : (t.advance p).dummy = p.dummy := by
 unfold advance; split <;> rfl
def start (mask i perturb : Nat) : Probe := { j := i, more := runEnd mask i - i, i, perturb, dummy := none }
theorem zk4 (mask i : Nat) : runEnd mask i - i ≤ 9 := by unfold runEnd; split <;> omega
theorem znh {t : SetTable} : ∀ (m : Nat) (p : Probe), p.more = m → p.dummy = none → iter t (m + 1) p = start t.mask (leap t.mask p.i p.perturb).1 (leap t.mask p.i p.perturb).2
 | 0, p, hm, hd => by
  show t.advance p = _
  unfold advance start
  rw [if_neg (by omega), hd]
 | m + 1, p, hm, hd => by
  show iter t (m + 1) (t.advance p) = _
  have e : t.advance p = { p with j := p.j + 1, more := p.more - 1 } := by unfold advance; rw [if_pos (by omega)]
  rw [e]
  exact znh m { p with j := p.j + 1, more := p.more - 1 } (by show p.more - 1 = m; omega) hd
def zbI (mask : Nat) : Nat → Nat × Nat → Nat × Nat
 | 0, s => s
 | n + 1, s => zbI mask n (leap mask s.1 s.2)
theorem zfg (mask : Nat) : ∀ (n : Nat) (s : Nat × Nat), zbI mask (n + 1) s = leap mask (zbI mask n s).1 (zbI mask n s).2
 | 0, _ => rfl
 | n + 1, s => zfg mask n (leap mask s.1 s.2)
theorem zgI {t : SetTable} : ∀ (n : Nat) (s : Nat × Nat), ∃ k, k ≤ 10 * n ∧ iter t k (start t.mask s.1 s.2) = start t.mask (zbI t.mask n s).1 (zbI t.mask n s).2
 | 0, s => ⟨0, Nat.le_refl _, rfl⟩
 | n + 1, s => by
  obtain ⟨k, hk, e⟩ := zgI n (leap t.mask s.1 s.2)
  have hr := znh (t := t) _ (start t.mask s.1 s.2) rfl rfl
  refine ⟨(runEnd t.mask s.1 - s.1 + 1) + k, ?_, ?_⟩
  ·have := zk4 t.mask s.1; omega
  ·rw [iter_add]
   have hr : iter t (runEnd t.mask s.1 - s.1 + 1) (start t.mask s.1 s.2) = start t.mask (leap t.mask s.1 s.2).1 (leap t.mask s.1 s.2).2 := hr
   rw [hr]; exact e
theorem zeX (mask : Nat) : ∀ (n : Nat) (s : Nat × Nat), (zbI mask n s).2 = s.2 / 32 ^ n
 | 0, s => by simp [zbI]
 | n + 1, s => by
  rw [zfg]
  show (zbI mask n s).2 / 32 = _
  rw [zeX mask n s, Nat.div_div_eq_div_mul, ← Nat.pow_succ]
def five (mask : Nat) : Nat → Nat → Nat
 | 0, i => i
 | n + 1, i => five mask n ((i * 5 + 1) % (mask + 1))
theorem zgJ (mask : Nat) : ∀ (n i : Nat), zbI mask n (i, 0) = (five mask n i, 0)
 | 0, i => rfl
 | n + 1, i => by
  show zbI mask n (leap mask i 0) = _
  have : leap mask i 0 = ((i * 5 + 1) % (mask + 1), 0) := by unfold leap; simp
  rw [this, zgJ mask n]; rfl
theorem zhS (mask : Nat) : ∀ (a b : Nat) (s : Nat × Nat), zbI mask (a + b) s = zbI mask b (zbI mask a s)
 | 0, b, s => by rw [Nat.zero_add]; rfl
 | a + 1, b, s => by rw [Nat.succ_add]; exact zhS mask a b (leap mask s.1 s.2)
theorem all7 : (List.range 8).all (fun i => (List.range 8).all fun j => (List.range 8).any fun n => five 7 n i == j) = true := by decide +kernel
theorem zvG : (List.range 32).all (fun i => (List.range 32).all fun j => (List.range 32).any fun n => five 31 n i == j) = true := by decide +kernel
theorem zpF {mask : Nat} (hm : mask = 7 ∨ mask = 31) {i j : Nat} (hi : i ≤ mask) (hj : j ≤ mask) : ∃ n, n ≤ mask ∧ five mask n i = j := by
 rcases hm with rfl | rfl
 ·have h := List.all_eq_true.mp (List.all_eq_true.mp all7 i (List.mem_range.mpr (by omega))) j (List.mem_range.mpr (by omega))
  obtain ⟨n, h1, h2⟩ := List.any_eq_true.mp h
  exact ⟨n, by have := List.mem_range.mp h1; omega, eq_of_beq h2⟩
 ·have h := List.all_eq_true.mp (List.all_eq_true.mp zvG i (List.mem_range.mpr (by omega))) j (List.mem_range.mpr (by omega))
  obtain ⟨n, h1, h2⟩ := List.any_eq_true.mp h
  exact ⟨n, by have := List.mem_range.mp h1; omega, eq_of_beq h2⟩
theorem zni {mask : Nat} (n : Nat) {s : Nat × Nat} (hs : s.1 ≤ mask) : (zbI mask n s).1 ≤ mask := by
 cases n with
 | zero => exact hs
 | succ n =>
  rw [zfg]
  show (_ % (mask + 1)) ≤ mask
  have := Nat.mod_lt ((zbI mask n s).1 * 5 + 1 + (zbI mask n s).2 / 32) (show 0 < mask + 1 by omega)
  omega
theorem zhT {mask : Nat} (hm : mask = 7 ∨ mask = 31) {s : Nat × Nat} (hs : s.1 ≤ mask) (hb : s.2 < 2 ^ 64) {j : Nat} (hj : j ≤ mask) : ∃ n, n ≤ mask + 13 ∧ (zbI mask n s).1 = j := by
 have e : (zbI mask 13 s).2 = 0 := by rw [zeX]; exact Nat.div_eq_of_lt (Nat.lt_of_lt_of_le hb (by decide))
 obtain ⟨n, h1, h2⟩ := zpF hm (zni 13 hs) hj
 refine ⟨13 + n, by omega, ?_⟩
 rw [zhS]
 have : zbI mask 13 s = ((zbI mask 13 s).1, 0) := Prod.ext rfl e
 rw [this, zgJ]; exact h2
theorem znj (h : Int) : bits h < 2 ^ 64 := by
 unfold bits
 have h1 := Int.emod_nonneg h (show (2 ^ 64 : Int) ≠ 0 by decide)
 have h2 := Int.emod_lt_of_pos h (show (0 : Int) < 2 ^ 64 by decide)
 omega
theorem meets_empty {t : SetTable} (hd : t.dummies = #[]) (hm : t.mask = 7 ∨ t.mask = 31) (hs : t.place.size ≤ t.mask) (h : Int) : ∃ k, k < 10 * turns t.mask ∧ t.slot (iter t k (t.probeStart h)).j = .empty := by
 obtain ⟨j, hj, he⟩ := zmr hd (n := t.mask + 1) (by omega)
 have hi : bits h % (t.mask + 1) ≤ t.mask := by have := Nat.mod_lt (bits h) (show 0 < t.mask + 1 by omega); omega
 obtain ⟨n, h1, h2⟩ := zhT hm (s := (bits h % (t.mask + 1), bits h)) hi (znj h) (show j ≤ t.mask by omega)
 obtain ⟨k, hk, e⟩ := zgI (t := t) n (bits h % (t.mask + 1), bits h)
 refine ⟨k, by unfold turns; omega, ?_⟩
 have e : iter t k (t.probeStart h) = _ := e
 rw [e]
 show t.slot (zbI t.mask n (bits h % (t.mask + 1), bits h)).1 = .empty
 rw [h2]; exact he
theorem fm_all {α β : Type} (f : α → Option β) : ∀ l : List α, (∀ a ∈ l, (f a).isSome = true) → (l.filterMap f).length = l.length
 | [], _ => rfl
 | a :: l, h => by
  obtain ⟨b, hb⟩ := Option.isSome_iff_exists.mp (h a List.mem_cons_self)
  rw [List.filterMap_cons_some hb, List.length_cons, List.length_cons, fm_all f l fun x hx => h x (List.mem_cons_of_mem _ hx)]
theorem ziD {β : Type} (f : Nat → Option β) : ∀ l : List Nat, (l.filterMap fun j => (f j).map (j, ·)).length = (l.filterMap f).length
 | [] => rfl
 | a :: l => by
  cases h : f a with
  | none => rw [List.filterMap_cons_none (by rw [h]; rfl), List.filterMap_cons_none h, ziD f l]
  | some b => rw [List.filterMap_cons_some (by rw [h]; rfl), List.filterMap_cons_some h, List.length_cons, List.length_cons, ziD f l]
theorem zk5 {β : Type} {f g : Nat → Option β} : ∀ l : List Nat, (∀ x ∈ l, g x = f x) → l.filterMap g = l.filterMap f
 | [], _ => rfl
 | a :: l, h => by
  have ih := zk5 l fun x hx => h x (List.mem_cons_of_mem _ hx)
  have ha := h a List.mem_cons_self
  cases e : f a with
  | none => rw [List.filterMap_cons_none e, List.filterMap_cons_none (by rw [ha]; exact e), ih]
  | some b => rw [List.filterMap_cons_some e, List.filterMap_cons_some (by rw [ha]; exact e), ih]
theorem zqx {β : Type} {f g : Nat → Option β} {j : Nat} (hj : f j = none) (hg : (g j).isSome = true) (ho : ∀ i, i ≠ j → g i = f i) : ∀ l : List Nat, l.Nodup → j ∈ l → (l.filterMap g).length = (l.filterMap f).length + 1
 | a :: l, hn, hm => by
  rw [List.nodup_cons] at hn
  by_cases e : a = j
  ·subst e
   obtain ⟨b, hb⟩ := Option.isSome_iff_exists.mp hg
   have same : l.filterMap g = l.filterMap f := zk5 l fun x hx => ho x fun z => hn.1 (z ▸ hx)
   rw [List.filterMap_cons_some hb, List.filterMap_cons_none hj, List.length_cons, same]
  ·have hm' : j ∈ l := (List.mem_cons.mp hm).elim (fun z => absurd z.symm e) id
   have ih := zqx hj hg ho l hn.2 hm'
   cases h : f a with
   | none => rw [List.filterMap_cons_none h, List.filterMap_cons_none (by rw [ho a e]; exact h), ih]
   | some b => rw [List.filterMap_cons_some h, List.filterMap_cons_some (by rw [ho a e]; exact h), List.length_cons, List.length_cons, ih]
def cnt (n : Nat) (owner : Array (Option Nat)) : Nat := ((List.range n).filterMap fun j => owner.getD j none).length
theorem zpG {n : Nat} {owner : Array (Option Nat)} (h : cnt n owner < n) : ∃ j, j < n ∧ owner.getD j none = none := by
 refine Classical.byContradiction fun q => ?_
 have : cnt n owner = (List.range n).length := fm_all _ _ fun j hj => by
  cases e : owner.getD j none with
  | none => exact absurd ⟨j, List.mem_range.mp hj, e⟩ q
  | some b => rfl
 rw [List.length_range] at this
 omega
theorem ziE {owner : Array (Option Nat)} {j : Nat} (h : j < owner.size) (a b : Option Nat) : owner.getD j a = owner.getD j b := by
 rw [Array.getD_eq_getD_getElem?, Array.getD_eq_getD_getElem?, Array.getElem?_eq_getElem h]; rfl
theorem zse {mask : Nat} {owner : Array (Option Nat)} : ∀ (n fuel i perturb : Nat), (owner.getD (zbI mask n (i, perturb)).1 (some 0)).isNone = true → n < fuel → ∃ j, SetTable.layClean.free mask owner fuel i perturb = some j ∧ (owner.getD j (some 0)).isNone = true := by
 intro n
 induction n with
 | zero =>
  intro fuel i perturb h hf
  obtain ⟨f, rfl⟩ : ∃ f, fuel = f + 1 := ⟨fuel - 1, by omega⟩
  unfold SetTable.layClean.free
  cases hx : (List.range (runEnd mask i + 1 - i)).find? fun k => (owner.getD (i + k) (some 0)).isNone with
  | some k => exact ⟨i + k, rfl, List.find?_some (p := fun k => (owner.getD (i + k) (some 0)).isNone) hx⟩
  | none =>
   have := List.find?_eq_none.mp hx 0 (List.mem_range.mpr (by unfold runEnd; split <;> omega))
   exact absurd h this
 | succ n ih =>
  intro fuel i perturb h hf
  obtain ⟨f, rfl⟩ : ∃ f, fuel = f + 1 := ⟨fuel - 1, by omega⟩
  unfold SetTable.layClean.free
  cases hx : (List.range (runEnd mask i + 1 - i)).find? fun k => (owner.getD (i + k) (some 0)).isNone with
  | some k => exact ⟨i + k, rfl, List.find?_some (p := fun k => (owner.getD (i + k) (some 0)).isNone) hx⟩
  | none => exact ih f _ _ h (by omega)
theorem znk {mask : Nat} (hm : mask = 7 ∨ mask = 31) : ∀ (hs : List Int) (owner : Array (Option Nat)) (k : Nat), owner.size = mask + 1 → cnt (mask + 1) owner = k → (∀ j v, owner.getD j none = some v → v < k) → k + hs.length ≤ mask + 1 →
  ∃ owner', hs.foldl (fun acc h => do
   let (owner, k) ← acc
   let j ← SetTable.layClean.free mask owner (turns mask) (bits h % (mask + 1)) (bits h)
   pure (owner.setIfInBounds j (some k), k + 1)) (some (owner, k)) = some (owner', k + hs.length) ∧ cnt (mask + 1) owner' = k + hs.length ∧ ∀ j v, owner'.getD j none = some v → v < k + hs.length
 | [], owner, k, _, h2, h3, _ => ⟨owner, rfl, h2, h3⟩
 | h :: hs, owner, k, h1, h2, h3, h4 => by
  rw [List.length_cons] at h4 ⊢
  obtain ⟨j, hj, he⟩ := zpG (n := mask + 1) (owner := owner) (by omega)
  have hi : bits h % (mask + 1) ≤ mask := by have := Nat.mod_lt (bits h) (show 0 < mask + 1 by omega); omega
  obtain ⟨n, q1, q2⟩ := zhT hm (s := (bits h % (mask + 1), bits h)) hi (znj h) (show j ≤ mask by omega)
  obtain ⟨j', f1, f2⟩ := zse (mask := mask) (owner := owner) n (turns mask) (bits h % (mask + 1)) (bits h) (by rw [q2, ziE (by omega) (some 0) none, he]; rfl) (by unfold turns; omega)
  have hj' : j' < owner.size := by
   refine Classical.byContradiction fun z => ?_
   rw [Array.getD_eq_getD_getElem?, Array.getElem?_eq_none (by omega)] at f2
   cases f2
  have hn : owner.getD j' none = none := by
   rw [ziE hj' none (some 0)]
   exact Option.isNone_iff_eq_none.mp f2
  have hset : ∀ i, (owner.setIfInBounds j' (some k)).getD i none = if i = j' then some k else owner.getD i none := by
   intro i
   rw [Array.getD_eq_getD_getElem?, Array.getD_eq_getD_getElem?, Array.getElem?_setIfInBounds]
   by_cases e : i = j'
   ·subst e; rw [if_pos rfl, if_pos rfl, if_pos hj']; rfl
   ·rw [if_neg (Ne.symm e), if_neg e]
  obtain ⟨o', g1, g2, g3⟩ := znk hm hs (owner.setIfInBounds j' (some k)) (k + 1) (by rw [Array.size_setIfInBounds]; exact h1) (by
   unfold cnt
   rw [zqx (f := fun j => owner.getD j none) (j := j') hn (by rw [hset, if_pos rfl]; rfl) (fun i hi => by rw [hset, if_neg hi]) _ List.nodup_range (List.mem_range.mpr (by omega))]
   rw [← h2]; rfl) (by
   intro i v hv
   rw [hset] at hv
   by_cases e : i = j'
   ·rw [if_pos e] at hv; cases hv; omega
   ·rw [if_neg e] at hv; have := h3 i v hv; omega) (by omega)
  refine ⟨o', ?_, by rw [g2]; omega, fun i v hv => by have := g3 i v hv; omega⟩
  rw [List.foldl_cons]
  have e1 : (do
   let (owner, k) ← some (owner, k)
   let j ← SetTable.layClean.free mask owner (turns mask) (bits h % (mask + 1)) (bits h)
   pure (owner.setIfInBounds j (some k), k + 1)) = some (owner.setIfInBounds j' (some k), k + 1) := by
   show (SetTable.layClean.free mask owner (turns mask) (bits h % (mask + 1)) (bits h)).bind _ = _
   rw [f1]; rfl
  rw [e1, g1]
  congr 2
  omega
theorem znl (t : SetTable) (hashes : Array Int) {n : Nat} (hn : hashes.size = n) (h : n ≤ 32) : ∃ t' order, t.relaid hashes 20 = some (t', order) ∧ t'.mask = 31 ∧ t'.dummies = #[] ∧ t'.place.size = n ∧ order.size = n ∧ ∀ k ∈ order.toList, k < n := by
 have e0 : sizeAbove 20 - 1 = 31 := by decide
 obtain ⟨o, g1, g2, g3⟩ := znk (mask := 31) (.inr rfl) hashes.toList (Array.replicate 32 none) 0 (by simp) (by decide) (by
  intro j v hv
  rw [Array.getD_eq_getD_getElem?, Array.getElem?_replicate] at hv
  split at hv <;> cases hv) (by rw [Array.length_toList]; omega)
 rw [Nat.zero_add, Array.length_toList, hn] at g2
 have hl : layClean 31 hashes = some o := by
  unfold layClean
  rw [← Array.foldl_toList, g1]; rfl
 unfold relaid
 rw [e0]
 unfold laid
 rw [hl]
 refine ⟨_, _, rfl, rfl, rfl, ?_, ?_, ?_⟩
 ·show (List.toArray _).size = n
  rw [List.size_toArray, List.length_map, ziD, ← g2]; rfl
 ·show (List.toArray _).size = n
  rw [List.size_toArray, List.length_map, ziD, ← g2]; rfl
 ·intro k hk
  rw [List.toList_toArray] at hk
  obtain ⟨⟨j, v⟩, hm, rfl⟩ := List.mem_map.mp hk
  obtain ⟨i, hi, hv⟩ := List.mem_filterMap.mp hm
  cases hx : o.getD i none with
  | none => rw [hx] at hv; cases hv
  | some u =>
   rw [hx] at hv
   have hv : some (i, u) = some (j, v) := hv
   cases hv
   have := g3 _ _ hx
   rw [Nat.zero_add, Array.length_toList, hn] at this
   exact this
end SetT
end
section
set_option Elab.async false
set_option linter.all false
namespace SetT
open PySem PySem.SetTable
theorem ztO {t : SetTable} : ∀ (k : Nat) (p : Probe), k ≤ p.more → (iter t k p).j = p.j + k
 | 0, p, _ => rfl
 | k + 1, p, h => by
  show (iter t k (t.advance p)).j = _
  have e : t.advance p = { p with j := p.j + 1, more := p.more - 1 } := by unfold advance; rw [if_pos (by omega)]
  rw [e, ztO k _ (by show k ≤ p.more - 1; omega)]
  show p.j + 1 + k = _
  omega
theorem zqy (mask i : Nat) (h : i ≤ mask) : i + (runEnd mask i - i) ≤ mask := by unfold runEnd; split <;> omega
theorem znm {t : SetTable} : ∀ (k : Nat) (p : Probe), p.j + p.more ≤ t.mask → (iter t k p).j ≤ t.mask
 | 0, p, h => by show p.j ≤ _; omega
 | k + 1, p, h => by
  show (iter t k (t.advance p)).j ≤ _
  refine znm k _ ?_
  unfold advance
  split
  ·show p.j + 1 + (p.more - 1) ≤ _; omega
  ·refine zqy _ _ ?_
   show (_ % (t.mask + 1)) ≤ t.mask
   have := Nat.mod_lt (p.i * 5 + 1 + p.perturb / 32) (show 0 < t.mask + 1 by omega)
   omega
theorem zms {t : SetTable} {owner : Array (Option Nat)} : ∀ (fuel i perturb j : Nat), SetTable.layClean.free t.mask owner fuel i perturb = some j →
  ∃ m, m < 10 * fuel ∧ (iter t m (start t.mask i perturb)).j = j ∧ (owner.getD j (some 0)).isNone = true ∧ ∀ m', m' < m → (owner.getD (iter t m' (start t.mask i perturb)).j (some 0)).isNone = false := by
 intro fuel
 induction fuel with
 | zero => intro i perturb j h; cases h
 | succ f ih =>
  intro i perturb j h
  unfold SetTable.layClean.free at h
  have hr := zk4 t.mask i
  have jk : ∀ k, k ≤ runEnd t.mask i - i → (iter t k (start t.mask i perturb)).j = i + k := fun k hk => ztO k (start t.mask i perturb) hk
  cases hx : (List.range (runEnd t.mask i + 1 - i)).find? fun k => (owner.getD (i + k) (some 0)).isNone with
  | some k =>
   rw [hx] at h
   have h : some (i + k) = some j := h
   cases h
   have hp : (owner.getD (i + k) (some 0)).isNone = true := List.find?_some (p := fun k => (owner.getD (i + k) (some 0)).isNone) hx
   obtain ⟨_, as, bs, e, nb⟩ := List.find?_eq_some_iff_append.mp hx
   have hk : k < runEnd t.mask i + 1 - i := by
    have := List.mem_of_find?_eq_some hx
    exact List.mem_range.mp this
   have re : i ≤ runEnd t.mask i := by unfold runEnd; split <;> omega
   refine ⟨k, by omega, jk k (by omega), hp, fun m' hm => ?_⟩
   rw [jk m' (by omega)]
   have : m' ∈ as := by
    have e2 : (as ++ k :: bs)[m']? = some m' := by rw [← e, List.getElem?_range (by omega)]
    have ek : as.length = k := by
     have e3 : (as ++ k :: bs)[as.length]? = some k := by rw [List.getElem?_append_right (Nat.le_refl _), Nat.sub_self]; rfl
     rw [← e, List.getElem?_range] at e3
     ·exact Option.some.inj e3
     ·have := congrArg List.length e
      rw [List.length_range, List.length_append, List.length_cons] at this
      omega
    rw [List.getElem?_append_left (by omega)] at e2
    exact List.mem_of_getElem? e2
   simpa using nb m' this
  | none =>
   rw [hx] at h
   have h : SetTable.layClean.free t.mask owner f (leap t.mask i perturb).1 (leap t.mask i perturb).2 = some j := h
   obtain ⟨m, m1, m2, m3, m4⟩ := ih _ _ j h
   have rt : iter t (runEnd t.mask i - i + 1) (start t.mask i perturb) = start t.mask (leap t.mask i perturb).1 (leap t.mask i perturb).2 := znh (t := t) _ (start t.mask i perturb) rfl rfl
   have no := List.find?_eq_none.mp hx
   have re : i ≤ runEnd t.mask i := by unfold runEnd; split <;> omega
   refine ⟨(runEnd t.mask i - i + 1) + m, by omega, by rw [iter_add, rt]; exact m2, m3, fun m' hm => ?_⟩
   by_cases hc : m' ≤ runEnd t.mask i - i
   ·rw [jk m' hc]
    exact Bool.eq_false_iff.mpr (no m' (List.mem_range.mpr (by omega)))
   ·obtain ⟨u, rfl⟩ : ∃ u, m' = (runEnd t.mask i - i + 1) + u := ⟨m' - (runEnd t.mask i - i + 1), by omega⟩
    rw [iter_add, rt]
    exact m4 u (by omega)
def zvH (t : SetTable) (owner : Array (Option Nat)) (hf : Nat → Int) (k : Nat) : Prop :=
 ∀ c, c < k → ∃ j, j ≤ t.mask ∧ owner.getD j none = some c ∧ ∃ m, m < 10 * turns t.mask ∧ (iter t m (t.probeStart (hf c))).j = j ∧ ∀ m', m' < m → (owner.getD (iter t m' (t.probeStart (hf c))).j none).isSome = true
theorem ziF {t : SetTable} (h : Int) (m : Nat) : (iter t m (t.probeStart h)).j ≤ t.mask := by
 refine znm m _ ?_
 show bits h % (t.mask + 1) + (runEnd t.mask (bits h % (t.mask + 1)) - bits h % (t.mask + 1)) ≤ t.mask
 refine zqy _ _ ?_
 have := Nat.mod_lt (bits h) (show 0 < t.mask + 1 by omega)
 omega
theorem zjt {t : SetTable} (hf : Nat → Int) : ∀ (hs : List Int) (owner owner' : Array (Option Nat)) (k k' : Nat), owner.size = t.mask + 1 → (∀ i, i < hs.length → hs[i]? = some (hf (k + i))) → zvH t owner hf k →
  hs.foldl (fun acc h => do
   let (owner, k) ← acc
   let j ← SetTable.layClean.free t.mask owner (turns t.mask) (bits h % (t.mask + 1)) (bits h)
   pure (owner.setIfInBounds j (some k), k + 1)) (some (owner, k)) = some (owner', k') → owner'.size = t.mask + 1 ∧ zvH t owner' hf (k + hs.length)
 | [], owner, owner', k, k', h1, _, h3, e => by
  have e : some (owner, k) = some (owner', k') := e
  cases e
  exact ⟨h1, h3⟩
 | h :: hs, owner, owner', k, k', h1, h2, h3, e => by
  rw [List.foldl_cons] at e
  have hh : hf k = h := by have := h2 0 (by simp); simpa using this.symm
  cases hfr : SetTable.layClean.free t.mask owner (turns t.mask) (bits h % (t.mask + 1)) (bits h) with
  | none =>
   exfalso
   have e1 : (do
    let (owner, k) ← some (owner, k)
    let j ← SetTable.layClean.free t.mask owner (turns t.mask) (bits h % (t.mask + 1)) (bits h)
    pure (owner.setIfInBounds j (some k), k + 1)) = (none : Option (Array (Option Nat) × Nat)) := by
    show (SetTable.layClean.free t.mask owner (turns t.mask) (bits h % (t.mask + 1)) (bits h)).bind _ = _
    rw [hfr]; rfl
   rw [e1] at e
   have nn : ∀ l : List Int, l.foldl (fun acc h => do
    let (owner, k) ← acc
    let j ← SetTable.layClean.free t.mask owner (turns t.mask) (bits h % (t.mask + 1)) (bits h)
    pure (owner.setIfInBounds j (some k), k + 1)) (none : Option (Array (Option Nat) × Nat)) = none := by
    intro l
    induction l with
    | nil => rfl
    | cons a l ih => rw [List.foldl_cons]; exact ih
   rw [nn] at e
   cases e
  | some j' =>
   have e1 : (do
    let (owner, k) ← some (owner, k)
    let j ← SetTable.layClean.free t.mask owner (turns t.mask) (bits h % (t.mask + 1)) (bits h)
    pure (owner.setIfInBounds j (some k), k + 1)) = some (owner.setIfInBounds j' (some k), k + 1) := by
    show (SetTable.layClean.free t.mask owner (turns t.mask) (bits h % (t.mask + 1)) (bits h)).bind _ = _
    rw [hfr]; rfl
   rw [e1] at e
   obtain ⟨m, m1, m2, m3, m4⟩ := zms (t := t) _ _ _ _ hfr
   have m2 : (iter t m (t.probeStart h)).j = j' := m2
   have m4 : ∀ m', m' < m → (owner.getD (iter t m' (t.probeStart h)).j (some 0)).isNone = false := m4
   have jl : j' ≤ t.mask := by rw [← m2]; exact ziF h m
   have hn : owner.getD j' none = none := by
    rw [ziE (by omega) none (some 0)]
    exact Option.isNone_iff_eq_none.mp m3
   have hset : ∀ i, (owner.setIfInBounds j' (some k)).getD i none = if i = j' then some k else owner.getD i none := by
    intro i
    rw [Array.getD_eq_getD_getElem?, Array.getD_eq_getD_getElem?, Array.getElem?_setIfInBounds]
    by_cases e : i = j'
    ·subst e; rw [if_pos rfl, if_pos rfl, if_pos (by omega)]; rfl
    ·rw [if_neg (Ne.symm e), if_neg e]
   have keep : ∀ i, (owner.getD i none).isSome = true → ((owner.setIfInBounds j' (some k)).getD i none).isSome = true := fun i hi => by
    rw [hset]; split
    ·rfl
    ·exact hi
   have L2 : zvH t (owner.setIfInBounds j' (some k)) hf (k + 1) := by
    intro c hc
    by_cases ec : c = k
    ·subst ec
     refine ⟨j', jl, by rw [hset, if_pos rfl], m, m1, by rw [hh]; exact m2, fun m' hm => ?_⟩
     rw [hh]
     refine keep _ ?_
     have := m4 m' hm
     rw [ziE (by have := ziF (t := t) h m'; omega) none (some 0)]
     cases hx : owner.getD (iter t m' (t.probeStart h)).j (some 0) with
     | none => rw [hx] at this; cases this
     | some _ => rfl
    ·obtain ⟨j, j1, j2, m, n1, n2, n3⟩ := h3 c (by omega)
     refine ⟨j, j1, ?_, m, n1, n2, fun m' hm => keep _ (n3 m' hm)⟩
     rw [hset, if_neg (fun z => by rw [z, hn] at j2; cases j2)]
     exact j2
   have := zjt hf hs _ owner' (k + 1) k' (by rw [Array.size_setIfInBounds]; exact h1) (fun i hi => by
    have := h2 (i + 1) (by simp; omega)
    rw [List.getElem?_cons_succ] at this
    rw [this, show k + (i + 1) = k + 1 + i by omega]) L2 e
   rw [List.length_cons, show k + (hs.length + 1) = k + 1 + hs.length by omega]
   exact this
theorem fm_get {α β : Type} (f : α → Option β) : ∀ (l : List α), (∀ a ∈ l, (f a).isSome = true) → ∀ i : Nat, (l.filterMap f)[i]? = (l[i]?).bind f
 | [], _, i => by simp
 | a :: l, h, i => by
  obtain ⟨b, hb⟩ := Option.isSome_iff_exists.mp (h a List.mem_cons_self)
  rw [List.filterMap_cons_some hb]
  cases i with
  | zero => simp [hb]
  | succ i => rw [List.getElem?_cons_succ, List.getElem?_cons_succ]; exact fm_get f l (fun x hx => h x (List.mem_cons_of_mem _ hx)) i
theorem znn {β : Type} (f : Nat → Option β) : ∀ l : List Nat, l.Pairwise (· < ·) → ((l.filterMap fun j => (f j).map (j, ·)).map (·.1)).Pairwise (· < ·)
 | [], _ => List.Pairwise.nil
 | a :: l, h => by
  rw [List.pairwise_cons] at h
  cases e : f a with
  | none => rw [List.filterMap_cons_none (by rw [e]; rfl)]; exact znn f l h.2
  | some b =>
   rw [List.filterMap_cons_some (b := (a, b)) (by rw [e]; rfl), List.map_cons, List.pairwise_cons]
   refine ⟨fun x hx => ?_, znn f l h.2⟩
   obtain ⟨⟨j, v⟩, hm, rfl⟩ := List.mem_map.mp hx
   obtain ⟨i, hi, hv⟩ := List.mem_filterMap.mp hm
   cases hx : f i with
   | none => rw [hx] at hv; cases hv
   | some u =>
    rw [hx] at hv
    have hv : some (i, u) = some (j, v) := hv
    cases hv
    exact h.1 _ hi
theorem zqz {β : Type} {f : Nat → Option β} {l : List Nat} {j : Nat} {b : β} (hj : j ∈ l) (hb : f j = some b) : (j, b) ∈ l.filterMap fun j => (f j).map (j, ·) := List.mem_filterMap.mpr ⟨j, hj, by rw [hb]; rfl⟩
end SetT
end
section
set_option Elab.async false
set_option linter.all false
set_option maxRecDepth 100000
namespace DL
open PySem L2
inductive D where
 | non | bl (b : Bool) | int (i : Int) | str (x : Str) | ty (n : String) | cls (c : Str)
 | tup (xs : List D) | lst (xs : List D) | dct (ks : List Key) (vs : List D) | exc (c : Str) (as : List D)
instance : Inhabited D := ⟨.non⟩
inductive R (α : Type) where
 | ok (a : α) | err (e : D) | bad
def R.bind {α β : Type} : R α → (α → R β) → R β
 | .ok a, k => k a
 | .err e, _ => .err e
 | .bad, _ => .bad
def RW {α : Type} (r : R α) (Q : α → Prop) (E : D → Prop) : Prop := match r with
 | .ok a => Q a
 | .err e => E e
 | .bad => False
theorem RW.mono {α : Type} {r : R α} {Q Q' : α → Prop} {E E' : D → Prop} (h : RW r Q E) (hq : ∀ a, r = .ok a → Q a → Q' a) (he : ∀ e, E e → E' e) : RW r Q' E' := by
 cases r with
 | ok a => exact hq a rfl h
 | err e => exact he e h
 | bad => exact h
theorem RW.of_bind {α β : Type} {r : R α} {k : α → R β} {Q : β → Prop} {E : D → Prop} (h : RW (r.bind k) Q E) : RW r (fun a => RW (k a) Q E) E := by
 cases r with
 | ok a => exact h
 | err e => exact h
 | bad => exact h
def zdf : List Str := ["ChalkError", "NoPlace", "Same", "NoFloor", "Endless", "NoDeed", "NoText", "NoName", "TooMany", "NoChange", "NoFrame", "NoValue", "Unlike", "NoRatio", "NoBow", "NoRow"]
def zju (c d : Str) : Option Bool := bif zdf.contains c && zdf.contains d then some (c == d || d == "ChalkError") else none
structure zno (K : PySem.W.Frag) (mg : Str → Option Value) (c : Str) (C : Addr) : Prop where
 here : mg c = some (.ref C)
 exc : zr2 K C
 isi : ∀ d Dd b, zju c d = some b → mg d = some (.ref Dd) → PySem.W.kitOne K (.ref C) (.ref Dd) = some b
 val : PySem.W.kitOne K (.ref C) (.type "ValueError") = some true
 ctc : ∀ d Dd, zju c d = some true → mg d = some (.ref Dd) → PySem.W.exmOne K (.ref C) (.ref Dd) = some true
def znp (G : Hp) (dct : Option Addr) (vs : List V) : Prop := (dct = none ∧ vs = []) ∨ ∃ dx v, dct = some dx ∧ vs = [v] ∧ G dx = some (.xd [("at", v)])
mutual
def Rep (K : PySem.W.Frag) (mg : Str → Option Value) (G : Hp) : D → V → Prop
 | .non, v => v = .non
 | .bl b, v => v = .bl b
 | .int i, v => v = .int i
 | .str x, v => v = .str x
 | .ty n, v => v = .ty n
 | .cls c, v => ∃ C, v = .ref C ∧ mg c = some (.ref C)
 | .tup ds, v => ∃ a vs, v = .ref a ∧ SqT K G a vs ∧ Reps K mg G ds vs
 | .lst ds, v => ∃ a vs, v = .ref a ∧ SqL K G a vs ∧ Reps K mg G ds vs
 | .dct ks ds, v => ∃ a vs, v = .ref a ∧ Rd G a (.dK (ks.zip vs)) ∧ ks.length = vs.length ∧ Reps K mg G ds vs
 | .exc c as, v => ∃ x C dct vs, v = .ref x ∧ G x = some (zo6 x C dct) ∧ zno K mg c C ∧ znp G dct vs ∧ Reps K mg G as vs
def Reps (K : PySem.W.Frag) (mg : Str → Option Value) (G : Hp) : List D → List V → Prop
 | [], vs => vs = []
 | d :: ds, vs => ∃ v r, vs = v :: r ∧ Rep K mg G d v ∧ Reps K mg G ds r
end
def ExcR (K : PySem.W.Frag) (mg : Str → Option Value) (G : Hp) (e : D) (C : Addr) (dct : Option Addr) : Prop := ∃ c as vs, e = .exc c as ∧ zno K mg c C ∧ znp G dct vs ∧ Reps K mg G as vs
section
variable {K : PySem.W.Frag} {mg : Str → Option Value} {G G' H H' : Hp}
theorem zaP.sqT {a : Addr} {xs : List V} (e : zaP G G') (h : SqT K G a xs) : SqT K G' a xs := e.tup h
theorem zaP.rd {a : Addr} {u : HO} (e : zaP G G') (h : Rd G a u) : Rd G' a u := by
 rcases h with h | ⟨o, h⟩
 ·exact .inl (e _ _ h)
 ·exact .inr ⟨o, e _ _ h⟩
theorem znp.mono {dct : Option Addr} {vs : List V} (e : zaP G G') (h : znp G dct vs) : znp G' dct vs := by
 rcases h with h | ⟨dx, v, h1, h2, h3⟩
 ·exact .inl h
 ·exact .inr ⟨dx, v, h1, h2, e _ _ h3⟩
mutual
theorem Rep.mono (e : zaP G G') : ∀ {d : D} {v : V}, Rep K mg G d v → Rep K mg G' d v
 | .non, _, h => h
 | .bl _, _, h => h
 | .int _, _, h => h
 | .str _, _, h => h
 | .ty _, _, h => h
 | .cls _, _, h => h
 | .tup _, _, ⟨a, vs, h1, h2, h3⟩ => ⟨a, vs, h1, zaP.sqT e h2, Reps.mono e h3⟩
 | .lst _, _, ⟨a, vs, h1, h2, h3⟩ => ⟨a, vs, h1, e.seq h2, Reps.mono e h3⟩
 | .dct _ _, _, ⟨a, vs, h1, h2, h3, h4⟩ => ⟨a, vs, h1, zaP.rd e h2, h3, Reps.mono e h4⟩
 | .exc _ _, _, ⟨x, C, dct, vs, h1, h2, h3, h4, h5⟩ => ⟨x, C, dct, vs, h1, e _ _ h2, h3, h4.mono e, Reps.mono e h5⟩
theorem Reps.mono (e : zaP G G') : ∀ {ds : List D} {vs : List V}, Reps K mg G ds vs → Reps K mg G' ds vs
 | [], _, h => h
 | _ :: _, _, ⟨v, r, h1, h2, h3⟩ => ⟨v, r, h1, Rep.mono e h2, Reps.mono e h3⟩
end
theorem Reps.length : ∀ {ds : List D} {vs : List V}, Reps K mg G ds vs → ds.length = vs.length
 | [], _, h => by cases h; rfl
 | _ :: _, _, ⟨v, r, h1, _, h3⟩ => by cases h1; rw [List.length_cons, List.length_cons, Reps.length h3]
theorem Reps.nil : Reps K mg G [] [] := rfl
theorem Reps.cons {d : D} {v : V} {ds : List D} {vs : List V} (h : Rep K mg G d v) (t : Reps K mg G ds vs) : Reps K mg G (d :: ds) (v :: vs) := ⟨v, vs, rfl, h, t⟩
theorem Reps.append : ∀ {ds es : List D} {vs ws : List V}, Reps K mg G ds vs → Reps K mg G es ws → Reps K mg G (ds ++ es) (vs ++ ws)
 | [], _, _, _, h, t => by cases h; exact t
 | _ :: _, _, _, _, ⟨v, r, h1, h2, h3⟩, t => by cases h1; exact ⟨v, r ++ _, rfl, h2, h3.append t⟩
theorem Reps.get : ∀ {ds : List D} {vs : List V} {i : Nat} {d : D}, Reps K mg G ds vs → ds[i]? = some d → ∃ v, vs[i]? = some v ∧ Rep K mg G d v
 | [], _, _, _, _, e => by simp at e
 | _ :: _, _, 0, _, ⟨v, r, h1, h2, _⟩, e => by simp at e; subst e; subst h1; exact ⟨v, rfl, h2⟩
 | _ :: ds, _, i + 1, d, ⟨v, r, h1, _, h3⟩, e => by
  subst h1
  obtain ⟨w, e1, e2⟩ := Reps.get (i := i) (d := d) h3 (by simpa using e)
  exact ⟨w, by simpa using e1, e2⟩
theorem Reps.drop : ∀ {ds : List D} {vs : List V} (n : Nat), Reps K mg G ds vs → Reps K mg G (ds.drop n) (vs.drop n)
 | _, _, 0, h => h
 | [], _, _ + 1, h => by cases h; exact rfl
 | _ :: _, _, n + 1, ⟨_, _, h1, _, h3⟩ => by subst h1; exact h3.drop n
theorem Reps.take : ∀ {ds : List D} {vs : List V} (n : Nat), Reps K mg G ds vs → Reps K mg G (ds.take n) (vs.take n)
 | _, _, 0, h => by simp only [List.take_zero]; exact rfl
 | [], _, _ + 1, h => by cases h; exact rfl
 | _ :: _, _, n + 1, ⟨v, _, h1, h2, h3⟩ => by subst h1; exact ⟨v, _, rfl, h2, h3.take n⟩
theorem Reps.ints (ns : List Int) : Reps K mg G (ns.map D.int) (ns.map V.int) := by
 induction ns with
 | nil => exact rfl
 | cons n r ih => exact ⟨_, _, rfl, rfl, ih⟩
theorem Reps.of_ints : ∀ {ns : List Int} {vs : List V}, Reps K mg G (ns.map D.int) vs → vs = ns.map V.int
 | [], _, h => h
 | _ :: _, _, ⟨_, _, h1, h2, h3⟩ => by subst h1; cases h2; rw [Reps.of_ints h3]; rfl
theorem Reps.of_bools : ∀ {bs : List Bool} {vs : List V}, Reps K mg G (bs.map D.bl) vs → vs = bs.map V.bl
 | [], _, h => h
 | _ :: _, _, ⟨_, _, h1, h2, h3⟩ => by subst h1; cases h2; rw [Reps.of_bools h3]; rfl
theorem Reps.at {ds : List D} {vs : List V} {i : Int} {d : D} (h : Reps K mg G ds vs) (e : atI ds i = some d) : ∃ v, atI vs i = some v ∧ Rep K mg G d v := by
 unfold atI at e ⊢
 rw [h.length] at e
 cases q : ixN vs.length i with
 | none => rw [q] at e; cases e
 | some j => rw [q] at e; exact h.get e
structure zbV (G H G' H' : Hp) : Prop where
 g : zaP G G'
 h : zaP H H'
 e : zaP G' H'
 c : ∀ a o, H a = some o → G a = none → G' a = none
theorem zbV.refl (e : zaP G H) : zbV G H G H := ⟨zaP.refl _, zaP.refl _, e, fun _ _ _ h => h⟩
theorem zbV.trans {G1 H1 : Hp} (a : zbV G H G1 H1) (b : zbV G1 H1 G' H') : zbV G H G' H' :=
 ⟨a.g.trans b.g, a.h.trans b.h, b.e, fun x o p q => b.c x o (a.h x o p) (a.c x o p q)⟩
theorem zcS {p : Addr} {o : HO} (h : H p = none) : zaP H (upd H p o) := zpo h o
theorem zbV.pub {p : Addr} {o : HO} (e : zaP G H) (h : H p = none) : zbV G H (upd G p o) (upd H p o) := by
 refine ⟨zcS (e.free h), zcS h, fun b u q => ?_, fun a u p1 q1 => ?_⟩
 ·by_cases hb : b = p
  ·subst hb; rw [zaA] at q ⊢; exact q
  ·rw [zay hb] at q ⊢; exact e b u q
 ·have hb : a ≠ p := zas p1 h
  rw [zay hb]; exact q1
theorem zbV.hid {p : Addr} {o : HO} (e : zaP G H) (h : H p = none) : zbV G H G (upd H p o) :=
 ⟨zaP.refl _, zcS h, e.trans (zcS h), fun _ _ _ q => q⟩
theorem zbV.heap (e : zaP G H) (h : zaP H H') : zbV G H G H' := ⟨zaP.refl _, h, e.trans h, fun _ _ _ q => q⟩
end
abbrev DSt := List (Option D)
structure Ok0 (K : PySem.W.Frag) (mg : Str → Option Value) (σd : DSt) (σ : St) (G H : Hp) : Prop where
 ext : zaP G H
 len : σd.length = σ.length
 val : ∀ (i : Nat) (d : D), σd[i]? = some (some d) → ∃ v, σ[i]? = some (some v) ∧ Rep K mg G d v
section
variable {K : PySem.W.Frag} {mg : Str → Option Value} {G G' H H' : Hp} {σd : DSt} {σ : St}
theorem Ok0.step (o : Ok0 K mg σd σ G H) (s : zbV G H G' H') : Ok0 K mg σd σ G' H' :=
 ⟨s.e, o.len, fun i d q => let ⟨v, h1, h2⟩ := o.val i d q; ⟨v, h1, h2.mono s.g⟩⟩
theorem Ok0.set {i : Nat} {d : D} {v : V} (o : Ok0 K mg σd σ G H) (h : Rep K mg G d v) : Ok0 K mg (σd.set i (some d)) (σ.set i (some v)) G H := by
 refine ⟨o.ext, by simp [o.len], fun j e q => ?_⟩
 by_cases hj : j = i
 ·subst hj
  have hl : j < σd.length := by have := (List.getElem?_eq_some_iff.mp q).1; simpa using this
  rw [List.getElem?_set_self hl] at q
  cases q
  exact ⟨v, by rw [List.getElem?_set_self (by rw [← o.len]; exact hl)], h⟩
 ·rw [List.getElem?_set_ne (Ne.symm hj)] at q ⊢
  exact o.val j e q
theorem Ok0.cons {x : Option D} {y : Option V} (o : Ok0 K mg σd σ G H) (h : ∀ d, x = some d → ∃ v, y = some v ∧ Rep K mg G d v) : Ok0 K mg (x :: σd) (y :: σ) G H := by
 refine ⟨o.ext, by simp [o.len], fun j e q => ?_⟩
 cases j with
 | zero =>
  have q' : x = some e := by simpa using q
  obtain ⟨v, h1, h2⟩ := h e q'
  exact ⟨v, by simp [h1], h2⟩
 | succ j => exact o.val j e (by simpa using q)
theorem Ok0.nones (o : Ok0 K mg σd σ G H) : ∀ k : Nat, Ok0 K mg (List.replicate k none ++ σd) (List.replicate k none ++ σ) G H
 | 0 => o
 | k + 1 => (Ok0.nones o k).cons (x := none) (y := none) (fun d e => by cases e)
end
section
variable (K : PySem.W.Frag) (mg : Str → Option Value) (E : XK)
def zaD (Q : VK) (G H : Hp) (d : D) : Prop := ∀ v G' H', zbV G H G' H' → Rep K mg G' d v → Q v H'
def zft (Q : Bool → Hp → Prop) (G H : Hp) (b : Bool) : Prop := ∀ G' H', zbV G H G' H' → Q b H'
def zk6 (Q : List V → Hp → Prop) (G H : Hp) (ds : List D) : Prop := ∀ vs G' H', zbV G H G' H' → Reps K mg G' ds vs → Q vs H'
def zf9 (Q : VK) (G H : Hp) (ds : List D) : Prop := ∀ a vs G' H', zbV G H G' H' → H a = none → H' a = some (.lst vs) → G' a = none → Reps K mg G' ds vs → Q (.ref a) H'
def za0 (G H : Hp) (e : D) : Prop := ∀ G' H' C dct, zbV G H G' H' → ExcR K mg G' e C dct → E (.ref C) dct H'
def tE (f : DSt → R D) : TE := fun σ H Q => ∃ G σd, Ok0 K mg σd σ G H ∧ RW (f σd) (zaD K mg Q G H) (za0 K mg E G H)
def tT (f : DSt → R Bool) : TT := fun σ H Q => ∃ G σd, Ok0 K mg σd σ G H ∧ RW (f σd) (zft Q G H) (za0 K mg E G H)
def tAr (f : DSt → R (List D)) : TA := fun σ H Q => ∃ G σd, Ok0 K mg σd σ G H ∧ RW (f σd) (zk6 K mg Q G H) (za0 K mg E G H)
def tFr (f : DSt → R (List D)) : TE := fun σ H Q => ∃ G σd, Ok0 K mg σd σ G H ∧ RW (f σd) (zf9 K mg Q G H) (za0 K mg E G H)
end
def DE (X : Cx) (E : XK) (e : Expr) (f : DSt → R D) : Prop := PE X e (tE X.K X.mg E f)
def DT (X : Cx) (E : XK) (e : Expr) (f : DSt → R Bool) : Prop := PT X e (tT X.K X.mg E f)
def DW (X : Cx) (E : XK) (e : Expr) (f : DSt → R Bool) : Prop := PW X e (tT X.K X.mg E f)
def DA (X : Cx) (E : XK) (es : List Expr) (f : DSt → R (List D)) : Prop := PA X es (tAr X.K X.mg E f)
def DF (X : Cx) (E : XK) (e : Expr) (f : DSt → R (List D)) : Prop := PE X e (tFr X.K X.mg E f)
section
variable {X : Cx} {E : XK} {K : PySem.W.Frag} {mg : Str → Option Value} {G G1 H H1 : Hp}
theorem PE.mono' {e : Expr} {t t' : TE} (h : PE X e t) (m : ∀ σ H Q, t' σ H Q → t σ H Q) : PE X e t' := fun pins s σ H Q I q => h pins s σ H Q I (m σ H Q q)
theorem PT.mono' {e : Expr} {t t' : TT} (h : PT X e t) (m : ∀ σ H Q, t' σ H Q → t σ H Q) : PT X e t' := fun pins s σ H Q I q => h pins s σ H Q I (m σ H Q q)
theorem PW.mono' {e : Expr} {t t' : TT} (h : PW X e t) (m : ∀ σ H Q, t' σ H Q → t σ H Q) : PW X e t' := fun wh pins s σ H Q I q => h wh pins s σ H Q I (m σ H Q q)
theorem PA.mono' {es : List Expr} {t t' : TA} (h : PA X es t) (m : ∀ σ H Q, t' σ H Q → t σ H Q) : PA X es t' := fun pos pins s σ H Q I q => h pos pins s σ H Q I (m σ H Q q)
theorem PS.mono' {st : Stmt} {t t' : TS} (h : PS X st t) (m : ∀ D σ H, t' D σ H → t D σ H) : PS X st t' := fun pins s σ H D I q => h pins s σ H D I (m D σ H q)
theorem PSs.mono' {st : List Stmt} {t t' : TS} (h : PSs X st t) (m : ∀ D σ H, t' D σ H → t D σ H) : PSs X st t' := fun pins s σ H D I q => h pins s σ H D I (m D σ H q)
theorem zaD.step {Q : VK} {d : D} (h : zaD K mg Q G H d) (s : zbV G H G1 H1) : zaD K mg Q G1 H1 d := fun v G' H' s' r => h v G' H' (s.trans s') r
theorem za0.step {e : D} (h : za0 K mg E G H e) (s : zbV G H G1 H1) : za0 K mg E G1 H1 e := fun G' H' C dct s' r => h G' H' C dct (s.trans s') r
theorem zft.step {Q : Bool → Hp → Prop} {b : Bool} (h : zft Q G H b) (s : zbV G H G1 H1) : zft Q G1 H1 b := fun G' H' s' => h G' H' (s.trans s')
theorem zf9.step {Q : VK} {ds : List D} (h : zf9 K mg Q G H ds) (s : zbV G H G1 H1) : zf9 K mg Q G1 H1 ds := fun a vs G' H' s' n e g r => h a vs G' H' (s.trans s') (s.h.free n) e g r
theorem zaD.now {Q : VK} {d : D} {v : V} (h : zaD K mg Q G H d) (e : zaP G H) (r : Rep K mg G d v) : Q v H := h v G H (.refl e) r
theorem DF.de {e : Expr} {f : DSt → R (List D)} (h : DF X E e f) : DE X E e (fun σ => (f σ).bind fun ds => .ok (.lst ds)) := by
 refine PE.mono' h fun σ H Q ⟨G, σd, ok, q⟩ => ⟨G, σd, ok, q.of_bind.mono (fun ds _ q => ?_) fun _ z => z⟩
 intro a vs G' H' s n e g r
 have q' : zaD X.K X.mg Q G H (.lst ds) := q
 have sg : zaP G' (upd G' a (.lst vs)) := zcS g
 refine q' (.ref a) (upd G' a (.lst vs)) H' ⟨s.g.trans sg, s.h, fun b u p => ?_, fun b u p1 p2 => ?_⟩ ⟨a, vs, rfl, SqL.of zaA, r.mono sg⟩
 ·by_cases hb : b = a
  ·subst hb; rw [zaA] at p; cases p; exact e
  ·rw [zay hb] at p; exact s.e b u p
 ·have hb : b ≠ a := zas p1 n
  rw [zay hb]; exact s.c b u p1 p2
def zaj (i : Nat) : DSt → R D := fun σ => match σ[i]? with
 | some (some d) => .ok d
 | _ => .bad
theorem zaa (i : Nat) {x : Str} {pos : Pos} (hN : X.N[i]? = some x := by rfl) (hv : Vis X.env.scope x := by first | exact Or.inl rfl | exact Or.inr (Or.inl rfl) | exact Or.inr (Or.inr rfl)) (hd : (x == ("__debug__" : Str)) = false := by decide)
  (hcd : (x == ("__classdict__" : Str)) = false := by decide) : DE X E (.Name x pos) (zaj i) := by
 refine PE.mono' (pv i hN hv hd hcd) fun σ H Q ⟨G, σd, ok, q⟩ => ?_
 unfold zaj at q
 split at q
 ·rename_i d e
  obtain ⟨v, h1, h2⟩ := ok.val i d e
  exact ⟨v, h1, zaD.now q ok.ext h2⟩
 ·exact q.elim
def eC (d : D) : DSt → R D := fun _ => .ok d
theorem zae {i j pos} : DE X E (.Constant (.int i) j pos) (eC (.int i)) := PE.mono' zs3 fun _ _ _ ⟨_, _, ok, q⟩ => zaD.now q ok.ext rfl
theorem zep {b j pos} : DE X E (.Constant (.bool b) j pos) (eC (.bl b)) := PE.mono' zu2 fun _ _ _ ⟨_, _, ok, q⟩ => zaD.now q ok.ext rfl
theorem znq {j pos} : DE X E (.Constant .none j pos) (eC .non) := PE.mono' zs4 fun _ _ _ ⟨_, _, ok, q⟩ => zaD.now q ok.ext rfl
theorem zqA {x j pos} : DE X E (.Constant (.str x) j pos) (eC (.str x)) := PE.mono' zs5 fun _ _ _ ⟨_, _, ok, q⟩ => zaD.now q ok.ext rfl
theorem znr {x : Str} {d : D} {v : V} {u : Value} {pos : Pos} (hm : X.mg x = some u) (r : zcb v u) (rp : ∀ G, Rep X.K X.mg G d v) (hg : Gl X x := by rfl) (hd : (x == ("__debug__" : Str)) = false := by decide) : DE X E (.Name x pos) (eC d) :=
 PE.mono' (zrD hg hm r hd) fun _ _ _ ⟨_, _, ok, q⟩ => zaD.now q ok.ext (rp _)
theorem zk7 {x : Str} {C : Addr} {pos : Pos} (hm : X.mg x = some (.ref C)) (hg : Gl X x := by rfl) (hd : (x == ("__debug__" : Str)) = false := by decide) : DE X E (.Name x pos) (eC (.cls x)) :=
 znr hm (v := .ref C) rfl (fun _ => ⟨C, rfl, hm⟩) hg hd
theorem ziG {x : Str} {n : String} {pos : Pos} (hm : X.mg x = none) (hv : bootBuiltins x = some (.type n) := by rfl) (hg : Gl X x := by rfl) (hn : x ≠ "__name__" := by decide) (hd : (x == ("__debug__" : Str)) = false := by decide) : DE X E (.Name x pos) (eC (.ty n)) :=
 PE.mono' (zrE hg hm hv (v := .ty n) rfl hn hd) fun _ _ _ ⟨_, _, ok, q⟩ => zaD.now q ok.ext rfl
def eBad {α : Type} : DSt → R α := fun _ => .bad
def OpD (K : PySem.W.Frag) (mg : Str → Option Value) (r : R2) (g : D → D → R D) : Prop :=
 ∀ (G H : Hp) (a b : D) (x y : V) (Q : VK), zaP G H → Rep K mg G a x → Rep K mg G b y → RW (g a b) (zaD K mg Q G H) (fun _ => False) → r x y H Q
def eOp (g : D → D → R D) (fa fb : DSt → R D) : DSt → R D := fun σ => (fa σ).bind fun x => (fb σ).bind fun y => g x y
theorem zdD {f : DSt → R D} {α : Type} {k : D → R α} {σ : St} {H : Hp} {Q : VK} {P : Hp → Hp → α → Prop} {G : Hp} {σd : DSt}
  (ok : Ok0 K mg σd σ G H) (q : RW ((f σd).bind k) (P G H) (za0 K mg E G H))
  (h : ∀ d v G' H', zbV G H G' H' → Ok0 K mg σd σ G' H' → Rep K mg G' d v → RW (k d) (P G H) (za0 K mg E G' H') → Q v H') : tE K mg E f σ H Q :=
 ⟨G, σd, ok, q.of_bind.mono (fun d _ q v G' H' s r => h d v G' H' s (ok.step s) r (q.mono (fun _ _ z => z) fun e z => z.step s)) fun _ z => z⟩
theorem noX {α : Type} {r : R α} {Q : α → Prop} {E' : D → Prop} (hr : ∀ e, r ≠ .err e) (h : RW r Q E') : RW r Q (fun _ => False) := by
 cases r with
 | ok a => exact h
 | err e => exact absurd rfl (hr e)
 | bad => exact h
def zf0 (g : D → D → R D) : Prop := ∀ a b e, g a b ≠ .err e
theorem zk8 {r : R2} {g : D → D → R D} (hd : OpD X.K X.mg r g) (hn : zf0 g) {fa fb : DSt → R D} {σ : St} {H : Hp} {Q : VK} (h : tE X.K X.mg E (eOp g fa fb) σ H Q) : tOp r (tE X.K X.mg E fa) (tE X.K X.mg E fb) σ H Q := by
 obtain ⟨G, σd, ok, q⟩ := h
 refine zdD (P := zaD X.K X.mg Q) ok q fun a x G1 H1 s1 ok1 r1 q1 => ?_
 refine zdD (P := fun _ _ => zaD X.K X.mg Q G H) ok1 q1 fun b y G2 H2 s2 ok2 r2 q2 => ?_
 exact hd G2 H2 a b x y Q ok2.ext (r1.mono s2.g) r2 (noX (hn a b) (q2.mono (fun _ _ z => z.step (s1.trans s2)) fun _ z => z))
variable {a b c : Expr} {fa fb fc : DSt → R D} {pos : Pos}
theorem zmt {op : Operator} {r : R2} {g : D → D → R D} (ho : OpR X (binaryOp op) r) (hd : OpD X.K X.mg r g) (hn : zf0 g) (ha : DE X E a fa) (hb : DE X E b fb) : DE X E (.BinOp a op b pos) (eOp g fa fb) :=
 PE.mono' (zvb ho ha hb) fun _ _ _ h => zk8 hd hn h
theorem ztP {op : CmpOp} {r : R2} {g : D → D → R D} (ho : OpR X (compareOp op) r) (hd : OpD X.K X.mg r g) (hn : zf0 g) (ha : DE X E a fa) (hb : DE X E b fb) (hm : behindInMarks op b = false := by first | exact zal _ (by decide) (by decide) | rfl) : DE X E (.Compare a [op] [b] pos) (eOp g fa fb) :=
 PE.mono' (zrM ho ha hb hm) fun _ _ _ h => zk8 hd hn h
def asB : D → R Bool
 | .bl b => .ok b
 | _ => .bad
def zaO (f : DSt → R D) : DSt → R Bool := fun σ => (f σ).bind asB
theorem ziH {t : TE} {f : DSt → R D} (h : ∀ σ H Q, tE X.K X.mg E f σ H Q → t σ H Q) {σ : St} {H : Hp} {Q : Bool → Hp → Prop} (q : tT X.K X.mg E (zaO f) σ H Q) : zrN t σ H Q := by
 obtain ⟨G, σd, ok, q⟩ := q
 refine h σ H _ ⟨G, σd, ok, q.of_bind.mono (fun d _ q v G' H' s r => ?_) fun _ z => z⟩
 cases d with
 | bl k => cases r; exact ⟨k, rfl, (show zft Q G H k from q) G' H' s⟩
 | _ => exact (show False from q).elim
theorem ztQ {op : CmpOp} {r : R2} {g : D → D → R D} (ho : OpR X (compareOp op) r) (hd : OpD X.K X.mg r g) (hn : zf0 g) (ha : DE X E a fa) (hb : DE X E b fb) (hm : behindInMarks op b = false := by first | exact zal _ (by decide) (by decide) | rfl) : DT X E (.Compare a [op] [b] pos) (zaO (eOp g fa fb)) :=
 PT.mono' (zrO ho ha hb hm) fun _ _ _ q => ziH (fun _ _ _ h => zk8 hd hn h) q
def zjv (g g' : D → D → R D) (fa fb fc : DSt → R D) : DSt → R D := fun σ => (fa σ).bind fun x => (fb σ).bind fun y => (g x y).bind fun z => (asB z).bind fun k => bif k then (fc σ).bind fun w => g' y w else .ok (.bl false)
theorem zns {r r' : R2} {g g' : D → D → R D} (hd : OpD X.K X.mg r g) (hn : zf0 g) (hd' : OpD X.K X.mg r' g') (hn' : zf0 g') {σ : St} {H : Hp} {Q : VK} (h : tE X.K X.mg E (zjv g g' fa fb fc) σ H Q) :
  zqp r r' (tE X.K X.mg E fa) (tE X.K X.mg E fb) (tE X.K X.mg E fc) σ H Q := by
 obtain ⟨G, σd, ok, q⟩ := h
 refine zdD (P := zaD X.K X.mg Q) ok q fun a x G1 H1 s1 ok1 r1 q1 => ?_
 refine zdD (P := fun _ _ => zaD X.K X.mg Q G H) ok1 q1 fun b y G2 H2 s2 ok2 r2 q2 => ?_
 refine hd G2 H2 a b x y _ ok2.ext (r1.mono s2.g) r2 ?_
 have s12 := s1.trans s2
 cases ez : g a b with
 | bad => rw [ez] at q2; exact q2.elim
 | err e => exact absurd ez (hn a b e)
 | ok z =>
  rw [ez] at q2
  intro v G3 H3 s3 r3
  cases z with
  | bl k =>
   cases r3
   have ok3 := ok2.step s3
   have s13 := s12.trans s3
   refine ⟨k, rfl, ?_⟩
   cases k with
   | false =>
    rw [if_neg Bool.false_ne_true]
    have q3 : zaD X.K X.mg Q G H (.bl false) := q2
    exact q3 _ G3 H3 s13 rfl
   | true =>
    rw [if_pos rfl]
    have q3 : RW ((fc σd).bind fun w => g' b w) (zaD X.K X.mg Q G H) (za0 X.K X.mg E G2 H2) := q2
    refine zdD (k := fun w => g' b w) (P := fun _ _ => zaD X.K X.mg Q G H) ok3 (q3.mono (fun _ _ z => z) fun _ z => z.step s3) fun c w G4 H4 s4 ok4 r4 q4 => ?_
    exact hd' G4 H4 b c y w Q ok4.ext (r2.mono (s3.g.trans s4.g)) r4 (noX (hn' b c) (q4.mono (fun _ _ z => z.step (s13.trans s4)) fun _ z => z))
  | _ => exact (show False from q2).elim
theorem zpI {op op' : CmpOp} {r r' : R2} {g g' : D → D → R D} (ho : OpR X (compareOp op) r) (hd : OpD X.K X.mg r g) (hn : zf0 g) (ho' : OpR X (compareOp op') r') (hd' : OpD X.K X.mg r' g') (hn' : zf0 g') (ha : DE X E a fa) (hb : DE X E b fb) (hc : DE X E c fc)
  (hm : lastMarks [op, op'] [b, c] = false := by with_unfolding_all rfl) : DT X E (.Compare a [op, op'] [b, c] pos) (zaO (zjv g g' fa fb fc)) :=
 PT.mono' (zpf ho ho' ha hb hc hm) fun _ _ _ q => ziH (fun _ _ _ h => zns hd hn hd' hn' h) q
theorem zcO {e : Expr} {f : DSt → R D} (h : DE X E e f) (he : ∀ whole, isTrue e X.env whole = (do let v ← whole; standAt e.pos; holding [v] (truthy v)) := by intro _; rfl) : DT X E e (zaO f) :=
 PT.mono' (zs6 h he) fun σ H Q q => ziH (t := tE X.K X.mg E f) (fun _ _ _ h => h) q
theorem DW.dt {e : Expr} {f : DSt → R Bool} (h : DW X E e f) : DT X E e f := h _
variable {zcB : List Expr} {ga gb : DSt → R Bool}
def zsT (fa fb : DSt → R Bool) : DSt → R Bool := fun σ => (fa σ).bind fun k => bif k then fb σ else .ok false
def eOr (fa fb : DSt → R Bool) : DSt → R Bool := fun σ => (fa σ).bind fun k => bif k then .ok true else fb σ
def zks (fa : DSt → R Bool) : DSt → R Bool := fun σ => (fa σ).bind fun k => .ok (!k)
theorem zkt {f : DSt → R Bool} {α : Type} {k : Bool → R α} {σ : St} {H : Hp} {Q : Bool → Hp → Prop} {P : α → Prop} {G : Hp} {σd : DSt}
  (ok : Ok0 K mg σd σ G H) (q : RW ((f σd).bind k) P (za0 K mg E G H))
  (h : ∀ b G' H', zbV G H G' H' → Ok0 K mg σd σ G' H' → RW (k b) P (za0 K mg E G' H') → Q b H') : tT K mg E f σ H Q :=
 ⟨G, σd, ok, q.of_bind.mono (fun d _ q G' H' s => h d G' H' s (ok.step s) (q.mono (fun _ _ z => z) fun e z => z.step s)) fun _ z => z⟩
theorem zku (ha : DT X E a ga) : DW X E (.BoolOp .And [a] pos) ga := zrF ha
theorem zgK (ha : DT X E a ga) : DW X E (.BoolOp .Or [a] pos) ga := zs7 ha
theorem zk9 (ha : DT X E a ga) (hb : DW X E (.BoolOp .And (b :: zcB) pos) gb) : DW X E (.BoolOp .And (a :: b :: zcB) pos) (zsT ga gb) := by
 refine PW.mono' (zs8 ha hb) fun σ H Q ⟨G, σd, ok, q⟩ => ?_
 refine zkt ok q fun k G' H' s ok' q' => ?_
 cases k with
 | true => rw [if_pos rfl]; exact ⟨G', σd, ok', q'.mono (fun _ _ z => z.step s) fun _ z => z⟩
 | false => rw [if_neg Bool.false_ne_true]; exact (show zft Q G H false from q') G' H' s
theorem ziI (ha : DT X E a ga) (hb : DW X E (.BoolOp .Or (b :: zcB) pos) gb) : DW X E (.BoolOp .Or (a :: b :: zcB) pos) (eOr ga gb) := by
 refine PW.mono' (zu3 ha hb) fun σ H Q ⟨G, σd, ok, q⟩ => ?_
 refine zkt ok q fun k G' H' s ok' q' => ?_
 cases k with
 | true => rw [if_pos rfl]; exact (show zft Q G H true from q') G' H' s
 | false => rw [if_neg Bool.false_ne_true]; exact ⟨G', σd, ok', q'.mono (fun _ _ z => z.step s) fun _ z => z⟩
theorem zdL (ha : DT X E a ga) : DT X E (.UnaryOp .Not a pos) (zks ga) := by
 refine PT.mono' (zs9 ha) fun σ H Q ⟨G, σd, ok, q⟩ => ?_
 exact zkt ok q fun k G' H' s _ q' => (show zft Q G H (!k) from q') G' H' s
def zqB (fa fb : DSt → R D) : DSt → R D := fun σ => (fa σ).bind fun x => (asB x).bind fun k => bif k then fb σ else .ok (.bl false)
def vOr (fa fb : DSt → R D) : DSt → R D := fun σ => (fa σ).bind fun x => (asB x).bind fun k => bif k then .ok (.bl true) else fb σ
def zuR (fa : DSt → R D) : DSt → R D := fun σ => (fa σ).bind fun x => (asB x).bind fun k => .ok (.bl !k)
theorem zhU {op} {f : DSt → R D} (h : DE X E a f) : DE X E (.BoolOp op [a] pos) f := zta h
theorem zhV (ha : DE X E a fa) (hb : DE X E (.BoolOp .And (b :: zcB) pos) fb) : DE X E (.BoolOp .And (a :: b :: zcB) pos) (zqB fa fb) := by
 refine PE.mono' (ztb ha hb) fun σ H Q ⟨G, σd, ok, q⟩ => ?_
 refine zdD (P := zaD X.K X.mg Q) ok q fun d v G' H' s ok' r q' => ?_
 cases d with
 | bl k =>
  cases r
  refine ⟨k, rfl, ?_⟩
  cases k with
  | true => rw [if_pos rfl]; exact ⟨G', σd, ok', q'.mono (fun _ _ z => z.step s) fun _ z => z⟩
  | false => rw [if_neg Bool.false_ne_true]; exact (show zaD X.K X.mg Q G H (.bl false) from q') _ G' H' s rfl
 | _ => exact (show False from q').elim
theorem zqC (ha : DE X E a fa) : DE X E (.UnaryOp .Not a pos) (zuR fa) := by
 refine PE.mono' (ztc ha) fun σ H Q ⟨G, σd, ok, q⟩ => ?_
 refine zdD (P := zaD X.K X.mg Q) ok q fun d v G' H' s ok' r q' => ?_
 cases d with
 | bl k => cases r; exact ⟨k, rfl, (show zaD X.K X.mg Q G H (.bl !k) from q') _ G' H' s rfl⟩
 | _ => exact (show False from q').elim
def eIf (c : DSt → R Bool) (fa fb : DSt → R D) : DSt → R D := fun σ => (c σ).bind fun k => bif k then fa σ else fb σ
def UnD (K : PySem.W.Frag) (mg : Str → Option Value) (r : V → Hp → VK → Prop) (g : D → R D) : Prop :=
 ∀ (G H : Hp) (a : D) (x : V) (Q : VK), zaP G H → Rep K mg G a x → RW (g a) (zaD K mg Q G H) (fun _ => False) → r x H Q
def eUn (g : D → R D) (fa : DSt → R D) : DSt → R D := fun σ => (fa σ).bind g
theorem zvI {op : UnaryOp} {r : V → Hp → VK → Prop} {g : D → R D} (ho : UnR X (unaryOp op) r) (hd : UnD X.K X.mg r g) (hn : ∀ a e, g a ≠ .err e) (ha : DE X E a fa) : DE X E (.UnaryOp op a pos) (eUn g fa) := by
 refine PE.mono' (zvc ho ha) fun σ H Q ⟨G, σd, ok, q⟩ => ?_
 refine zdD (P := zaD X.K X.mg Q) ok q fun d v G' H' s ok' r q' => ?_
 exact hd G' H' d v Q ok'.ext r (noX (hn d) (q'.mono (fun _ _ z => z.step s) fun _ z => z))
def zaz : DSt → R (List D) := fun _ => .ok []
def zaf (fa : DSt → R D) (fs : DSt → R (List D)) : DSt → R (List D) := fun σ => (fa σ).bind fun x => (fs σ).bind fun xs => .ok (x :: xs)
variable {es : List Expr} {fs : DSt → R (List D)}
theorem zai : DA X E [] zaz := PA.mono' zqq fun σ H Q ⟨G, σd, ok, q⟩ => (show zk6 X.K X.mg Q G H [] from q) [] G H (.refl ok.ext) Reps.nil
theorem zad (ha : DE X E a fa) (hr : DA X E es fs) (hs : starEach (a :: es) X.env = (false, eval a X.env) :: starEach es X.env := by rfl) : DA X E (a :: es) (zaf fa fs) := by
 refine PA.mono' (zmW ha hr hs) fun σ H Q ⟨G, σd, ok, q⟩ => ?_
 refine zdD (P := zk6 X.K X.mg Q) ok q fun d v G' H' s ok' r q' => ?_
 refine ⟨G', σd, ok', q'.of_bind.mono (fun ds _ z vs G2 H2 s2 r2 => ?_) fun _ z => z⟩
 exact (show zk6 X.K X.mg Q G H (d :: ds) from z) _ G2 H2 (s.trans s2) (Reps.cons (r.mono s2.g) r2)
def few (n : Nat) : Bool := decide (n ≤ 1000)
theorem znt {n : Nat} (h : few n = true) : n ≤ sizeLine := zvu (of_decide_eq_true h)
def zhy (fs : DSt → R (List D)) : DSt → R D := fun σ => (fs σ).bind fun ds => bif few ds.length then .ok (.tup ds) else .bad
theorem znu {α : Type} {k : List D → R α} {σ : St} {H : Hp} {Q : List V → Hp → Prop} {P : α → Prop} {G : Hp} {σd : DSt}
  (ok : Ok0 K mg σd σ G H) (q : RW ((fs σd).bind k) P (za0 K mg E G H))
  (h : ∀ ds vs G' H', zbV G H G' H' → Ok0 K mg σd σ G' H' → Reps K mg G' ds vs → RW (k ds) P (za0 K mg E G' H') → Q vs H') : tAr K mg E fs σ H Q :=
 ⟨G, σd, ok, q.of_bind.mono (fun ds _ q vs G' H' s r => h ds vs G' H' s (ok.step s) r (q.mono (fun _ _ z => z) fun e z => z.step s)) fun _ z => z⟩
theorem zce {x1} (h : DA X E es fs) : DE X E (.Tuple es x1 pos) (zhy fs) := by
 refine PE.mono' (zts h) fun σ H Q ⟨G, σd, ok, q⟩ => ?_
 refine znu (P := zaD X.K X.mg Q G H) ok q fun ds vs G' H' s ok' r q' => ?_
 cases hf : few ds.length with
 | false => rw [hf] at q'; exact (show False from q').elim
 | true =>
  rw [hf] at q'
  have q2 : zaD X.K X.mg Q G H (.tup ds) := q'
  refine ⟨by rw [← r.length]; exact znt hf, fun p hp => ?_⟩
  have s2 : zbV G' H' (upd G' p (.tup vs)) (upd H' p (.tup vs)) := .pub ok'.ext hp
  exact q2 _ _ _ (s.trans s2) ⟨p, vs, rfl, SqT.of zaA, r.mono s2.g⟩
def zgm (fs : DSt → R (List D)) : DSt → R (List D) := fun σ => (fs σ).bind fun ds => bif few ds.length then .ok ds else .bad
theorem zbJ (h : DA X E es fs) : DF X E (.List es pos) (zgm fs) := by
 refine PE.mono' (ztt h) fun σ H Q ⟨G, σd, ok, q⟩ => ?_
 refine znu (P := zf9 X.K X.mg Q G H) ok q fun ds vs G' H' s ok' r q' => ?_
 cases hf : few ds.length with
 | false => rw [hf] at q'; exact (show False from q').elim
 | true =>
  rw [hf] at q'
  have q2 : zf9 X.K X.mg Q G H ds := q'
  refine ⟨by rw [← r.length]; exact znt hf, fun p hp => ?_⟩
  exact q2 p vs G' _ (s.trans (.hid ok'.ext hp)) (s.h.free hp) zaA (ok'.ext.free hp) r
def gIx : D → D → R D
 | .tup xs, .int i => match atI xs i with
  | some d => .ok d
  | none => .bad
 | .lst xs, .int i => match atI xs i with
  | some d => .ok d
  | none => .bad
 | _, _ => .bad
theorem zvJ : zf0 gIx := by
 intro a b e h
 cases a <;> cases b <;> simp only [gIx] at h <;> first | exact absurd h (by simp) | (split at h <;> cases h)
theorem zvK : OpD K mg (fun x y H Q => rIxL K x y H Q ∨ rIxT K x y H Q) gIx := by
 intro G H a b x y Q e ra rb q
 cases b with
 | int i =>
  cases rb
  cases a with
  | lst xs =>
   obtain ⟨p, vs, rfl, h1, h2⟩ := ra
   cases ed : atI xs i with
   | none => simp only [gIx, ed] at q; exact q.elim
   | some d =>
    simp only [gIx, ed] at q
    obtain ⟨v, h3, h4⟩ := h2.at ed
    exact .inl ⟨p, vs, i, v, rfl, rfl, e.seq h1, h3, zaD.now q e h4⟩
  | tup xs =>
   obtain ⟨p, vs, rfl, h1, h2⟩ := ra
   cases ed : atI xs i with
   | none => simp only [gIx, ed] at q; exact q.elim
   | some d =>
    simp only [gIx, ed] at q
    obtain ⟨v, h3, h4⟩ := h2.at ed
    exact .inr ⟨p, vs, i, v, rfl, rfl, zaP.sqT e h1, h3, zaD.now q e h4⟩
  | _ => exact (show False from q).elim
 | _ => cases a <;> exact (show False from q).elim
theorem zam (ha : DE X E a fa) (hb : DE X E b fb) (hs : zm0 b := by intro _ _; rfl) : DE X E (.Subscript a b pos) (eOp gIx fa fb) :=
 PE.mono' (zvl (zrW.or zty) ha hb hs) fun _ _ _ h => zk8 zvK zvJ h
end
def spD (K : PySem.W.Frag) (mg : Str → Option Value) (m : List D → R D) : Sp := fun vs H Q E => ∃ G ds, zaP G H ∧ Reps K mg G ds vs ∧ RW (m ds) (zaD K mg Q G H) (za0 K mg E G H)
structure zaC (P : Program) (w : World) (K : PySem.W.Frag) (mg : Str → Option Value) (base : Heap) (k : Nat) (x : Str) (m : List D → R D) : Prop where
 ex : ∃ (f : Addr) (fd : FuncData) (ps : List Str), zhN P w K mg base (CXe P w) k f fd ps (spD K mg m) ∧ mg x = some (.ref f) ∧ PySem.W.keepIn K (.ref f) = true ∧ zbg K fd ps []
theorem zaC.mono {P : Program} {w : World} {K : PySem.W.Frag} {mg : Str → Option Value} {base : Heap} {j k : Nat} {x : Str} {m : List D → R D} (F : zaC P w K mg base j x m) (h : j ≤ k) : zaC P w K mg base k x m := by
 obtain ⟨f, fd, ps, h1, h2⟩ := F.ex
 exact ⟨f, fd, ps, h1.mono h, h2⟩
structure XC (X : Cx) (E : XK) (k : Nat) : Prop where
 calm : X.calm = true
 room : zhw k X.A
 pass : zi9 (CXe X.prog X.w) X E
def zaN (m : List D → R D) (fs : DSt → R (List D)) : DSt → R D := fun σ => (fs σ).bind m
def zgn (K : PySem.W.Frag) (mg : Str → Option Value) (r : List V → Hp → VK → Prop) (g : List D → R D) : Prop :=
 ∀ (G H : Hp) (ds : List D) (vs : List V) (Q : VK), zaP G H → Reps K mg G ds vs → RW (g ds) (zaD K mg Q G H) (fun _ => False) → r vs H Q
def R.noerr {α : Type} : R α → R α
 | .ok a => .ok a
 | _ => .bad
def zdg (g : List D → R D) (fs : DSt → R (List D)) : DSt → R D := fun σ => (fs σ).bind fun ds => (g ds).noerr
theorem zdh {α : Type} {r : R α} {Q : α → Prop} {E' : D → Prop} (h : RW r.noerr Q E') : ∃ a, r = .ok a ∧ Q a := by
 cases r with
 | ok a => exact ⟨a, rfl, h⟩
 | err e => exact (show False from h).elim
 | bad => exact (show False from h).elim
section
variable {X : Cx} {E : XK} {k : Nat} {x : Str} {m : List D → R D} {p pos : Pos} {e : Expr} {es : List Expr} {fs : DSt → R (List D)}
theorem zao (C : XC X E k) (F : zaC X.prog X.w X.K X.mg X.base k x m) (ha : DA X E (e :: es) fs) (hg : Gl X x := by rfl) (hdb : (x == ("__debug__" : Str)) = false := by decide)
  (he : starEach (e :: es) X.env = (false, eval e X.env) :: starEach es X.env := by rfl) (hpl : (backTo pos (starEach es X.env)).any (·.1) = false := by rfl) : DE X E (.Call (.Name x p) (e :: es) [] pos) (zaN m fs) := by
 obtain ⟨f, fd, ps, h1, h2, h3, h4⟩ := F.ex
 refine PE.mono' (zrP h1 C.room hg h2 h3 h4 .nil C.pass ha hdb he hpl) fun σ H Q ⟨G, σd, ok, q⟩ => ?_
 refine ⟨G, σd, ok, q.of_bind.mono (fun ds hds z vs G' H' s r => ?_) fun _ z => z⟩
 show spD X.K X.mg m (vs ++ []) H' Q E
 rw [List.append_nil]
 exact ⟨G', ds, s.e, r, z.mono (fun _ _ z => z.step s) fun _ z => z.step s⟩
theorem zgL {id : String} {r : List V → Hp → VK → Prop} {g : List D → R D} (hc : zde X (.builtin id) r) (hd : zgn X.K X.mg r g) (hm : X.mg x = none) (hv : bootBuiltins x = some (.builtin id)) (ha : DA X E (e :: es) fs) (hg : Gl X x := by rfl) (hn : x ≠ "__name__" := by decide) (hdb : (x == ("__debug__" : Str)) = false := by decide)
  (he : starEach (e :: es) X.env = (false, eval e X.env) :: starEach es X.env := by rfl) (hpl : (backTo pos (starEach es X.env)).any (·.1) = false := by rfl) : DE X E (.Call (.Name x p) (e :: es) [] pos) (zdg g fs) := by
 refine PE.mono' (zkS hc hg hm hv ha hn hdb he hpl) fun σ H Q ⟨G, σd, ok, q⟩ => ?_
 refine ⟨G, σd, ok, q.of_bind.mono (fun ds _ z vs G' H' s r => ?_) fun _ z => z⟩
 obtain ⟨d, e1, z⟩ := zdh z
 exact hd G' H' ds vs Q s.e r (by rw [e1]; exact z.step s)
theorem ztR {T : String} {r : List V → Hp → VK → Prop} {g : List D → R D} (hc : zde X (.type T) r) (hd : zgn X.K X.mg r g) (hm : X.mg x = none) (ha : DA X E (e :: es) fs) (hv : bootBuiltins x = some (.type T) := by rfl) (hg : Gl X x := by rfl) (hn : x ≠ "__name__" := by decide) (hdb : (x == ("__debug__" : Str)) = false := by decide)
  (he : starEach (e :: es) X.env = (false, eval e X.env) :: starEach es X.env := by rfl) (hpl : (backTo pos (starEach es X.env)).any (·.1) = false := by rfl) : DE X E (.Call (.Name x p) (e :: es) [] pos) (zdg g fs) := by
 refine PE.mono' (zgC hc hg hm hv ha hn hdb he hpl) fun σ H Q ⟨G, σd, ok, q⟩ => ?_
 refine ⟨G, σd, ok, q.of_bind.mono (fun ds _ z vs G' H' s r => ?_) fun _ z => z⟩
 obtain ⟨d, e1, z⟩ := zdh z
 exact hd G' H' ds vs Q s.e r (by rw [e1]; exact z.step s)
end
def setAll {α : Type} : List (Option α) → List Nat → List α → List (Option α)
 | σ, k :: ks, v :: vs => setAll (σ.set k (some v)) ks vs
 | σ, _, _ => σ
theorem zhW {α : Type} : ∀ (ks : List Nat) (σ : List (Option α)) (vs : List α), (setAll σ ks vs).length = σ.length
 | [], _, _ => by unfold setAll; rfl
 | _ :: _, _, [] => by unfold setAll; rfl
 | _ :: ks, σ, _ :: vs => by unfold setAll; rw [zhW ks]; simp
theorem zjw {α : Type} {j : Nat} : ∀ (ks : List Nat) (σ : List (Option α)) (vs : List α), j ∉ ks → (setAll σ ks vs)[j]? = σ[j]?
 | [], _, _, _ => by unfold setAll; rfl
 | _ :: _, _, [], _ => by unfold setAll; rfl
 | k :: ks, σ, _ :: vs, h => by
  unfold setAll
  rw [zjw ks _ vs fun z => h (List.mem_cons_of_mem _ z), List.getElem?_set_ne (fun z => h (by rw [← z]; exact List.mem_cons_self))]
def tG (K : PySem.W.Frag) (mg : Str → Option Value) (ks : List Nat) (gp : D → R (List D)) : TG := fun v σ H Q => ∃ G d, zaP G H ∧ Rep K mg G d v ∧ RW (gp d) (fun us => ∀ ws, Reps K mg G us ws → Q (setAll σ ks ws) H) (fun _ => False)
def DG (X : Cx) (tg : Expr) (ks : List Nat) (gp : D → R (List D)) : Prop := PG X tg (tG X.K X.mg ks gp)
def zaI : D → R (List D) := fun d => .ok [d]
def zdE (n : Nat) : D → R (List D)
 | .tup ds => bif ds.length == n then .ok ds else .bad
 | .lst ds => bif ds.length == n then .ok ds else .bad
 | _ => .bad
section
variable {X : Cx} {pos : Pos}
theorem PG.mono' {tg : Expr} {t t' : TG} (h : PG X tg t) (m : ∀ v σ H Q, t' v σ H Q → t v σ H Q) : PG X tg t' := fun pins s σ H v u Q I r q => h pins s σ H v u Q I r (m v σ H Q q)
theorem PG.or {tg : Expr} {t t' : TG} (h : PG X tg t) (h' : PG X tg t') : PG X tg (fun v σ H Q => t v σ H Q ∨ t' v σ H Q) := fun pins s σ H v u Q I r q => by
 rcases q with q | q
 ·exact h pins s σ H v u Q I r q
 ·exact h' pins s σ H v u Q I r q
theorem zaJ (i : Nat) {x : Str} (hN : X.N.Nodup) (hi : X.N[i]? = some x := by rfl) (hx : Loc X.env.scope x := by first | exact Or.inl rfl | exact Or.inr rfl) (hf : X.fn x = true ∨ X.env.scope.names.lookup x = some .local := by first | exact .inl rfl | exact .inr rfl | assumption) : DG X (.Name x pos) [i] zaI :=
 PG.mono' (zbU hN hi hx hf) fun v σ H Q ⟨G, d, e, r, q⟩ => by
  have q' := (show ∀ ws, Reps X.K X.mg G [d] ws → Q (setAll σ [i] ws) H from q) [v] (Reps.cons r Reps.nil)
  exact q'
def znv : List Nat → TGs
 | [] => gNil
 | i :: r => ztf (zkn i) (znv r)
theorem zgM : ∀ (ks : List Nat) (vs : List V) (σ : St) (H : Hp) (Q : St → Hp → Prop), vs.length = ks.length → Q (setAll σ ks vs) H → znv ks vs σ H Q
 | [], [], _, _, _, _, q => ⟨rfl, q⟩
 | i :: r, v :: vs, σ, H, Q, hl, q => ⟨v, vs, rfl, zgM r vs _ H Q (by simpa using hl) q⟩
theorem zhX {es : List Expr} {k : Nat} (ks : List Nat) (n : Nat) (hc : X.calm = true) (h : PGs X es (znv ks)) (hk : ks.length = n := by rfl)
  (hn : (assignEach es X.env).length = n := by rfl) (hst : (assignEach es X.env).findIdx? (·.1) = none := by rfl) : DG X (.Tuple es k pos) ks (zdE n) := by
 refine PG.mono' (PG.or (ztg hc h hn hst) (ztC hc h hn hst)) fun v σ H Q ⟨G, d, e, r, q⟩ => ?_
 cases d with
 | tup ds =>
  obtain ⟨a, vs, rfl, h1, h2⟩ := r
  by_cases hd : ds.length = n
  ·have q' : ∀ ws, Reps X.K X.mg G ds ws → Q (setAll σ ks ws) H := by
    simp only [zdE, hd, beq_self_eq_true, cond_true] at q; exact q
   exact .inl ⟨a, vs, rfl, zaP.sqT e h1, by rw [← h2.length]; exact hd, zgM ks vs σ H Q (by rw [← h2.length, hd, hk]) (q' vs h2)⟩
  ·have : (ds.length == n) = false := by simpa using hd
   simp only [zdE, this, cond_false] at q; exact q.elim
 | lst ds =>
  obtain ⟨a, vs, rfl, h1, h2⟩ := r
  by_cases hd : ds.length = n
  ·have q' : ∀ ws, Reps X.K X.mg G ds ws → Q (setAll σ ks ws) H := by
    simp only [zdE, hd, beq_self_eq_true, cond_true] at q; exact q
   exact .inr ⟨a, vs, rfl, e.seq h1, by rw [← h2.length]; exact hd, zgM ks vs σ H Q (by rw [← h2.length, hd, hk]) (q' vs h2)⟩
  ·have : (ds.length == n) = false := by simpa using hd
   simp only [zdE, this, cond_false] at q; exact q.elim
 | _ => exact (show False from q).elim
end
theorem Ok0.setAll {K : PySem.W.Frag} {mg : Str → Option Value} {G H : Hp} : ∀ {ks : List Nat} {us : List D} {ws : List V} {σd : DSt} {σ : St}, Ok0 K mg σd σ G H → Reps K mg G us ws → Ok0 K mg (setAll σd ks us) (setAll σ ks ws) G H
 | [], _, _, _, _, o, _ => by unfold DL.setAll; exact o
 | _ :: _, [], _, _, _, o, h => by cases h; unfold DL.setAll; exact o
 | k :: ks, _ :: _, _, _, _, o, ⟨v, r, h1, h2, h3⟩ => by subst h1; unfold DL.setAll; exact Ok0.setAll (o.set h2) h3
structure zf1 (K : PySem.W.Frag) (mg : Str → Option Value) (J : It) (G : Hp) (ds : List D) : Prop where
 stop : ∀ H, zaP G H → J.stop ds.length H
 turn : ∀ (H : Hp) (i : Nat) (d : D), zaP G H → ds[i]? = some d → J.go i H ∧ ∀ x H', J.yld i H x H' → ∀ G1, zaP G G1 → zaP G1 H → ∃ G2, zbV G1 H G2 H' ∧ Rep K mg G2 d x
def tI (K : PySem.W.Frag) (mg : Str → Option Value) (E : XK) (f : DSt → R (List D)) : TI := fun σ H R => ∃ G σd, Ok0 K mg σd σ G H ∧ RW (f σd) (fun ds => ∀ J G' H', zbV G H G' H' → zf1 K mg J G' ds → R J H') (za0 K mg E G H)
def DI (X : Cx) (E : XK) (tg iter : Expr) (f : DSt → R (List D)) : Prop := PI X tg iter (tI X.K X.mg E f)
section
variable {X : Cx} {E : XK} {tg : Expr}
theorem PI.mono' {iter : Expr} {t t' : TI} (h : PI X tg iter t) (m : ∀ σ H R, t' σ H R → t σ H R) : PI X tg iter t' := fun pins s σ H R I q => h pins s σ H R I (m σ H R q)
theorem zf1.list {K : PySem.W.Frag} {mg : Str → Option Value} {G : Hp} {a : Addr} {vs : List V} {ds : List D} (h : SqL K G a vs) (r : Reps K mg G ds vs) : zf1 K mg (Itl K a) G ds := by
 refine ⟨fun H e => by rw [r.length]; exact (lgo (e.seq h)).1, fun H i d e hd => ?_⟩
 have hi : i < vs.length := by rw [← r.length]; exact (List.getElem?_eq_some_iff.mp hd).1
 obtain ⟨g1, g2⟩ := (lgo (e.seq h)).2 i hi
 refine ⟨g1, fun x H' y G1 e1 e2 => ?_⟩
 obtain ⟨rfl, hx⟩ := g2 x H' y
 obtain ⟨v, h1, h2⟩ := r.get hd
 rw [hx] at h1; cases h1
 exact ⟨G1, .refl e2, h2.mono e1⟩
theorem zf1.tup {K : PySem.W.Frag} {mg : Str → Option Value} {G : Hp} {a : Addr} {vs : List V} {ds : List D} (h : SqT K G a vs) (r : Reps K mg G ds vs) : zf1 K mg (Itt K a) G ds := by
 refine ⟨fun H e => by rw [r.length]; exact (tgo (zaP.sqT e h)).1, fun H i d e hd => ?_⟩
 have hi : i < vs.length := by rw [← r.length]; exact (List.getElem?_eq_some_iff.mp hd).1
 obtain ⟨g1, g2⟩ := (tgo (zaP.sqT e h)).2 i hi
 refine ⟨g1, fun x H' y G1 e1 e2 => ?_⟩
 obtain ⟨rfl, hx⟩ := g2 x H' y
 obtain ⟨v, h1, h2⟩ := r.get hd
 rw [hx] at h1; cases h1
 exact ⟨G1, .refl e2, h2.mono e1⟩
def znw (lo : Int) (n : Nat) : List D := (List.range n).map fun (i : Nat) => D.int (lo + (i : Int))
theorem zf1.rng {K : PySem.W.Frag} {mg : Str → Option Value} {G : Hp} (lo : Int) (n : Nat) : zf1 K mg (Itr lo n) G (znw lo n) := by
 have hl : (znw lo n).length = n := by simp [znw]
 refine ⟨fun H e => by rw [hl]; exact Nat.le_refl _, fun H i d e hd => ?_⟩
 have hi : i < n := by have := (List.getElem?_eq_some_iff.mp hd).1; omega
 refine ⟨hi, fun x H' y G1 e1 e2 => ?_⟩
 obtain ⟨rfl, rfl⟩ := y
 have : d = .int (lo + (i : Int)) := by simp [znw, hi] at hd; exact hd.symm
 subst this
 exact ⟨G1, .refl e2, rfl⟩
def ztS : D → R (List D)
 | .tup ds => .ok ds
 | .lst ds => .ok ds
 | _ => .bad
def zgN (f : DSt → R D) : DSt → R (List D) := fun σ => (f σ).bind ztS
theorem zcl {l : Expr} {f : DSt → R D} (hl : DE X E l f) : DI X E tg l (zgN f) := by
 have hL : PI X tg l (ztl X.K (tE X.K X.mg E f)) := zrK hl
 have hT : PI X tg l (iTup X.K (tE X.K X.mg E f)) := ztm hl
 intro pins s σ H R I ⟨G, σd, ok, q⟩
 cases hf : f σd with
 | bad => unfold zgN at q; rw [hf] at q; exact (show False from q).elim
 | err e =>
  unfold zgN at q; rw [hf] at q
  refine hL pins s σ H R I ⟨G, σd, ok, ?_⟩
  rw [hf]; exact q
 | ok d =>
  unfold zgN at q; rw [hf] at q
  cases d with
  | lst ds =>
   have q' : ∀ J G' H', zbV G H G' H' → zf1 X.K X.mg J G' ds → R J H' := q
   refine hL pins s σ H R I ⟨G, σd, ok, ?_⟩
   rw [hf]
   rintro v G' H' st ⟨a, vs, rfl, h1, h2⟩
   exact ⟨a, rfl, ⟨vs, st.e.seq h1⟩, q' _ G' H' st (.list h1 h2)⟩
  | tup ds =>
   have q' : ∀ J G' H', zbV G H G' H' → zf1 X.K X.mg J G' ds → R J H' := q
   refine hT pins s σ H R I ⟨G, σd, ok, ?_⟩
   rw [hf]
   rintro v G' H' st ⟨a, vs, rfl, h1, h2⟩
   exact ⟨a, rfl, ⟨vs, zaP.sqT st.e h1⟩, q' _ G' H' st (.tup h1 h2)⟩
  | _ => exact (show False from q).elim
def rOk (i : Int) : Bool := Nat.blt i.natAbs 1073741824
theorem ztT {i : Int} (h : rOk i = true) : -(2 ^ 30) ≤ i ∧ i < 2 ^ 30 := by
 unfold rOk at h
 rw [Nat.blt_eq] at h
 omega
def zgO : List D → R (List D)
 | [.int j] => bif rOk j then .ok (znw 0 j.toNat) else .bad
 | _ => .bad
def rng2 : List D → R (List D)
 | [.int i, .int j] => bif rOk i && rOk j then .ok (znw i (j - i).toNat) else .bad
 | _ => .bad
def zeq (g : List D → R (List D)) (fs : DSt → R (List D)) : DSt → R (List D) := fun σ => (fs σ).bind g
variable {fs : DSt → R (List D)} {a b c : Expr} {p pos : Pos}
theorem zbh (hm : X.mg "range" = none) (ha : DA X E [a] fs) (hg : Gl X "range" := by rfl) (hs : starEach [a] X.env = [(false, eval a X.env)] := by rfl) : DI X E tg (.Call (.Name "range" p) [a] [] pos) (zeq zgO fs) := by
 refine PI.mono' (zmT hg hm ha hs) fun σ H R ⟨G, σd, ok, q⟩ => ?_
 refine ⟨G, σd, ok, q.of_bind.mono (fun ds _ z vs G' H' s r => ?_) fun _ z => z⟩
 match ds, z, r with
 | [.int j], z, r =>
  obtain rfl := Reps.of_ints (ns := [j]) r
  cases hj : rOk j with
  | false => simp only [zgO, hj, cond_false] at z; exact z.elim
  | true =>
   simp only [zgO, hj, cond_true] at z
   have := ztT hj
   exact ⟨j, rfl, by omega, by omega, z _ G' H' s (.rng 0 _)⟩
end
def lcD (ks : List Nat) (gp : D → R (List D)) (c : DSt → R Bool) (e : DSt → R D) (σ : DSt) : List D → R (List D)
 | [] => .ok []
 | d :: ds => (gp d).bind fun us => (c (setAll σ ks us)).bind fun k => bif k then (e (setAll σ ks us)).bind fun y => (lcD ks gp c e σ ds).bind fun ys => .ok (y :: ys) else lcD ks gp c e σ ds
def most (n : Nat) : Bool := decide (n < sizeLine)
def eLC (k : Nat) (ks : List Nat) (fi : DSt → R (List D)) (gp : D → R (List D)) (c : DSt → R Bool) (e : DSt → R D) : DSt → R (List D) := fun σ => (fi σ).bind fun ds => bif most ds.length then (lcD ks gp c e (List.replicate k none ++ σ) ds).noerr else .bad
def zbW : DSt → R Bool := fun _ => .ok true
def DTs (X : Cx) (E : XK) (cs : List Expr) (f : DSt → R Bool) : Prop := PTs X cs (tT X.K X.mg E f)
theorem PTs.mono' {X : Cx} {cs : List Expr} {t t' : TT} (h : PTs X cs t) (m : ∀ σ H Q, t' σ H Q → t σ H Q) : PTs X cs t' := fun pins s σ H Q I q => h pins s σ H Q I (m σ H Q q)
theorem zcJ {X : Cx} {E : XK} : DTs X E [] zbW := PTs.mono' zrZ fun σ H Q ⟨G, σd, ok, q⟩ => (show zft Q G H true from q) G H (.refl ok.ext)
theorem zfh {X : Cx} {E : XK} {c : Expr} {f : DSt → R Bool} (h : DT X E c f) : DTs X E [c] f := zr0 h
theorem RW.ok_of {α : Type} {r : R α} {a : α} {Q : α → Prop} {E : D → Prop} (e : r = .ok a) (h : Q a) : RW r Q E := by rw [e]; exact h
theorem ziJ {α β : Type} {r : R α} {k : α → R β} {b : β} (h : r.bind k = .ok b) : ∃ a, r = .ok a ∧ k a = .ok b := by
 cases r with
 | ok a => exact ⟨a, rfl, h⟩
 | err e => cases h
 | bad => cases h
section
variable {X : Cx} {E : XK} {tg elt iter : Expr} {ifs : List Expr} {scope : Scope} {pos : Pos} {NY : List Str} {k : Nat} {ks : List Nat} {fi : DSt → R (List D)} {gp : D → R (List D)} {fc : DSt → R Bool} {fe : DSt → R D}
theorem zjx {k : Nat} {ks : List Nat} {σ : St} (h : ks.all (fun i => decide (i < k)) = true) (ws : List V) : zr1 (List.replicate k none ++ σ) (setAll (List.replicate k none ++ σ) ks ws) := by
 refine ⟨zhW _ _ _, fun j v e => ?_⟩
 rw [zjw _ _ _ fun hj => ?_]
 ·exact e
 ·have hk : j < k := of_decide_eq_true (List.all_eq_true.mp h j hj)
  rw [List.getElem?_append_left (by simpa using hk), List.getElem?_replicate, if_pos hk] at e
  cases e
theorem zqD {te : TE} {tc : TT} (hk : ks.all (fun i => decide (i < k)) = true) {σ : St} {H : Hp} {Q : VK}
  (h : tFr X.K X.mg E (eLC k ks fi gp fc fe) σ H Q) : tLC k (tI X.K X.mg E fi) (tG X.K X.mg ks gp) (tT X.K X.mg E0 fc) (tE X.K X.mg E0 fe) σ H Q := by
 obtain ⟨G, σd, ok, q⟩ := h
 refine ⟨G, σd, ok, q.of_bind.mono (fun ds _ z J G1 H1 s1 it => ?_) fun _ z => z⟩
 cases hm : most ds.length with
 | false => rw [hm] at z; exact (show False from z).elim
 | true =>
  rw [hm] at z
  obtain ⟨tot, ht, z⟩ := zdh (show RW (lcD ks gp fc fe (List.replicate k none ++ σd) ds).noerr _ _ from z)
  have hlt : ds.length < sizeLine := of_decide_eq_true hm
  have ok1 := ok.step s1
  refine ⟨fun i m ys H' => m = ds.length - i ∧ i ≤ ds.length ∧ ∃ G' yd zcB, zbV G1 H1 G' H' ∧ Reps X.K X.mg G' yd ys ∧ yd.length ≤ i ∧ lcD ks gp fc fe (List.replicate k none ++ σd) (ds.drop i) = .ok zcB ∧ tot = yd ++ zcB,
   ⟨ds.length, by simp, Nat.zero_le _, G1, [], tot, .refl ok1.ext, Reps.nil, Nat.zero_le _, ht, rfl⟩, ?_⟩
  rintro i m ys H' ⟨rfl, hi, G', yd, zcB, s, r, hyl, hr, rfl⟩
  refine ⟨by rw [← r.length]; omega, ?_⟩
  by_cases hlt2 : i < ds.length
  ·right
   obtain ⟨d, hd⟩ : ∃ d, ds[i]? = some d := ⟨ds[i], by simp [hlt2]⟩
   obtain ⟨g1, g2⟩ := it.turn H' i d (s.g.trans s.e) hd
   have hdrop : ds.drop i = d :: ds.drop (i + 1) := by
    rw [List.drop_eq_getElem_cons hlt2]
    congr 1
    exact Option.some.inj ((List.getElem?_eq_getElem hlt2).symm.trans hd)
   rw [hdrop] at hr
   refine ⟨g1, fun ys' H'' => ∃ G' yd zcB, zbV G1 H1 G' H'' ∧ Reps X.K X.mg G' yd ys' ∧ yd.length ≤ i + 1 ∧ lcD ks gp fc fe (List.replicate k none ++ σd) (ds.drop (i + 1)) = .ok zcB ∧ _ = yd ++ zcB, fun ys' H'' h => ⟨ds.length - (i + 1), by omega, rfl, hlt2, h⟩, fun v H'' hy => ?_⟩
   obtain ⟨G2, s2, rv⟩ := g2 v H'' hy G' s.g s.e
   unfold lcD at hr
   obtain ⟨us, e1, hr⟩ := ziJ hr
   obtain ⟨kk, e2, hr⟩ := ziJ hr
   have s12 := s.trans s2
   have okN : Ok0 X.K X.mg (List.replicate k none ++ σd) (List.replicate k none ++ σ) G2 H'' := (ok1.step s12).nones k
   refine ⟨G2, d, s2.e, rv, RW.ok_of e1 fun ws rws => ⟨zjx hk ws, ?_⟩⟩
   have okS := okN.setAll (ks := ks) rws
   refine ⟨G2, _, okS, RW.ok_of e2 fun G3 H3 s3 => ?_⟩
   cases kk with
   | false =>
    rw [if_neg Bool.false_ne_true]
    exact ⟨G3, yd, zcB, s12.trans s3, r.mono (s2.g.trans s3.g), by omega, hr, rfl⟩
   | true =>
    rw [if_pos rfl]
    obtain ⟨y, e3, hr⟩ := ziJ (show (fe (setAll (List.replicate k none ++ σd) ks us)).bind _ = _ from hr)
    obtain ⟨ys2, e4, hr⟩ := ziJ hr
    cases hr
    refine ⟨G3, _, okS.step s3, RW.ok_of e3 fun w G4 H4 s4 r4 => ?_⟩
    exact ⟨G4, yd ++ [y], ys2, (s12.trans s3).trans s4, (r.mono ((s2.g.trans s3.g).trans s4.g)).append (Reps.cons r4 Reps.nil), by simp; omega, e4, by simp⟩
  ·left
   have hi2 : i = ds.length := by omega
   subst hi2
   refine ⟨it.stop H' (s.g.trans s.e), fun Dd hD => ?_⟩
   rw [List.drop_length] at hr
   have hre : zcB = [] := by unfold lcD at hr; cases hr; rfl
   subst hre
   rw [List.append_nil] at z
   have st := (s1.trans s)
   exact z Dd ys G' _ (st.trans (.hid st.e hD)) (st.h.free hD) zaA (st.e.free hD) r
theorem zfu (C : X.calm = true) (lc : LC X k scope NY) (hk : ks.all (fun i => decide (i < k)) = true) (hi : DI X E tg iter fi)
  (hb : ∀ (s₀ : Shared) (H₀ : Hp) (C : Addr) (ex : List Addr), NY.Nodup → DG (zeV X scope NY s₀ H₀ C ex) tg ks gp ∧ DTs (zeV X scope NY s₀ H₀ C ex) E0 ifs fc ∧ DE (zeV X scope NY s₀ H₀ C ex) E0 elt fe)
  (hs : ∀ x, foldedSetIterable iter X.env x = pure x := by intro _; rfl) : DF X E (.ListComp elt [⟨tg, iter, ifs, 0⟩] scope pos) (eLC k ks fi gp fc fe) :=
 PE.mono' (zvs (g := tG X.K X.mg ks gp) (tc := tT X.K X.mg E0 fc) (te := tE X.K X.mg E0 fe) C lc hi (fun s0 H0 Ca ex nd => hb s0 H0 Ca ex nd) hs) fun _ _ _ h => zqD (te := tE X.K X.mg E0 fe) (tc := tT X.K X.mg E0 fc) hk h
end
end DL
end
section
set_option Elab.async false
set_option linter.all false
set_option maxRecDepth 100000
namespace DL
open PySem L2
mutual
def imm : D → Bool
 | .lst _ => false
 | .dct _ _ => false
 | .tup ds => imms ds
 | .exc _ as => imms as
 | .non => true
 | .bl _ => true
 | .int _ => true
 | .str _ => true
 | .ty _ => true
 | .cls _ => true
def imms : List D → Bool
 | [] => true
 | d :: ds => imm d && imms ds
end
section
variable {K : PySem.W.Frag} {mg : Str → Option Value} {G G' H H' H0 : Hp}
end
structure Ok (K : PySem.W.Frag) (mg : Str → Option Value) (H0 : Hp) (own : List Nat) (σd : DSt) (σ : St) (G H : Hp) : Prop where
 ext : zaP G H
 len : σd.length = σ.length
 val : ∀ (i : Nat) (d : D), i ∉ own → σd[i]? = some (some d) → ∃ v, σ[i]? = some (some v) ∧ Rep K mg G d v
 mine : ∀ (i : Nat) (d : D), i ∈ own → σd[i]? = some (some d) → ∃ a ds vs, σ[i]? = some (some (.ref a)) ∧ d = .lst ds ∧ H a = some (.lst vs) ∧ G a = none ∧ H0 a = none ∧ Reps K mg G ds vs
 dj : ∀ (i j : Nat) (a : Addr) (d d' : D), i ∈ own → j ∈ own → σd[i]? = some (some d) → σd[j]? = some (some d') → σ[i]? = some (some (.ref a)) → σ[j]? = some (some (.ref a)) → i = j
def zgo (own : List Nat) : Nat → DSt → DSt
 | _, [] => []
 | i, d :: ds => (bif own.contains i then none else d) :: zgo own (i + 1) ds
def mask (own : List Nat) (σ : DSt) : DSt := zgo own 0 σ
theorem zjy {own : List Nat} : ∀ (σ : DSt) (k i : Nat) (d : D), (zgo own k σ)[i]? = some (some d) → k + i ∉ own ∧ σ[i]? = some (some d)
 | [], _, _, _, h => by unfold zgo at h; simp at h
 | x :: σ, k, 0, d, h => by
  unfold zgo at h
  simp only [List.getElem?_cons_zero, Option.some.injEq] at h
  cases hc : own.contains k with
  | true => rw [hc] at h; cases h
  | false =>
   rw [hc] at h
   have h' : x = some d := h
   subst h'
   exact ⟨by simpa using hc, rfl⟩
 | x :: σ, k, i + 1, d, h => by
  unfold zgo at h
  have := zjy σ (k + 1) i d (by simpa using h)
  rw [show k + (i + 1) = k + 1 + i by omega]
  exact ⟨this.1, by simpa using this.2⟩
theorem zjz {own : List Nat} : ∀ (σ : DSt) (k : Nat), (zgo own k σ).length = σ.length
 | [], _ => rfl
 | _ :: σ, k => by unfold zgo; simp [zjz σ]
def zsf (own : List Nat) (σd : DSt) (σ : St) (b : Addr) : Prop := ∃ i d, i ∈ own ∧ σd[i]? = some (some d) ∧ σ[i]? = some (some (.ref b))
open Classical in
noncomputable def zqE (own : List Nat) (σd : DSt) (σ : St) (G H : Hp) : Hp := fun b => if zsf own σd σ b then H b else G b
section
variable {K : PySem.W.Frag} {mg : Str → Option Value} {G G' G0 H H' H0 : Hp} {own : List Nat} {σd : DSt} {σ : St}
theorem Ok.masked (o : Ok K mg H0 own σd σ G H) : Ok0 K mg (mask own σd) σ G H :=
 ⟨o.ext, by unfold mask; rw [zjz]; exact o.len, fun i d h => by
  have := zjy σd 0 i d h
  rw [Nat.zero_add] at this
  exact o.val i d this.1 this.2⟩
theorem Ok.zero (o : Ok0 K mg σd σ G H) : Ok K mg H0 [] σd σ G H :=
 ⟨o.ext, o.len, fun i d _ h => o.val i d h, fun i d h => absurd h (by simp), fun i j a d d' h => absurd h (by simp)⟩
theorem Ok.step (o : Ok K mg H0 own σd σ G H) (s : zbV G H G' H') : Ok K mg H0 own σd σ G' H' :=
 ⟨s.e, o.len, fun i d hi h => let ⟨v, h1, h2⟩ := o.val i d hi h; ⟨v, h1, h2.mono s.g⟩, fun i d hi h => by
  obtain ⟨a, ds, vs, h1, h2, h3, h4, h5, h6⟩ := o.mine i d hi h
  exact ⟨a, ds, vs, h1, h2, s.h _ _ h3, s.c _ _ h3 h4, h5, h6.mono s.g⟩, o.dj⟩
theorem Ok.notOwn (o : Ok K mg H0 own σd σ G H) {b : Addr} {u : HO} (h : G b = some u) : ¬ zsf own σd σ b := by
 rintro ⟨i, d, h1, h2, h3⟩
 obtain ⟨a, ds, vs, q1, q2, q3, q4, _⟩ := o.mine i d h1 h2
 rw [q1] at h3
 cases h3
 rw [q4] at h; cases h
theorem Ok.ownLst (o : Ok K mg H0 own σd σ G H) {b : Addr} (h : zsf own σd σ b) : (∃ vs, H b = some (.lst vs)) ∧ G b = none ∧ H0 b = none := by
 obtain ⟨i, d, h1, h2, h3⟩ := h
 obtain ⟨a, ds, vs, q1, q2, q3, q4, q5, _⟩ := o.mine i d h1 h2
 rw [q1] at h3
 cases h3
 exact ⟨⟨vs, q3⟩, q4, q5⟩
theorem Ok.pub (o : Ok K mg H0 own σd σ G H) : Ok0 K mg σd σ (zqE own σd σ G H) H ∧ zaP G (zqE own σd σ G H) := by
 have sg : zaP G (zqE own σd σ G H) := fun b u h => by unfold zqE; rw [if_neg (o.notOwn h)]; exact h
 refine ⟨⟨fun b u h => ?_, o.len, fun i d h => ?_⟩, sg⟩
 ·unfold zqE at h
  split at h
  ·exact h
  ·exact o.ext b u h
 ·by_cases hi : i ∈ own
  ·obtain ⟨a, ds, vs, q1, rfl, q3, q4, q5, q6⟩ := o.mine i d hi h
   refine ⟨_, q1, a, vs, rfl, SqL.of ?_, q6.mono sg⟩
   unfold zqE
   rw [if_pos ⟨i, _, hi, h, q1⟩]; exact q3
  ·obtain ⟨v, h1, h2⟩ := o.val i d hi h
   exact ⟨v, h1, h2.mono sg⟩
theorem Ok.pubStep (o : Ok K mg H0 own σd σ G H) (s0 : zbV G0 H0 G H) : zbV G0 H0 (zqE own σd σ G H) H := by
 refine ⟨s0.g.trans o.pub.2, s0.h, o.pub.1.ext, fun b u h1 h2 => ?_⟩
 unfold zqE
 rw [if_neg fun z => by rw [(o.ownLst z).2.2] at h1; cases h1]
 exact s0.c b u h1 h2
theorem Ok.drop (o : Ok K mg H0 own σd σ G H) (s : zaP H H') : Ok K mg H0 own σd σ G H' :=
 o.step (.heap o.ext s)
theorem zcC {α : Type} {l : List (Option α)} {i : Nat} {x d : α} (h : (l.set i (some x))[i]? = some (some d)) : d = x ∧ i < l.length := by
 have hl : i < l.length := by have := (List.getElem?_eq_some_iff.mp h).1; simpa using this
 rw [List.getElem?_set_self hl] at h
 cases h
 exact ⟨rfl, hl⟩
theorem Ok.set {i : Nat} {d : D} {v : V} (o : Ok K mg H0 own σd σ G H) (hi : i ∉ own) (h : Rep K mg G d v) : Ok K mg H0 own (σd.set i (some d)) (σ.set i (some v)) G H := by
 have ne : ∀ {j : Nat}, j ∈ own → j ≠ i := fun hj z => hi (z ▸ hj)
 refine ⟨o.ext, by simp [o.len], fun j e hj q => ?_, fun j e hj q => ?_, fun j k a d1 d2 h1 h2 h3 h4 h5 h6 => ?_⟩
 ·by_cases hji : j = i
  ·subst hji
   obtain ⟨rfl, hl⟩ := zcC q
   exact ⟨v, by rw [List.getElem?_set_self (by rw [← o.len]; exact hl)], h⟩
  ·rw [List.getElem?_set_ne (Ne.symm hji)] at q ⊢
   exact o.val j e hj q
 ·rw [List.getElem?_set_ne (Ne.symm (ne hj))] at q ⊢
  exact o.mine j e hj q
 ·rw [List.getElem?_set_ne (Ne.symm (ne h1))] at h3 h5
  rw [List.getElem?_set_ne (Ne.symm (ne h2))] at h4 h6
  exact o.dj j k a d1 d2 h1 h2 h3 h4 h5 h6
theorem Ok.setAll : ∀ {ks : List Nat} {us : List D} {ws : List V} {σd : DSt} {σ : St}, Ok K mg H0 own σd σ G H → (∀ k ∈ ks, k ∉ own) → Reps K mg G us ws → Ok K mg H0 own (DL.setAll σd ks us) (DL.setAll σ ks ws) G H
 | [], _, _, _, _, o, _, _ => by unfold DL.setAll; exact o
 | _ :: _, [], _, _, _, o, _, h => by cases h; unfold DL.setAll; exact o
 | k :: ks, _ :: _, _, _, _, o, hk, ⟨v, r, h1, h2, h3⟩ => by
  subst h1; unfold DL.setAll
  exact Ok.setAll (o.set (hk k List.mem_cons_self) h2) (fun j hj => hk j (List.mem_cons_of_mem _ hj)) h3
theorem Ok.new {i : Nat} {ds : List D} {vs : List V} {a : Addr} {own' : List Nat} (o : Ok K mg H0 own σd σ G H) (s : zbV G H G' H') (n : H a = none) (e : H' a = some (.lst vs)) (g : G' a = none) (n0 : H0 a = none) (r : Reps K mg G' ds vs)
  (hown : ∀ j, j ∈ own' ↔ j = i ∨ j ∈ own) : Ok K mg H0 own' (σd.set i (some (.lst ds))) (σ.set i (some (.ref a))) G' H' := by
 have o' := o.step s
 have away : ∀ {j : Nat} {d : D}, j ∈ own → j ≠ i → σd[j]? = some (some d) → σ[j]? = some (some (.ref a)) → False := fun {j d} hj _ hd hs => by
  obtain ⟨b, _, _, q1, _, q3, _⟩ := o.mine j d hj hd
  rw [q1] at hs; cases hs
  rw [n] at q3; cases q3
 refine ⟨o'.ext, by simp [o.len], fun j d hj q => ?_, fun j d hj q => ?_, fun j k b d1 d2 h1 h2 h3 h4 h5 h6 => ?_⟩
 ·have hji : j ≠ i := fun z => hj ((hown j).mpr (.inl z))
  rw [List.getElem?_set_ne (Ne.symm hji)] at q ⊢
  exact o'.val j d (fun z => hj ((hown j).mpr (.inr z))) q
 ·by_cases hji : j = i
  ·subst hji
   obtain ⟨rfl, hl⟩ := zcC q
   exact ⟨a, ds, vs, by rw [List.getElem?_set_self (by rw [← o.len]; exact hl)], rfl, e, g, n0, r⟩
  ·rw [List.getElem?_set_ne (Ne.symm hji)] at q ⊢
   exact o'.mine j d (((hown j).mp hj).resolve_left hji) q
 ·by_cases hji : j = i
  ·by_cases hki : k = i
   ·rw [hji, hki]
   ·subst hji
    obtain ⟨rfl, hl⟩ := zcC h3
    rw [List.getElem?_set_self (by rw [← o.len]; exact hl)] at h5
    cases h5
    rw [List.getElem?_set_ne (Ne.symm hki)] at h4 h6
    exact (away (((hown k).mp h2).resolve_left hki) hki h4 h6).elim
  ·by_cases hki : k = i
   ·subst hki
    obtain ⟨rfl, hl⟩ := zcC h4
    rw [List.getElem?_set_self (by rw [← o.len]; exact hl)] at h6
    cases h6
    rw [List.getElem?_set_ne (Ne.symm hji)] at h3 h5
    exact (away (((hown j).mp h1).resolve_left hji) hji h3 h5).elim
   ·rw [List.getElem?_set_ne (Ne.symm hji)] at h3 h5
    rw [List.getElem?_set_ne (Ne.symm hki)] at h4 h6
    exact o.dj j k b d1 d2 (((hown j).mp h1).resolve_left hji) (((hown k).mp h2).resolve_left hki) h3 h4 h5 h6
theorem Ok.write {i : Nat} {d : D} {ds : List D} {vs : List V} {a : Addr} (o : Ok K mg H0 own σd σ G H) (hi : i ∈ own) (hd : σd[i]? = some (some d)) (ha : σ[i]? = some (some (.ref a))) (r : Reps K mg G ds vs) :
  Ok K mg H0 own (σd.set i (some (.lst ds))) σ G (upd H a (.lst vs)) := by
 obtain ⟨b, ds0, vs0, q1, q2, q3, q4, q5, q6⟩ := o.mine i d hi hd
 rw [ha] at q1; cases q1
 have hl : i < σd.length := (List.getElem?_eq_some_iff.mp hd).1
 refine ⟨fun b u h => ?_, by simp [o.len], fun j e hj q => ?_, fun j e hj q => ?_, fun j k b d1 d2 h1 h2 h3 h4 h5 h6 => ?_⟩
 ·rw [zay (zas h q4)]; exact o.ext b u h
 ·have hji : j ≠ i := fun z => hj (z ▸ hi)
  rw [List.getElem?_set_ne (Ne.symm hji)] at q
  exact o.val j e hj q
 ·by_cases hji : j = i
  ·subst hji
   obtain ⟨rfl, _⟩ := zcC q
   exact ⟨a, ds, vs, ha, rfl, zaA, q4, q5, r⟩
  ·rw [List.getElem?_set_ne (Ne.symm hji)] at q
   obtain ⟨c, es, ws, p1, p2, p3, p4⟩ := o.mine j e hj q
   have hc : c ≠ a := fun z => by subst z; exact hji (o.dj j i c e d hj hi q hd p1 ha)
   exact ⟨c, es, ws, p1, p2, by rw [zay hc]; exact p3, p4⟩
 ·have back : ∀ {j : Nat} {e : D}, (σd.set i (some (.lst ds)))[j]? = some (some e) → ∃ e', σd[j]? = some (some e') := fun {j e} q => by
   by_cases hji : j = i
   ·exact ⟨d, hji ▸ hd⟩
   ·rw [List.getElem?_set_ne (Ne.symm hji)] at q; exact ⟨e, q⟩
  obtain ⟨e1, h3⟩ := back h3
  obtain ⟨e2, h4⟩ := back h4
  exact o.dj j k b e1 e2 h1 h2 h3 h4 h5 h6
theorem zbV.write {a : Addr} {o u : HO} (s0 : zbV G0 H0 G H) (n : H0 a = none) (g : G a = none) : zbV G0 H0 G (upd H a u) :=
 ⟨s0.g, fun b v h => by rw [zay (zas h n)]; exact s0.h b v h, fun b v h => by rw [zay (zas h g)]; exact s0.e b v h, s0.c⟩
theorem Ok.release {i : Nat} {own' : List Nat} (o : Ok K mg H0 own σd σ G H) (s0 : zbV G0 H0 G H) (hi : i ∈ own) (hown : ∀ j, j ∈ own' ↔ j ≠ i ∧ j ∈ own) : ∃ G', Ok K mg H0 own' σd σ G' H ∧ zbV G0 H0 G' H ∧ zaP G G' := by
 by_cases hb : ∃ d, σd[i]? = some (some d)
 ·obtain ⟨d, hd⟩ := hb
  obtain ⟨a, ds, vs, q1, rfl, q3, q4, q5, q6⟩ := o.mine i d hi hd
  have sg : zaP G (upd G a (.lst vs)) := zcS q4
  have eh : zaP (upd G a (.lst vs)) H := fun b u h => by
   by_cases hb : b = a
   ·subst hb; rw [zaA] at h; cases h; exact q3
   ·rw [zay hb] at h; exact o.ext b u h
  refine ⟨upd G a (.lst vs), ⟨eh, o.len, fun j e hj q => ?_, fun j e hj q => ?_, fun j k b d1 d2 h1 h2 h3 h4 h5 h6 => ?_⟩, ⟨s0.g.trans sg, s0.h, eh, fun b u h1 h2 => ?_⟩, sg⟩
  ·by_cases hji : j = i
   ·subst hji
    rw [hd] at q; cases q
    exact ⟨_, q1, a, vs, rfl, SqL.of zaA, q6.mono sg⟩
   ·obtain ⟨v, h1, h2⟩ := o.val j e (fun z => hj ((hown j).mpr ⟨hji, z⟩)) q
    exact ⟨v, h1, h2.mono sg⟩
  ·obtain ⟨hji, hj'⟩ := (hown j).mp hj
   obtain ⟨c, es, ws, p1, p2, p3, p4, p5, p6⟩ := o.mine j e hj' q
   have hc : c ≠ a := fun z => by subst z; exact hji (o.dj j i c e _ hj' hi q hd p1 q1)
   exact ⟨c, es, ws, p1, p2, p3, by rw [zay hc]; exact p4, p5, p6.mono sg⟩
  ·exact o.dj j k b d1 d2 ((hown j).mp h1).2 ((hown k).mp h2).2 h3 h4 h5 h6
  ·rw [zay (zas h1 q5)]; exact s0.c b u h1 h2
 ·refine ⟨G, ⟨o.ext, o.len, fun j e hj q => ?_, fun j e hj q => o.mine j e ((hown j).mp hj).2 q, fun j k b d1 d2 h1 h2 => o.dj j k b d1 d2 ((hown j).mp h1).2 ((hown k).mp h2).2⟩, s0, zaP.refl _⟩
  have hji : j ≠ i := fun z => hb ⟨e, z ▸ q⟩
  exact o.val j e (fun z => hj ((hown j).mpr ⟨hji, z⟩)) q
end
inductive Out where
 | nx (σ : DSt) | rt (d : D) | bk (σ : DSt) | ct (σ : DSt) | rf (ds : List D)
section
variable (K : PySem.W.Frag) (mg : Str → Option Value) (E : XK)
def zgt (G0 H0 : Hp) (own' ol : List Nat) (Dn : zmP) (G : Hp) : Out → Prop
 | .nx σd' => ∀ σ' G' H', Ok K mg H0 own' σd' σ' G' H' → zbV G0 H0 G' H' → zaP G G' → Dn.nx σ' H'
 | .bk σd' => ∀ σ' G' H', Ok K mg H0 ol σd' σ' G' H' → zbV G0 H0 G' H' → zaP G G' → Dn.bk σ' H'
 | .ct σd' => ∀ σ' G' H', Ok K mg H0 ol σd' σ' G' H' → zbV G0 H0 G' H' → zaP G G' → Dn.ct σ' H'
 | .rt d => ∀ v G' H', zbV G0 H0 G' H' → Rep K mg G' d v → Dn.rt v H'
 | .rf ds => ∀ a vs G' H', zbV G0 H0 G' H' → H0 a = none → H' a = some (.lst vs) → G' a = none → Reps K mg G' ds vs → Dn.rt (.ref a) H'
def tS (G0 H0 : Hp) (own own' ol : List Nat) (f : DSt → R Out) : TS := fun Dn σ H => ∃ G σd, Ok K mg H0 own σd σ G H ∧ zbV G0 H0 G H ∧ RW (f σd) (zgt K mg G0 H0 own' ol Dn G) (za0 K mg E G0 H0)
end
theorem zgt.shift {K : PySem.W.Frag} {mg : Str → Option Value} {G0 H0 G G' : Hp} {own' ol : List Nat} {Dn : zmP} (s : zaP G G') {o : Out} (h : zgt K mg G0 H0 own' ol Dn G o) : zgt K mg G0 H0 own' ol Dn G' o := by
 cases o with
 | nx _ => exact fun a b c d e f => h a b c d e (s.trans f)
 | bk _ => exact fun a b c d e f => h a b c d e (s.trans f)
 | ct _ => exact fun a b c d e f => h a b c d e (s.trans f)
 | rt _ => exact h
 | rf _ => exact h
def DS (X : Cx) (E : XK) (own own' ol : List Nat) (st : Stmt) (f : DSt → R Out) : Prop := ∀ G0, PS X st (tS X.K X.mg E G0 X.H₀ own own' ol f)
def DSs (X : Cx) (E : XK) (own own' ol : List Nat) (st : List Stmt) (f : DSt → R Out) : Prop := ∀ G0, PSs X st (tS X.K X.mg E G0 X.H₀ own own' ol f)
def za2 (f g : DSt → R Out) : DSt → R Out := fun σ => (f σ).bind fun o => match o with
 | .nx σ' => g σ'
 | o => .ok o
def zcD : DSt → R Out := fun σ => .ok (.nx σ)
section
variable {X : Cx} {E : XK} {own own1 own2 own' ol : List Nat} {st : Stmt} {zcB : List Stmt} {f g : DSt → R Out} {pos : Pos}
theorem zaZ : DSs X E own own ol [] zcD := fun G0 => PSs.mono' zrG fun Dn σ H ⟨G, σd, ok, s0, q⟩ => (show zgt X.K X.mg G0 X.H₀ own ol Dn G (.nx σd) from q) σ G H ok s0 (zaP.refl _)
theorem zah (h1 : DS X E own own1 ol st f) (h2 : DSs X E own1 own2 ol zcB g) : DSs X E own own2 ol (st :: zcB) (za2 f g) := fun G0 => PSs.mono' (zpb (h1 G0) (h2 G0)) fun Dn σ H ⟨G, σd, ok, s0, q⟩ => by
 refine ⟨G, σd, ok, s0, q.of_bind.mono (fun o _ z => ?_) fun _ z => z⟩
 cases o with
 | nx σ1 =>
  intro σ' G' H' ok' s' e'
  exact ⟨G', σ1, ok', s', (show RW (g σ1) _ _ from z).mono (fun o _ z => z.shift e') fun _ z => z⟩
 | rt d => exact z
 | rf d => exact z
 | bk d => exact z
 | ct d => exact z
theorem zak (h1 : DS X E own own1 ol st f) : DSs X E own own1 ol [st] f := fun G0 => zrH (h1 G0)
theorem zkv (i : Nat) (hi : own.contains i = true) (ho : own' = own.filter fun j => j != i) (h : DSs X E own' own2 ol zcB g) : DSs X E own own2 ol zcB g := fun G0 => PSs.mono' (h G0) fun Dn σ H ⟨G, σd, ok, s0, q⟩ => by
 obtain ⟨G', ok', s', e'⟩ := ok.release (i := i) (own' := own') s0 (by simpa using hi) fun j => by subst ho; simp [and_comm]
 exact ⟨G', σd, ok', s', q.mono (fun o _ z => z.shift e') fun _ z => z⟩
theorem ztU : DS X E own own' ol st eBad := fun G0 => PS.mono' zpc fun Dn σ H ⟨G, σd, ok, s0, q⟩ => q
def zcK (fe : DSt → R D) : DSt → R Out := fun σ => (fe σ).bind fun d => .ok (.rt d)
theorem zaB {e : Expr} {fe : DSt → R D} (h : DE X E e fe) : DS X E own own' ol (.Return (some e) pos) (zcK fe) := fun G0 => PS.mono' (ztd h) fun Dn σ H ⟨G, σd, ok, s0, q⟩ => by
 have s1 := ok.pubStep s0
 exact ⟨_, σd, ok.pub.1, q.of_bind.mono (fun d _ z v G' H' s r => (show zgt X.K X.mg G0 X.H₀ own' ol Dn G (.rt d) from z) v G' H' (s1.trans s) r) fun _ z => z.step s1⟩
def sIf (c : DSt → R Bool) (f g : DSt → R Out) : DSt → R Out := fun σ => (c σ).bind fun k => bif k then f σ else g σ
theorem zcL {c : Expr} {a b : List Stmt} {fc : DSt → R Bool} (hc : DT X E c fc) (ha : DSs X E own own' ol a f) (hb : DSs X E own own' ol b g) : DS X E own own' ol (.If c a b pos) (sIf fc f g) := fun G0 =>
 PS.mono' (zu8 hc (ha G0) (hb G0)) fun Dn σ H ⟨G, σd, ok, s0, q⟩ => by
 have s1 := ok.pubStep s0
 refine ⟨_, σd, ok.pub.1, q.of_bind.mono (fun k _ z G' H' s => ?_) fun _ z => z.step s1⟩
 have ok' := ok.drop s.h
 have s' : zbV G0 X.H₀ G H' := s0.trans (.heap ok.ext s.h)
 cases k with
 | true => exact iteT ⟨G, σd, ok', s', z⟩
 | false => exact iteF ⟨G, σd, ok', s', z⟩
def znx (fe : DSt → R D) : DSt → R Out := fun σ => (fe σ).bind fun _ => .ok (.nx σ)
theorem zsg {e : Expr} {fe : DSt → R D} (h : DE X E e fe) (hs : swapsWith e none pos.line X.env = pure false := by rfl) : DS X E own own ol (.Expr e pos) (znx fe) := fun G0 => PS.mono' (zmQ h hs) fun Dn σ H ⟨G, σd, ok, s0, q⟩ => by
 have s1 := ok.pubStep s0
 refine ⟨_, σd, ok.pub.1, q.of_bind.mono (fun d _ z v G' H' s r => ?_) fun _ z => z.step s1⟩
 exact (show zgt X.K X.mg G0 X.H₀ own ol Dn G (.nx σd) from z) σ G H' (ok.drop s.h) (s0.trans (.heap ok.ext s.h)) (zaP.refl _)
def zkl (own : List Nat) (i : Nat) (fe : DSt → R D) : DSt → R Out := fun σ => (fe (mask own σ)).bind fun d => .ok (.nx (σ.set i (some d)))
def zaK (i : Nat) (fe : DSt → R D) : DSt → R Out := fun σ => (fe σ).bind fun d => .ok (.nx (σ.set i (some d)))
def zvL (i : Nat) (fe : DSt → R D) : DSt → R Out := fun σ => (fe σ).bind fun d => bif imm d then .ok (.nx (σ.set i (some d))) else .bad
theorem zny {own : List Nat} {i : Nat} (h : own.contains i = false) : i ∉ own := by simpa using h
theorem zgu (σ : DSt) : mask [] σ = σ := by
 have : ∀ (σ : DSt) (k : Nat), zgo [] k σ = σ := fun σ => by
  induction σ with
  | nil => intro k; rfl
  | cons d ds ih => intro k; unfold zgo; rw [ih]; rfl
 exact this σ 0
theorem zvM {te : TE} {fe : DSt → R D} {i : Nat} {G0 : Hp} (h : ∀ σ H Q, tE X.K X.mg E fe σ H Q → te σ H Q) (ho : own.contains i = false) {Dn : zmP} {σ : St} {H : Hp} (q : tS X.K X.mg E G0 X.H₀ own own ol (zkl own i fe) Dn σ H) : zsR te (zkn i) Dn σ H := by
 obtain ⟨G, σd, ok, s0, q⟩ := q
 refine h σ H _ ⟨G, mask own σd, ok.masked, q.of_bind.mono (fun d _ z v G' H' s r => ?_) fun _ z => z.step s0⟩
 exact (show zgt X.K X.mg G0 X.H₀ own ol Dn G (.nx (σd.set i (some d))) from z) _ G' H' ((ok.step s).set (zny ho) r) (s0.trans s) s.g
def zsU (own : List Nat) (i : Nat) (fe : DSt → R (List D)) : DSt → R Out := fun σ => (fe (mask own σ)).bind fun ds => .ok (.nx (σ.set i (some (.lst ds))))
def zgP (own : List Nat) (i : Nat) : List Nat := if own.contains i then own else i :: own
theorem zkw {own : List Nat} {i j : Nat} : j ∈ zgP own i ↔ j = i ∨ j ∈ own := by
 unfold zgP
 split
 ·rename_i h
  have hi : i ∈ own := by simpa using h
  exact ⟨.inr, fun h => h.elim (fun e => e ▸ hi) id⟩
 ·simp
theorem asgN {te : TE} {fe : DSt → R (List D)} {i : Nat} {G0 : Hp} (h : ∀ σ H Q, tFr X.K X.mg E fe σ H Q → te σ H Q) {Dn : zmP} {σ : St} {H : Hp} (q : tS X.K X.mg E G0 X.H₀ own (zgP own i) ol (zsU own i fe) Dn σ H) : zsR te (zkn i) Dn σ H := by
 obtain ⟨G, σd, ok, s0, q⟩ := q
 refine h σ H _ ⟨G, mask own σd, ok.masked, q.of_bind.mono (fun ds _ z a vs G' H' s n e g r => ?_) fun _ z => z.step s0⟩
 exact (show zgt X.K X.mg G0 X.H₀ (zgP own i) ol Dn G (.nx (σd.set i (some (.lst ds)))) from z) _ G' H' (ok.new s n e g (s0.h.free n) r fun j => zkw) (s0.trans s) s.g
variable {i : Nat} {x : Str} {e : Expr} {pos' : Pos} {fe : DSt → R D} {fl : DSt → R (List D)}
theorem zjA (i : Nat) (hN : X.N.Nodup) (he : DE X E e fe) (ho : own.contains i = false := by rfl) (hi : X.N[i]? = some x := by rfl) (hx : Loc X.env.scope x := by first | exact Or.inl rfl | exact Or.inr rfl) (hs : swapsWith e (some (.Name x pos')) pos.line X.env = pure false := by rfl)
  (hf : X.fn x = true ∨ X.env.scope.names.lookup x = some .local := by first | exact .inl rfl | exact .inr rfl | assumption) : DS X E own own ol (.Assign [.Name x pos'] e pos) (zkl own i fe) := fun G0 =>
 PS.mono' (zmR hN hi hx he hs hf) fun Dn σ H q => zvM (fun _ _ _ z => z) ho q
theorem zan (i : Nat) (hN : X.N.Nodup) (he : DE X E e fe) (hi : X.N[i]? = some x := by rfl) (hx : Loc X.env.scope x := by first | exact Or.inl rfl | exact Or.inr rfl) (hs : swapsWith e (some (.Name x pos')) pos.line X.env = pure false := by rfl)
  (hf : X.fn x = true ∨ X.env.scope.names.lookup x = some .local := by first | exact .inl rfl | exact .inr rfl | assumption) : DS X E [] [] ol (.Assign [.Name x pos'] e pos) (zaK i fe) := fun G0 => by
 have : zaK i fe = zkl [] i fe := by funext σ; unfold zaK zkl; rw [zgu]
 rw [this]
 exact PS.mono' (zmR hN hi hx he hs hf) fun Dn σ H q => zvM (fun _ _ _ z => z) rfl q
theorem znz (i : Nat) (hN : X.N.Nodup) (he : DF X E e fl) (hw : own' = zgP own i := by rfl) (hi : X.N[i]? = some x := by rfl) (hx : Loc X.env.scope x := by first | exact Or.inl rfl | exact Or.inr rfl) (hs : swapsWith e (some (.Name x pos')) pos.line X.env = pure false := by rfl)
  (hf : X.fn x = true ∨ X.env.scope.names.lookup x = some .local := by first | exact .inl rfl | exact .inr rfl | assumption) : DS X E own own' ol (.Assign [.Name x pos'] e pos) (zsU own i fl) := fun G0 => by
 subst hw; exact PS.mono' (zmR hN hi hx he hs hf) fun Dn σ H q => asgN (fun _ _ _ z => z) q
theorem ztV {te : TE} (h : ∀ σ H Q, tFr X.K X.mg E fl σ H Q → te σ H Q) : ∀ σ H Q, tE X.K X.mg E (fun σ => (fl σ).bind fun ds => .ok (.lst ds)) σ H Q → te σ H Q := fun σ H Q ⟨G, σd, ok, q⟩ => by
 refine h σ H Q ⟨G, σd, ok, q.of_bind.mono (fun ds _ q => ?_) fun _ z => z⟩
 intro a vs G' H' s n e g r
 have q' : zaD X.K X.mg Q G H (.lst ds) := q
 have sg : zaP G' (upd G' a (.lst vs)) := zcS g
 refine q' (.ref a) (upd G' a (.lst vs)) H' ⟨s.g.trans sg, s.h, fun b u p => ?_, fun b u p1 p2 => ?_⟩ ⟨a, vs, rfl, SqL.of zaA, r.mono sg⟩
 ·by_cases hb : b = a
  ·subst hb; rw [zaA] at p; cases p; exact e
  ·rw [zay hb] at p; exact s.e b u p
 ·have hb : b ≠ a := zas p1 n
  rw [zay hb]; exact s.c b u p1 p2
def zdF (fl : DSt → R (List D)) : DSt → R D := fun σ => (fl σ).bind fun ds => .ok (.lst ds)
theorem DF.val (h : DF X E e fl) : DE X E e (zdF fl) := h.de
variable {tg elt iter : Expr} {ifs : List Expr} {scope : Scope} {NY : List Str} {k : Nat} {ks : List Nat} {fi : DSt → R (List D)} {gp : D → R (List D)} {fc : DSt → R Bool} {lpos : Pos}
theorem ztW (i : Nat) (C : X.calm = true) (hN : X.N.Nodup) (hi' : X.N[i]? = some x) (hy : X.env.kindOf x = some .local) (lc : LC X k scope NY) (hi : DI X E tg iter fi)
  (hb : ∀ (s₀ : Shared) (H₀ : Hp) (C : Addr) (ex : List Addr), NY.Nodup → DG (zeV X scope NY s₀ H₀ C ex) tg ks gp ∧ DTs (zeV X scope NY s₀ H₀ C ex) E0 ifs fc ∧ DE (zeV X scope NY s₀ H₀ C ex) E0 elt fe)
  (hsw : swapsWith (.ListComp elt [⟨tg, iter, ifs, 0⟩] scope lpos) (some (.Name x pos')) pos.line X.env = pure true)
  (hs : ∀ x, foldedSetIterable iter X.env x = pure x) : PS X (.Assign [.Name x pos'] (.ListComp elt [⟨tg, iter, ifs, 0⟩] scope lpos) pos) (zsR (tLC k (tI X.K X.mg E fi) (tG X.K X.mg ks gp) (tT X.K X.mg E0 fc) (tE X.K X.mg E0 fe)) (zkn i)) :=
 zvt (g := tG X.K X.mg ks gp) (tc := tT X.K X.mg E0 fc) (te := tE X.K X.mg E0 fe) C hN hi' hy lc hi (fun s0 H0 Ca ex nd => hb s0 H0 Ca ex nd) hsw hs
theorem zfv (i : Nat) (C : X.calm = true) (hN : X.N.Nodup) (lc : LC X k scope NY) (hk : ks.all (fun i => decide (i < k)) = true) (hi : DI X E tg iter fi)
  (hb : ∀ (s₀ : Shared) (H₀ : Hp) (C : Addr) (ex : List Addr), NY.Nodup → DG (zeV X scope NY s₀ H₀ C ex) tg ks gp ∧ DTs (zeV X scope NY s₀ H₀ C ex) E0 ifs fc ∧ DE (zeV X scope NY s₀ H₀ C ex) E0 elt fe)
  (ho : own.contains i = false := by rfl) (hi' : X.N[i]? = some x := by rfl) (hy : X.env.kindOf x = some .local := by rfl)
  (hsw : swapsWith (.ListComp elt [⟨tg, iter, ifs, 0⟩] scope lpos) (some (.Name x pos')) pos.line X.env = pure true := by rfl)
  (hs : ∀ x, foldedSetIterable iter X.env x = pure x := by intro _; rfl) : DS X E own own ol (.Assign [.Name x pos'] (.ListComp elt [⟨tg, iter, ifs, 0⟩] scope lpos) pos) (zkl own i (zdF (eLC k ks fi gp fc fe))) := fun G0 =>
 PS.mono' (ztW i C hN hi' hy lc hi hb hsw hs) fun Dn σ H q => zvM (ztV fun _ _ _ h => zqD (te := tE X.K X.mg E0 fe) (tc := tT X.K X.mg E0 fc) hk h) ho q
def ztX (own : List Nat) (ks : List Nat) (gp : D → R (List D)) (fe : DSt → R D) : DSt → R Out := fun σ => (fe (mask own σ)).bind fun d => (gp d).noerr.bind fun us => .ok (.nx (setAll σ ks us))
theorem znA (he : DE X E e fe) (hg : DG X tg ks gp) (ho : ks.all (fun i => !own.contains i) = true := by rfl) (hs : swapsWithSole [tg] e pos.line X.env = pure false := by rfl) (hw : swappedStores [tg] e X.env = pure none := by rfl)
  (h1 : (assignEach [tg] X.env).map (·.2) = [assign tg X.env] := by rfl) : DS X E own own ol (.Assign [tg] e pos) (ztX own ks gp fe) := fun G0 => PS.mono' (zth he hg hs hw h1) fun Dn σ H ⟨G, σd, ok, s0, q⟩ => by
 refine ⟨G, mask own σd, ok.masked, q.of_bind.mono (fun d _ z v G' H' s r => ?_) fun _ z => z.step s0⟩
 obtain ⟨us, e1, z⟩ := zdh z.of_bind
 refine ⟨G', d, s.e, r, RW.ok_of e1 fun ws rw' => ?_⟩
 refine (show zgt X.K X.mg G0 X.H₀ own ol Dn G (.nx (setAll σd ks us)) from z) _ G' H' ((ok.step s).setAll (fun k hk => ?_) rw') (s0.trans s) s.g
 simpa using List.all_eq_true.mp ho k hk
def zuS (own : List Nat) (i j : Nat) (fs : DSt → R (List D)) : DSt → R Out := fun σ => (fs (mask own σ)).bind fun ds => match ds with
 | [a, b] => .ok (.nx ((σ.set i (some a)).set j (some b)))
 | _ => .bad
theorem zqF (i j : Nat) {x y : Str} {a b : Expr} {fs : DSt → R (List D)} {px py pt : Pos} {kt k2 pt2} (hc : X.calm = true) (hN : X.N.Nodup) (ha : DA X E [a, b] fs) (hij : i ≠ j := by decide) (ho : (own.contains i || own.contains j) = false := by rfl) (hi : X.N[i]? = some x := by rfl) (hj : X.N[j]? = some y := by rfl)
  (hx : X.env.scope.names.lookup x = some .local := by rfl) (hy : X.env.scope.names.lookup y = some .local := by rfl)
  (hw : swappedStores [.Tuple [.Name x px, .Name y py] kt pt] (.Tuple [a, b] k2 pt2) X.env = pure (some [x, y]) := by rfl)
  (hs : swapsWithSole [.Tuple [.Name x px, .Name y py] kt pt] (.Tuple [a, b] k2 pt2) pos.line X.env = pure false := by rfl) : DS X E own own ol (.Assign [.Tuple [.Name x px, .Name y py] kt pt] (.Tuple [a, b] k2 pt2) pos) (zuS own i j fs) := fun G0 =>
 PS.mono' (ztj hc hN hi hj hij hx hy ha hw hs) fun Dn σ H ⟨G, σd, ok, s0, q⟩ => by
 refine ⟨G, mask own σd, ok.masked, q.of_bind.mono (fun ds _ z vs G' H' s r => ?_) fun _ z => z.step s0⟩
 rw [Bool.or_eq_false_iff] at ho
 match ds, z, r with
 | [a, b], z, ⟨v, _, e1, r1, ⟨w, _, e2, r2, r3⟩⟩ =>
  subst e1; subst e2; cases r3
  exact ⟨v, w, rfl, (show zgt X.K X.mg G0 X.H₀ own ol Dn G (.nx ((σd.set i (some a)).set j (some b))) from z) _ G' H' (((ok.step s).set (zny ho.1) r1).set (zny ho.2) r2) (s0.trans s) s.g⟩
def zgp (σ : DSt) (i : Nat) : R (List D) := match σ[i]? with
 | some (some (.lst ds)) => .ok ds
 | _ => .bad
def zsV (own : List Nat) (i : Nat) (fe : DSt → R D) : DSt → R Out := fun σ => (zgp σ i).bind fun ds => (fe (mask own σ)).bind fun d => bif most ds.length then .ok (.nx (σ.set i (some (.lst (ds ++ [d]))))) else .bad
def zvN (i : Nat) (fe : DSt → R D) : DSt → R Out := fun σ => (zgp σ i).bind fun ds => (fe σ).bind fun d => bif most ds.length && imm d then .ok (.nx (σ.set i (some (.lst (ds ++ [d]))))) else .bad
theorem zpJ {σ : DSt} {i : Nat} {ds : List D} (h : zgp σ i = .ok ds) : σ[i]? = some (some (.lst ds)) := by
 unfold zgp at h
 split at h
 ·cases h; assumption
 ·cases h
theorem zpK {σ : DSt} {i : Nat} {e : D} : zgp σ i ≠ .err e := by
 unfold zgp
 split <;> simp
theorem zla (i : Nat) {apos cpos : Pos} {np : Pos} (he : DE X E e fe) (ho : own.contains i = true := by rfl) (hN : X.N[i]? = some x := by rfl) (hv : Vis X.env.scope x := by first | exact Or.inl rfl | exact Or.inr (Or.inl rfl) | exact Or.inr (Or.inr rfl)) (hd : (x == ("__debug__" : Str)) = false := by decide)
  (hcd : (x == ("__classdict__" : Str)) = false := by decide)
  (hbase : attributeBase (.Name x np) "append" X.env (eval (.Name x np) X.env) = eval (.Name x np) X.env := by rfl)
  (hfew : ((backTo cpos (starEach [e] X.env)).all (fun x => !x.1) && (backToKw cpos (keywordEach [] X.env)).all (fun x => x.1.isSome) && decide ([e].length + ([] : List Keyword).length + (if ([] : List Keyword).isEmpty then 0 else 1) < 30)) = true := by rfl)
  (hline : (apos.endLine == cpos.line) = true := by rfl) (hs : starEach [e] X.env = (false, eval e X.env) :: starEach [] X.env := by rfl) (hplain : (backTo cpos (starEach [] X.env)).any (·.1) = false := by rfl)
  (hsw : swapsWith (.Call (.Attribute (.Name x np) "append" apos) [e] [] cpos) none pos.line X.env = pure false := by rfl) :
  DS X E own own ol (.Expr (.Call (.Attribute (.Name x np) "append" apos) [e] [] cpos) pos) (zsV own i fe) := fun G0 =>
 PS.mono' (zmQ (zvm PySem.F.plainAttrs_list PySem.F.slot_list_append PySem.F.type_list_append zm1 (pv i hN hv hd hcd) (zad he zai hs) hbase hfew hline hs hplain) hsw) fun Dn σ H ⟨G, σd, ok, s0, q⟩ => by
 have q1 := q.of_bind
 cases hL : zgp σd i with
 | bad => rw [hL] at q1; exact q1.elim
 | err e => exact absurd hL zpK
 | ok ds =>
  rw [hL] at q1
  have q2 : RW ((fe (mask own σd)).bind fun d => bif most ds.length then R.ok (.nx (σd.set i (some (.lst (ds ++ [d]))))) else .bad) (zgt X.K X.mg G0 X.H₀ own ol Dn G) (za0 X.K X.mg E G0 X.H₀) := q1
  have hd := zpJ hL
  have hi : i ∈ own := by simpa using ho
  obtain ⟨a, ds', vs, p1, p2, p3, p4, p5, p6⟩ := ok.mine i _ hi hd
  cases p2
  refine ⟨_, p1, .inl ⟨rfl, _, SqL.of p3⟩, ?_⟩
  refine ⟨G, mask own σd, ok.masked, (show RW ((zaf fe zaz) (mask own σd)) _ _ from ?_)⟩
  unfold zaf
  have q3 := q2.of_bind
  cases hf : fe (mask own σd) with
  | bad => rw [hf] at q3; exact q3.elim
  | err e => rw [hf] at q3; exact (show za0 X.K X.mg E G0 X.H₀ e from q3).step s0
  | ok d =>
   rw [hf] at q3
   rintro ws G' H' s ⟨v, _, e1, r1, r2⟩
   subst e1
   cases r2
   cases hm : most ds.length with
   | false => rw [hm] at q3; exact (show False from q3).elim
   | true =>
    rw [hm] at q3
    have hlt : ds.length < sizeLine := of_decide_eq_true hm
    have ok' := ok.step s
    refine ⟨a, vs, v, rfl, rfl, s.h _ _ p3, by rw [← p6.length]; exact hlt, ?_⟩
    exact (show zgt X.K X.mg G0 X.H₀ own ol Dn G (.nx (σd.set i (some (.lst (ds ++ [d]))))) from q3) σ G' _ (ok'.write hi hd p1 ((p6.mono s.g).append (Reps.cons r1 Reps.nil))) ((s0.trans s).write (o := .lst vs) p5 (s.c _ _ p3 p4)) s.g
end
def zhz (ks : List Nat) (gp : D → R (List D)) (fb : DSt → R Out) : List D → DSt → R Out
 | [], σ => .ok (.nx σ)
 | d :: ds, σ => (gp d).noerr.bind fun us => (fb (setAll σ ks us)).bind fun o => match o with
  | .nx σ' => zhz ks gp fb ds σ'
  | .ct σ' => zhz ks gp fb ds σ'
  | .bk σ' => .ok (.nx σ')
  | .rt d => .ok (.rt d)
  | .rf d => .ok (.rf d)
def zkm (own ks : List Nat) (gp : D → R (List D)) (fi : DSt → R (List D)) (fb : DSt → R Out) : DSt → R Out := fun σ => (fi (mask own σ)).bind fun ds => zhz ks gp fb ds σ
structure XL (X : Cx) : Prop where
 own : PassesOwn (model X.prog X.w) X.A X.env X.xe
section
variable {X : Cx} {E : XK} {own ol ks : List Nat} {tg iter : Expr} {body : List Stmt} {gp : D → R (List D)} {fi : DSt → R (List D)} {fb : DSt → R Out} {pos : Pos}
theorem zdi (L : XL X) (hc : X.calm = true) (hi : DI X E tg iter fi) (hg : DG X tg ks gp) (hb : DSs X E own own own body fb) (ho : ks.all (fun i => !own.contains i) = true := by rfl) (hs : ∀ x, foldedSetIterable iter X.env x = pure x := by intro _; rfl) :
  DS X E own own ol (.For tg iter body [] pos) (zkm own ks gp fi fb) := fun G0 => PS.mono' (ztn L.own hc hi hg (hb G0) hs) fun Dn σ H ⟨G, σd, ok, s0, q⟩ => by
 refine ⟨G, mask own σd, ok.masked, q.of_bind.mono (fun ds _ z J G1 H1 s1 it => ?_) fun _ z => z.step s0⟩
 have hko : ∀ k ∈ ks, k ∉ own := fun k hk => by simpa using List.all_eq_true.mp ho k hk
 refine ⟨fun i m σ' H' => m = ds.length - i ∧ i ≤ ds.length ∧ ∃ G' σd', Ok X.K X.mg X.H₀ own σd' σ' G' H' ∧ zaP G1 G' ∧ zbV G0 X.H₀ G' H' ∧ RW (zhz ks gp fb (ds.drop i) σd') (zgt X.K X.mg G0 X.H₀ own ol Dn G1) (za0 X.K X.mg E G0 X.H₀),
  ⟨ds.length, by simp, Nat.zero_le _, G1, σd, ok.step s1, zaP.refl _, s0.trans s1, z.mono (fun _ _ z => z.shift s1.g) fun _ z => z⟩, ?_⟩
 rintro i m σ' H' ⟨rfl, hi, G', σd', ok', e', s', w⟩
 by_cases hlt : i < ds.length
 ·right
  obtain ⟨d, hd⟩ : ∃ d, ds[i]? = some d := ⟨ds[i], by simp [hlt]⟩
  obtain ⟨g1, g2⟩ := it.turn H' i d (e'.trans ok'.ext) hd
  have hdrop : ds.drop i = d :: ds.drop (i + 1) := by
   rw [List.drop_eq_getElem_cons hlt]
   congr 1
   exact Option.some.inj ((List.getElem?_eq_getElem hlt).symm.trans hd)
  rw [hdrop] at w
  refine ⟨g1, fun σ2 H2 => i + 1 ≤ ds.length ∧ ∃ G' σd', Ok X.K X.mg X.H₀ own σd' σ2 G' H2 ∧ zaP G1 G' ∧ zbV G0 X.H₀ G' H2 ∧ RW (zhz ks gp fb (ds.drop (i + 1)) σd') (zgt X.K X.mg G0 X.H₀ own ol Dn G1) (za0 X.K X.mg E G0 X.H₀),
   fun σ2 H2 ⟨h1, h2⟩ => ⟨ds.length - (i + 1), by omega, rfl, h1, h2⟩, fun x H2 hy => ?_⟩
  obtain ⟨G2, s2, r2⟩ := g2 x H2 hy G' e' ok'.ext
  unfold zhz at w
  obtain ⟨us, e1, w⟩ := zdh w.of_bind
  refine ⟨G2, d, s2.e, r2, RW.ok_of e1 fun ws rws => ?_⟩
  have ok2 := (ok'.step s2).setAll hko rws
  refine ⟨G2, _, ok2, s'.trans s2, w.of_bind.mono (fun o _ z => ?_) fun _ z => z⟩
  cases o with
  | nx σ3 => exact fun σ4 G4 H4 ok4 s4 e4 => ⟨hlt, G4, σ3, ok4, (e'.trans s2.g).trans e4, s4, z⟩
  | ct σ3 => exact fun σ4 G4 H4 ok4 s4 e4 => ⟨hlt, G4, σ3, ok4, (e'.trans s2.g).trans e4, s4, z⟩
  | bk σ3 => exact fun σ4 G4 H4 ok4 s4 e4 => (show zgt X.K X.mg G0 X.H₀ own ol Dn G1 (.nx σ3) from z) σ4 G4 H4 ok4 s4 ((e'.trans s2.g).trans e4)
  | rt d => exact z
  | rf d => exact z
 ·left
  have hi2 : i = ds.length := by omega
  subst hi2
  rw [List.drop_length] at w
  refine ⟨it.stop H' (e'.trans ok'.ext), ?_⟩
  unfold zhz at w
  exact (show zgt X.K X.mg G0 X.H₀ own ol Dn G1 (.nx σd') from w) σ' G' H' ok' s' e'
def za3 (c : DSt → R Bool) (fb : DSt → R Out) : Nat → DSt → R Out
 | 0, _ => .bad
 | n + 1, σ => (c σ).bind fun k => bif k then (fb σ).bind fun o => match o with
   | .nx σ' => za3 c fb n σ'
   | .ct σ' => za3 c fb n σ'
   | .bk σ' => .ok (.nx σ')
   | .rt d => .ok (.rt d)
   | .rf d => .ok (.rf d)
  else .ok (.nx σ)
open Classical in
noncomputable def zbE (c : DSt → R Bool) (fb : DSt → R Out) : DSt → R Out := fun σ => if h : ∃ n, za3 c fb n σ ≠ .bad then za3 c fb (Classical.choose h) σ else .bad
theorem zd1 {c : DSt → R Bool} {fb : DSt → R Out} : ∀ (n : Nat) (σ : DSt) (r : R Out), za3 c fb n σ = r → r ≠ .bad → ∀ k, za3 c fb (n + k) σ = r
 | 0, σ, r, h, hr, k => absurd h.symm hr
 | n + 1, σ, r, h, hr, k => by
  rw [show n + 1 + k = (n + k) + 1 by omega]
  unfold za3 at h ⊢
  cases hc : c σ with
  | bad => rw [hc] at h; exact absurd h.symm hr
  | err e => rw [hc] at h; exact h
  | ok b =>
   rw [hc] at h
   cases b with
   | false => exact h
   | true =>
    have h' : (fb σ).bind (fun o => match o with
     | .nx σ' => za3 c fb n σ'
     | .ct σ' => za3 c fb n σ'
     | .bk σ' => .ok (.nx σ')
     | .rt d => .ok (.rt d)
     | .rf d => .ok (.rf d)) = r := h
    show (fb σ).bind (fun o => match o with
     | .nx σ' => za3 c fb (n + k) σ'
     | .ct σ' => za3 c fb (n + k) σ'
     | .bk σ' => .ok (.nx σ')
     | .rt d => .ok (.rt d)
     | .rf d => .ok (.rf d)) = r
    cases hf : fb σ with
    | bad => rw [hf] at h'; exact absurd h'.symm hr
    | err e => rw [hf] at h'; exact h'
    | ok o =>
     rw [hf] at h'
     cases o with
     | nx σ' => exact zd1 n σ' r h' hr k
     | ct σ' => exact zd1 n σ' r h' hr k
     | bk σ' => exact h'
     | rt d => exact h'
     | rf d => exact h'
theorem zcf {c : DSt → R Bool} {fb : DSt → R Out} {n : Nat} {σ : DSt} {r : R Out} (h : za3 c fb n σ = r) (hr : r ≠ .bad) : zbE c fb σ = r := by
 unfold zbE
 have hx : ∃ n, za3 c fb n σ ≠ .bad := ⟨n, by rw [h]; exact hr⟩
 rw [dif_pos hx]
 have h1 := Classical.choose_spec hx
 have a := zd1 _ σ _ rfl h1 n
 have b := zd1 _ σ _ h hr (Classical.choose hx)
 rw [Nat.add_comm] at b
 rw [← a, b]
theorem zgQ (c : DSt → R Bool) (fb : DSt → R Out) (σ : DSt) : zbE c fb σ = (c σ).bind fun k => bif k then (fb σ).bind fun o => match o with
   | .nx σ' => zbE c fb σ'
   | .ct σ' => zbE c fb σ'
   | .bk σ' => .ok (.nx σ')
   | .rt d => .ok (.rt d)
   | .rf d => .ok (.rf d)
  else .ok (.nx σ) := by
 cases hc : c σ with
 | bad =>
  unfold zbE
  rw [dif_neg]
  ·rfl
  ·rintro ⟨n, h⟩
   cases n with
   | zero => exact h rfl
   | succ n => unfold za3 at h; rw [hc] at h; exact h rfl
 | err e => exact zcf (n := 1) (by unfold za3; rw [hc]; rfl) (by simp [R.bind])
 | ok b =>
  cases b with
  | false => exact zcf (n := 1) (by unfold za3; rw [hc]; rfl) (by simp [R.bind])
  | true =>
   show zbE c fb σ = (fb σ).bind _
   cases hf : fb σ with
   | bad =>
    unfold zbE
    rw [dif_neg]
    ·rfl
    ·rintro ⟨n, h⟩
     cases n with
     | zero => exact h rfl
     | succ n => unfold za3 at h; rw [hc] at h; simp only [R.bind, cond_true] at h; rw [hf] at h; exact h rfl
   | err e => exact zcf (n := 1) (by unfold za3; rw [hc]; show (fb σ).bind _ = _; rw [hf]; rfl) (by simp [R.bind])
   | ok o =>
    have go : ∀ σ', (∀ n, za3 c fb (n + 1) σ = za3 c fb n σ') → zbE c fb σ = zbE c fb σ' := fun σ' hn => by
     by_cases hx : ∃ n, za3 c fb n σ' ≠ .bad
     ·obtain ⟨n, h⟩ := hx
      rw [zcf (n := n) rfl h, zcf (n := n + 1) (hn n) h]
     ·have : zbE c fb σ' = .bad := by unfold zbE; rw [dif_neg hx]
      rw [this]
      unfold zbE
      rw [dif_neg]
      rintro ⟨n, h⟩
      cases n with
      | zero => exact h rfl
      | succ n => rw [hn n] at h; exact hx ⟨n, h⟩
    cases o with
    | nx σ' => exact go σ' fun n => by unfold za3; rw [hc]; show (fb σ).bind _ = _; rw [hf]; cases n <;> rfl
    | ct σ' => exact go σ' fun n => by unfold za3; rw [hc]; show (fb σ).bind _ = _; rw [hf]; cases n <;> rfl
    | bk σ' => exact zcf (n := 1) (by unfold za3; rw [hc]; show (fb σ).bind _ = _; rw [hf]; rfl) (by simp [R.bind])
    | rt d => exact zcf (n := 1) (by unfold za3; rw [hc]; show (fb σ).bind _ = _; rw [hf]; rfl) (by simp [R.bind])
    | rf d => exact zcf (n := 1) (by unfold za3; rw [hc]; show (fb σ).bind _ = _; rw [hf]; rfl) (by simp [R.bind])
theorem ziK {c : Expr} {fc : DSt → R Bool} (L : XL X) (hc : DT X E c fc) (hb : DSs X E own own own body fb) : DS X E own own ol (.While c body [] pos) (zbE fc fb) := fun G0 => PS.mono' (zpd L.own hc (hb G0)) fun Dn σ H ⟨G, σd, ok, s0, q⟩ => by
 have hx : ∃ n, za3 fc fb n σd ≠ .bad := by
  by_cases hx : ∃ n, za3 fc fb n σd ≠ .bad
  ·exact hx
  ·unfold zbE at q; rw [dif_neg hx] at q; exact (show False from q).elim
 obtain ⟨n, hn⟩ := hx
 rw [zcf rfl hn] at q
 refine ⟨fun m σ' H' => ∃ G' σd', Ok X.K X.mg X.H₀ own σd' σ' G' H' ∧ zaP G G' ∧ zbV G0 X.H₀ G' H' ∧ RW (za3 fc fb m σd') (zgt X.K X.mg G0 X.H₀ own ol Dn G) (za0 X.K X.mg E G0 X.H₀), ⟨n, G, σd, ok, zaP.refl _, s0, q⟩, ?_⟩
 rintro m σ1 H1 ⟨G1, σd1, ok1, e1, s1, w⟩
 cases m with
 | zero => exact (show False from w).elim
 | succ m =>
  unfold za3 at w
  have sp := ok1.pubStep s1
  refine ⟨_, σd1, ok1.pub.1, w.of_bind.mono (fun k _ z G' H' s => ?_) fun _ z => z.step sp⟩
  have ok' := ok1.drop s.h
  have s' : zbV G0 X.H₀ G1 H' := s1.trans (.heap ok1.ext s.h)
  cases k with
  | true =>
   refine iteT ?_
   refine ⟨fun σ2 H2 => ∃ G' σd', Ok X.K X.mg X.H₀ own σd' σ2 G' H2 ∧ zaP G G' ∧ zbV G0 X.H₀ G' H2 ∧ RW (za3 fc fb m σd') (zgt X.K X.mg G0 X.H₀ own ol Dn G) (za0 X.K X.mg E G0 X.H₀), fun σ2 H2 h => ⟨m, Nat.lt_succ_self _, h⟩, ?_⟩
   refine ⟨G1, σd1, ok', s', (show RW ((fb σd1).bind _) _ _ from z).of_bind.mono (fun o _ z => ?_) fun _ z => z⟩
   cases o with
   | nx σ3 => exact fun σ4 G4 H4 ok4 s4 e4 => ⟨G4, σ3, ok4, e1.trans e4, s4, z⟩
   | ct σ3 => exact fun σ4 G4 H4 ok4 s4 e4 => ⟨G4, σ3, ok4, e1.trans e4, s4, z⟩
   | bk σ3 => exact fun σ4 G4 H4 ok4 s4 e4 => (show zgt X.K X.mg G0 X.H₀ own ol Dn G (.nx σ3) from z) σ4 G4 H4 ok4 s4 (e1.trans e4)
   | rt d => exact z
   | rf d => exact z
  | false =>
   refine iteF ?_
   exact (show zgt X.K X.mg G0 X.H₀ own ol Dn G (.nx σd1) from z) σ1 G1 H' ok' s' e1
end
def zeY (n : Nat) (ds : List D) : DSt := ds.map some ++ List.replicate (n - ds.length) none
def fin : R Out → R D
 | .ok (.rt d) => .ok d
 | .ok (.rf ds) => .ok (.lst ds)
 | .ok (.nx _) => .ok .non
 | .ok _ => .bad
 | .err e => .err e
 | .bad => .bad
def fnM (n nN : Nat) (body : DSt → R Out) : List D → R D := fun ds => bif ds.length == n then fin (body (zeY nN ds)) else .bad
theorem Reps.startOk {K : PySem.W.Frag} {mg : Str → Option Value} {G H : Hp} (e : zaP G H) : ∀ {ds : List D} {vs : List V} (k : Nat), Reps K mg G ds vs → Ok0 K mg (ds.map some ++ List.replicate k none) (vs.map some ++ List.replicate k none) G H
 | [], _, k, h => by
  cases h
  have := Ok0.nones (K := K) (mg := mg) (G := G) (H := H) (σd := []) (σ := []) ⟨e, rfl, fun i d q => by simp at q⟩ k
  simpa using this
 | d :: ds, _, k, ⟨v, r, h1, h2, h3⟩ => by
  subst h1
  exact (Reps.startOk e k h3).cons (x := some d) (y := some v) fun d' q => by cases q; exact ⟨v, rfl, h2⟩
section
variable {P : Program} {w : World} {K : PySem.W.Frag} {mg : Str → Option Value} {base : Heap}
theorem zaC.mk' {x qual : Str} {st : Stmt} {f : Addr} {fd : FuncData} {N ps : List Str} {k n nN : Nat} {own' : List Nat} {body : DSt → R Out} (F : Fun K x qual st f fd) (S : zaw N ps (zag st)) (hm : mg x = some (.ref f)) (b : zbg K fd ps [])
  (hn : ps.length = n) (hN : N.length = nN)
  (hb : ∀ (X : Cx) (E : XK), (∃ cdv A outer s H, X = zi5 (CXe P w) P w K mg base N qual (zag st) f cdv A outer s H E) → XC X E k → XL X → DSs X E [] own' [] (zau st) body) : zaC P w K mg base (k + 1) x (fnM n nN body) := by
 refine ⟨f, fd, ps, F.okX S (fun vs H Q E h => ?_) (fun cdv A outer s H vs Q E hr hsp => ?_), hm, F.kp, b⟩
 ·obtain ⟨G, ds, e, r, q⟩ := h
  by_cases hd : ds.length = n
  ·rw [← r.length, hd, hn]
  ·have : (ds.length == n) = false := by simpa using hd
   unfold fnM at q
   rw [this] at q
   exact (show False from q).elim
 ·obtain ⟨G, ds, e, r, q⟩ := hsp
  have hd : ds.length = n := by
   by_cases hd : ds.length = n
   ·exact hd
   ·have : (ds.length == n) = false := by simpa using hd
    unfold fnM at q
    rw [this] at q
    exact (show False from q).elim
  unfold fnM at q
  rw [show (ds.length == n) = true by simpa using hd] at q
  have q' : RW (fin (body (zeY nN ds))) (zaD K mg Q G H) (za0 K mg E G H) := q
  refine ⟨_, hb _ E ⟨cdv, A, outer, s, H, rfl⟩ ⟨rfl, hr, ztE⟩ ⟨PassesOwn.leaving⟩ G, G, zeY nN ds, ?_, .refl e, ?_⟩
  ·have := Reps.startOk e (N.length - vs.length) r
   unfold L2.start zeY
   rw [← hN, r.length]
   exact .zero this
  ·cases hbd : body (zeY nN ds) with
   | bad => rw [hbd] at q'; exact q'
   | err e => rw [hbd] at q'; exact q'
   | ok o =>
    rw [hbd] at q'
    cases o with
    | rt d => exact fun v G' H' s r => (show zaD K mg Q G H d from q') v G' H' s r
    | rf es =>
     intro a vs G' H' s n e g r
     have q2 : zaD K mg Q G H (.lst es) := q'
     have sg : zaP G' (upd G' a (.lst vs)) := zcS g
     refine q2 (.ref a) (upd G' a (.lst vs)) H' ⟨s.g.trans sg, s.h, fun b u p => ?_, fun b u p1 p2 => ?_⟩ ⟨a, vs, rfl, SqL.of zaA, r.mono sg⟩
     ·by_cases hb : b = a
      ·subst hb; rw [zaA] at p; cases p; exact e
      ·rw [zay hb] at p; exact s.e b u p
     ·have hb : b ≠ a := zas p1 n
      rw [zay hb]; exact s.c b u p1 p2
    | nx σ => exact fun σ' G' H' ok s _ => (show zaD K mg Q G H .non from q') .non G' H' s rfl
    | bk σ => exact (show False from q').elim
    | ct σ => exact (show False from q').elim
end
theorem XC.lc {X : Cx} {E : XK} {k : Nat} (C : XC X E k) (scope : Scope) (NY : List Str) (s0 : Shared) (H0 : Hp) (Ca : Addr) (ex : List Addr) : XC (zeV X scope NY s0 H0 Ca ex) E0 k := ⟨C.calm, C.room, zvv⟩
end DL
end
section
set_option Elab.async false
set_option linter.all false
set_option maxRecDepth 100000
namespace DL
open PySem L2
mutual
def eqD : D → D → Bool
 | .non, .non => true
 | .bl a, .bl b => a == b
 | .int a, .int b => a == b
 | .str a, .str b => a == b
 | .bl a, .int b => (if a then (1 : Int) else 0) == b
 | .int a, .bl b => a == (if b then (1 : Int) else 0)
 | .tup xs, .tup ys => eqDs xs ys
 | .lst xs, .lst ys => eqDs xs ys
 | _, _ => false
def eqDs : List D → List D → Bool
 | [], [] => true
 | x :: xs, y :: ys => eqD x y && eqDs xs ys
 | _, _ => false
end
def zeL : Nat → D → Bool
 | _, .non => true
 | _, .bl _ => true
 | _, .int _ => true
 | _, .str _ => true
 | n + 1, .tup xs => xs.all (zeL n)
 | n + 1, .lst xs => xs.all (zeL n)
 | _, _ => false
theorem zeM : ∀ (xs ys : List D), ((List.range (min xs.length ys.length)).all (fun j => eqD (xs.getD j .non) (ys.getD j .non)) && xs.length == ys.length) = eqDs xs ys
 | [], [] => by unfold eqDs; rfl
 | [], _ :: _ => by unfold eqDs; simp
 | _ :: _, [] => by unfold eqDs; simp
 | x :: xs, y :: ys => by
  unfold eqDs
  rw [← zeM xs ys]
  simp only [List.length_cons, Nat.succ_min_succ, List.range_succ_eq_map, List.all_cons, List.getD_cons_zero, List.all_map, Bool.and_assoc]
  congr 2
  rw [Bool.eq_iff_iff]; simp
theorem zgv : ∀ (n : Nat) (d : D), zeL n d = true → eqD d d = true := by
 intro n
 induction n with
 | zero => intro d h; cases d <;> first | (simp [zeL] at h; done) | (unfold eqD; simp; done)
 | succ n ih =>
  have hl : ∀ xs : List D, xs.all (zeL n) = true → eqDs xs xs = true := fun xs => by
   induction xs with
   | nil => intro _; unfold eqDs; rfl
   | cons x xs ihx =>
    intro h
    rw [List.all_cons, Bool.and_eq_true] at h
    unfold eqDs
    rw [ih x h.1, ihx h.2]; rfl
  intro d h
  cases d with
  | tup xs => unfold eqD; exact hl xs (by unfold zeL at h; exact h)
  | lst xs => unfold eqD; exact hl xs (by unfold zeL at h; exact h)
  | _ => first | (simp [zeL] at h; done) | (unfold eqD; simp; done)
def vOf : D → Option V
 | .non => some .non
 | .bl b => some (.bl b)
 | .int i => some (.int i)
 | .str x => some (.str x)
 | _ => none
theorem zcg {K : PySem.W.Frag} {mg : Str → Option Value} {G : Hp} {d : D} {v x : V} (h : vOf d = some v) (r : Rep K mg G d x) : x = v ∧ zko v = true := by
 cases d <;> first | (simp [vOf] at h; done) | (simp only [vOf, Option.some.injEq] at h; subst h; simp only [Rep] at r; exact ⟨r, rfl⟩)
theorem zpL {d d' : D} {v v' : V} (h : vOf d = some v) (h' : vOf d' = some v') : eqD d d' = eqV v v' := by
 cases d <;> first | (simp [vOf] at h; done) | (simp only [vOf, Option.some.injEq] at h; subst h; cases d' <;> first | (simp [vOf] at h'; done) | (simp only [vOf, Option.some.injEq] at h'; subst h'; unfold eqD eqV; first | rfl | simp))
theorem znB {d d' : D} {v : V} (h : vOf d = some v) (h' : vOf d' = some v) : d = d' := by
 cases d <;> first | (simp [vOf] at h; done) | (simp only [vOf, Option.some.injEq] at h; subst h; cases d' <;> first | (simp [vOf] at h'; done) | (simp only [vOf, Option.some.injEq] at h'; cases h'; rfl))
theorem zbv {n : Nat} {d : D} (h : zeL n d = true) : (∃ v, vOf d = some v) ∨ (∃ m xs, n = m + 1 ∧ d = .tup xs ∧ xs.all (zeL m) = true) ∨ (∃ m xs, n = m + 1 ∧ d = .lst xs ∧ xs.all (zeL m) = true) := by
 cases d with
 | tup xs => cases n with
  | zero => simp [zeL] at h
  | succ m => exact .inr (.inl ⟨m, xs, rfl, rfl, by unfold zeL at h; exact h⟩)
 | lst xs => cases n with
  | zero => simp [zeL] at h
  | succ m => exact .inr (.inr ⟨m, xs, rfl, rfl, by unfold zeL at h; exact h⟩)
 | non => exact .inl ⟨_, rfl⟩
 | bl b => exact .inl ⟨_, rfl⟩
 | int i => exact .inl ⟨_, rfl⟩
 | str x => exact .inl ⟨_, rfl⟩
 | _ => simp [zeL] at h
section
variable {X : Cx} {pins : List (Addr × Obj)} {σ : St} {G H : Hp} {s : Shared}
theorem zlb (I : Inv X pins σ H s) {a : Addr} {xs ys : List V} (h1 : SqT X.K H a xs) (h2 : SqL X.K H a ys) : False := by
 obtain ⟨_, _, ⟨o, e, c, _⟩, _⟩ := I.tuple h1
 obtain ⟨_, _, ⟨o', _, e', c', _⟩, _⟩ := I.list h2
 rw [e] at e'; cases e'
 rw [c] at c'
 exact absurd c' (by simp)
theorem zeN {v : V} {a : Addr} (h : zko v = true) : v ≠ .ref a := by rintro rfl; cases h
theorem znC (I : Inv X pins σ H s) (e : zaP G H) : ∀ (n : Nat) {d d' : D} {v : V}, zeL n d = true → zeL n d' = true → Rep X.K X.mg G d v → Rep X.K X.mg G d' v → d = d' := by
 intro n
 induction n with
 | zero =>
  intro d d' v h h' r r'
  rcases zbv h with ⟨w, hw⟩ | ⟨_, _, z, _⟩ | ⟨_, _, z, _⟩ <;> try omega
  rcases zbv h' with ⟨w', hw'⟩ | ⟨_, _, z, _⟩ | ⟨_, _, z, _⟩ <;> try omega
  have e1 := (zcg hw r).1
  have e2 := (zcg hw' r').1
  rw [← e1] at hw; rw [← e2] at hw'
  exact znB hw hw'
 | succ n ih =>
  have hl : ∀ (xs ys : List D) (vs : List V), xs.all (zeL n) = true → ys.all (zeL n) = true → Reps X.K X.mg G xs vs → Reps X.K X.mg G ys vs → xs = ys := by
   intro xs
   induction xs with
   | nil =>
    intro ys vs _ _ r r'
    cases r
    cases ys with
    | nil => rfl
    | cons y ys => obtain ⟨_, _, z, _⟩ := r'; cases z
   | cons x xs ihx =>
    intro ys vs h h' r r'
    obtain ⟨v, t, rfl, r1, r2⟩ := r
    cases ys with
    | nil => cases r'
    | cons y ys =>
     obtain ⟨v', t', z, r1', r2'⟩ := r'
     cases z
     rw [List.all_cons, Bool.and_eq_true] at h h'
     rw [ih h.1 h'.1 r1 r1', ihx ys _ h.2 h'.2 r2 r2']
  intro d d' v h h' r r'
  rcases zbv h with ⟨w, hw⟩ | ⟨m, xs, hm, rfl, hx⟩ | ⟨m, xs, hm, rfl, hx⟩
  ·rcases zbv h' with ⟨w', hw'⟩ | ⟨m', ys, hm', rfl, hy⟩ | ⟨m', ys, hm', rfl, hy⟩
   ·have e1 := (zcg hw r).1
    have e2 := (zcg hw' r').1
    rw [← e1] at hw; rw [← e2] at hw'
    exact znB hw hw'
   ·obtain ⟨e1, e2⟩ := zcg hw r
    obtain ⟨a, vs, z, _⟩ := r'
    exact absurd (e1.symm.trans z) (zeN e2)
   ·obtain ⟨e1, e2⟩ := zcg hw r
    obtain ⟨a, vs, z, _⟩ := r'
    exact absurd (e1.symm.trans z) (zeN e2)
  ·obtain rfl : n = m := by omega
   obtain ⟨a, vs, rfl, q1, q2⟩ := r
   rcases zbv h' with ⟨w', hw'⟩ | ⟨m', ys, hm', rfl, hy⟩ | ⟨m', ys, hm', rfl, hy⟩
   ·obtain ⟨e1, e2⟩ := zcg hw' r'
    exact absurd e1.symm (zeN e2)
   ·obtain rfl : n = m' := by omega
    obtain ⟨a', vs', z, q1', q2'⟩ := r'
    cases z
    have := I.tuple_inj (zaP.sqT e q1) (zaP.sqT e q1')
    subst this
    rw [hl xs ys _ hx hy q2 q2']
   ·obtain ⟨a', vs', z, q1', q2'⟩ := r'
    cases z
    exact (zlb I (zaP.sqT e q1) (e.seq q1')).elim
  ·obtain rfl : n = m := by omega
   obtain ⟨a, vs, rfl, q1, q2⟩ := r
   rcases zbv h' with ⟨w', hw'⟩ | ⟨m', ys, hm', rfl, hy⟩ | ⟨m', ys, hm', rfl, hy⟩
   ·obtain ⟨e1, e2⟩ := zcg hw' r'
    exact absurd e1.symm (zeN e2)
   ·obtain ⟨a', vs', z, q1', q2'⟩ := r'
    cases z
    exact (zlb I (zaP.sqT e q1') (e.seq q1)).elim
   ·obtain rfl : n = m' := by omega
    obtain ⟨a', vs', z, q1', q2'⟩ := r'
    cases z
    have := I.list_inj (e.seq q1) (e.seq q1')
    subst this
    rw [hl xs ys _ hx hy q2 q2']
theorem ztY {α : Type} {us : List α} {j : Nat} (h : j < us.toArray.size) : us.toArray[j] = us[j]'(by simpa using h) := by simp
theorem znD {α : Type} {xs : List α} {d : α} {j : Nat} (h : j < xs.length) : xs.getD j d = xs[j] := by simp [List.getD, h]
open SeqAt in
theorem zgw {A : Around} {n : Nat} (ih : ∀ {d d' : D} {x x' : V} {u u' : Value}, zeL n d = true → zeL n d' = true → Rep X.K X.mg G d x → zcb x u → Rep X.K X.mg G d' x' → zcb x' u' → EqAt A s u u' (eqD d d'))
  {xs ys : List D} {vs ws : List V} {us us' : List Value} (h : xs.all (zeL n) = true) (h' : ys.all (zeL n) = true) (r : Reps X.K X.mg G xs vs) (q : zca vs us) (r' : Reps X.K X.mg G ys ws) (q' : zca ws us') :
  ∀ j (h1 : j < us.toArray.size) (h2 : j < us'.toArray.size), EqAt A s us.toArray[j] us'.toArray[j] (eqD (xs.getD j .non) (ys.getD j .non)) := by
 intro j h1 h2
 have l1 : j < vs.length := by rw [q.length]; simpa using h1
 have l2 : j < ws.length := by rw [q'.length]; simpa using h2
 have l3 : j < xs.length := by rw [r.length]; exact l1
 have l4 : j < ys.length := by rw [r'.length]; exact l2
 obtain ⟨v, e1, e2⟩ := r.get (i := j) (d := xs[j]) (by simp [l3])
 obtain ⟨w, e3, e4⟩ := r'.get (i := j) (d := ys[j]) (by simp [l4])
 obtain ⟨u, e5, e6⟩ := q.get e1
 obtain ⟨u', e7, e8⟩ := q'.get e3
 have z1 : us.toArray[j] = u := by rw [ztY h1]; exact (List.getElem?_eq_some_iff.mp e5).2
 have z2 : us'.toArray[j] = u' := by rw [ztY h2]; exact (List.getElem?_eq_some_iff.mp e7).2
 rw [z1, z2, znD l3, znD l4]
 exact ih (List.all_eq_true.mp h _ (List.getElem_mem l3)) (List.all_eq_true.mp h' _ (List.getElem_mem l4)) e2 e6 e4 e8
theorem in1_units (A : Around) : A.in1.units = A.units + 1 := rfl
open SeqAt in
theorem ztZ {A : Around} {x x' : V} {u u' : Value} (q : zcb x u) (q' : zcb x' u') (f : zko x = true) (f' : zko x' = true) : RcAt A s u u' (eqV x x') ∧ RcNeAt A s u u' (!eqV x x') := by
 cases x with
 | non =>
  cases (show u = Value.none from q)
  cases x' with
  | non => cases (show u' = Value.none from q'); exact ⟨RcAt.none_none, RcNeAt.none_none⟩
  | bl b => cases (show u' = Value.bool b from q'); exact ⟨RcAt.none_bool b, RcNeAt.none_bool b⟩
  | int b => obtain ⟨tb, rfl⟩ := (show ∃ t, u' = Value.int b t from q'); exact ⟨RcAt.none_int b tb, RcNeAt.none_int b tb⟩
  | str b => obtain ⟨tb, rfl⟩ := (show ∃ t, u' = Value.str b t from q'); exact ⟨RcAt.none_str b tb, RcNeAt.none_str b tb⟩
  | _ => cases f'
 | bl a =>
  cases (show u = Value.bool a from q)
  cases x' with
  | non => cases (show u' = Value.none from q'); exact ⟨RcAt.bool_none a, RcNeAt.bool_none a⟩
  | bl b => cases (show u' = Value.bool b from q'); exact ⟨RcAt.bool_bool a b, RcNeAt.bool_bool a b⟩
  | int b => obtain ⟨tb, rfl⟩ := (show ∃ t, u' = Value.int b t from q'); exact ⟨RcAt.bool_int a b tb, RcNeAt.bool_int a b tb⟩
  | str b => obtain ⟨tb, rfl⟩ := (show ∃ t, u' = Value.str b t from q'); exact ⟨RcAt.bool_str a b tb, RcNeAt.bool_str a b tb⟩
  | _ => cases f'
 | int a =>
  obtain ⟨ta, rfl⟩ := (show ∃ t, u = Value.int a t from q)
  cases x' with
  | non => cases (show u' = Value.none from q'); exact ⟨RcAt.int_none a ta, RcNeAt.int_none a ta⟩
  | bl b => cases (show u' = Value.bool b from q'); exact ⟨RcAt.int_bool a ta b, RcNeAt.int_bool a ta b⟩
  | int b => obtain ⟨tb, rfl⟩ := (show ∃ t, u' = Value.int b t from q'); exact ⟨RcAt.int_int a ta b tb, RcNeAt.int_int a ta b tb⟩
  | str b => obtain ⟨tb, rfl⟩ := (show ∃ t, u' = Value.str b t from q'); exact ⟨RcAt.int_str a ta b tb, RcNeAt.int_str a ta b tb⟩
  | _ => cases f'
 | str a =>
  obtain ⟨ta, rfl⟩ := (show ∃ t, u = Value.str a t from q)
  cases x' with
  | non => cases (show u' = Value.none from q'); exact ⟨RcAt.str_none a ta, RcNeAt.str_none a ta⟩
  | bl b => cases (show u' = Value.bool b from q'); exact ⟨RcAt.str_bool a ta b, RcNeAt.str_bool a ta b⟩
  | int b => obtain ⟨tb, rfl⟩ := (show ∃ t, u' = Value.int b t from q'); exact ⟨RcAt.str_int a ta b tb, RcNeAt.str_int a ta b tb⟩
  | str b => obtain ⟨tb, rfl⟩ := (show ∃ t, u' = Value.str b t from q'); exact ⟨RcAt.str_str a ta b tb, RcNeAt.str_str a ta b tb⟩
  | _ => cases f'
 | _ => cases f
open SeqAt in
theorem zdj {A : Around} {x : V} {u : Value} {b : Addr} {items : Array Value} (fx : zko x = true) (q : zcb x u) (hA : A.units < cLine) (h : s.heap.IsTuple b items ∨ s.heap.IsList b items) : EqAt A s u (.ref b) false ∧ EqAt A s (.ref b) u false ∧ RcAt A s u (.ref b) false ∧ RcAt A s (.ref b) u false ∧ RcNeAt A s u (.ref b) true ∧ RcNeAt A s (.ref b) u true := by
 cases x with
 | non =>
  obtain rfl : u = Value.none := q
  rcases h with h | h
  ·exact ⟨EqAt.none_tuple h hA, EqAt.tuple_none h hA, RcAt.none_tuple h hA, RcAt.tuple_none h hA, RcNeAt.none_tuple h hA, RcNeAt.tuple_none h hA⟩
  ·exact ⟨EqAt.none_list h hA, EqAt.list_none h hA, RcAt.none_list h hA, RcAt.list_none h hA, RcNeAt.none_list h hA, RcNeAt.list_none h hA⟩
 | bl a =>
  obtain rfl : u = Value.bool a := q
  rcases h with h | h
  ·exact ⟨EqAt.bool_tuple _ h hA, EqAt.tuple_bool _ h hA, RcAt.bool_tuple _ h hA, RcAt.tuple_bool _ h hA, RcNeAt.bool_tuple _ h hA, RcNeAt.tuple_bool _ h hA⟩
  ·exact ⟨EqAt.bool_list _ h hA, EqAt.list_bool _ h hA, RcAt.bool_list _ h hA, RcAt.list_bool _ h hA, RcNeAt.bool_list _ h hA, RcNeAt.list_bool _ h hA⟩
 | int a =>
  obtain ⟨t, rfl⟩ : ∃ t, u = Value.int a t := q
  rcases h with h | h
  ·exact ⟨EqAt.int_tuple _ _ h hA, EqAt.tuple_int _ _ h hA, RcAt.int_tuple _ _ h hA, RcAt.tuple_int _ _ h hA, RcNeAt.int_tuple _ _ h hA, RcNeAt.tuple_int _ _ h hA⟩
  ·exact ⟨EqAt.int_list _ _ h hA, EqAt.list_int _ _ h hA, RcAt.int_list _ _ h hA, RcAt.list_int _ _ h hA, RcNeAt.int_list _ _ h hA, RcNeAt.list_int _ _ h hA⟩
 | str a =>
  obtain ⟨t, rfl⟩ : ∃ t, u = Value.str a t := q
  rcases h with h | h
  ·exact ⟨EqAt.str_tuple _ _ h hA, EqAt.tuple_str _ _ h hA, RcAt.str_tuple _ _ h hA, RcAt.tuple_str _ _ h hA, RcNeAt.str_tuple _ _ h hA, RcNeAt.tuple_str _ _ h hA⟩
  ·exact ⟨EqAt.str_list _ _ h hA, EqAt.list_str _ _ h hA, RcAt.str_list _ _ h hA, RcAt.list_str _ _ h hA, RcNeAt.str_list _ _ h hA, RcNeAt.list_str _ _ h hA⟩
 | _ => cases fx
theorem zeO {xs ys : List D} : eqD (.tup xs) (.tup ys) = eqDs xs ys ∧ eqD (.lst xs) (.lst ys) = eqDs xs ys ∧ eqD (.tup xs) (.lst ys) = false ∧ eqD (.lst xs) (.tup ys) = false := by
 refine ⟨?_, ?_, ?_, ?_⟩ <;> (unfold eqD; rfl)
theorem zd2 {d : D} {v : V} {ys : List D} (h : vOf d = some v) : eqD d (.tup ys) = false ∧ eqD d (.lst ys) = false ∧ eqD (.tup ys) d = false ∧ eqD (.lst ys) d = false := by
 cases d <;> first | (simp [vOf] at h; done) | (refine ⟨?_, ?_, ?_, ?_⟩ <;> (unfold eqD; rfl))
set_option maxHeartbeats 4000000 in
open SeqAt in
theorem zqG (I : Inv X pins σ H s) (e : zaP G H) : ∀ (n : Nat) {A : Around} {d d' : D} {x x' : V} {u u' : Value}, A.units + n < cLine → zeL n d = true → zeL n d' = true → Rep X.K X.mg G d x → zcb x u → Rep X.K X.mg G d' x' → zcb x' u' →
  EqAt A s u u' (eqD d d') ∧ RcAt A s u u' (eqD d d') ∧ RcNeAt A s u u' (!eqD d d') := by
 have ff : ∀ {A : Around} {d d' : D} {v v' x x' : V} {u u' : Value}, vOf d = some v → vOf d' = some v' → Rep X.K X.mg G d x → zcb x u → Rep X.K X.mg G d' x' → zcb x' u' → EqAt A s u u' (eqD d d') ∧ RcAt A s u u' (eqD d d') ∧ RcNeAt A s u u' (!eqD d d') := by
  intro A d d' v v' x x' u u' hv hv' r q r' q'
  obtain ⟨rfl, f1⟩ := zcg hv r
  obtain ⟨rfl, f2⟩ := zcg hv' r'
  rw [zpL hv hv']
  exact ⟨ztz q q' f1 f2, ztZ q q' f1 f2⟩
 have seq : ∀ {d : D} {m : Nat} {xs : List D} {x : V} {u : Value}, d = .tup xs ∨ d = .lst xs → Rep X.K X.mg G d x → zcb x u → ∃ b items, u = .ref b ∧ (s.heap.IsTuple b items ∨ s.heap.IsList b items) := by
  intro d m xs x u hd r q
  rcases hd with rfl | rfl
  ·obtain ⟨a, vs, rfl, q1, q2⟩ := r
   obtain ⟨us, v1, t1, _⟩ := I.tuple (zaP.sqT e q1)
   exact ⟨a, _, q, .inl t1⟩
  ·obtain ⟨a, vs, rfl, q1, q2⟩ := r
   obtain ⟨us, v1, t1, _⟩ := I.list (e.seq q1)
   exact ⟨a, _, q, .inr t1.isList⟩
 intro n
 induction n with
 | zero =>
  intro A d d' x x' u u' hu h h' r q r' q'
  rcases zbv h with ⟨w, hw⟩ | ⟨_, _, z, _⟩ | ⟨_, _, z, _⟩ <;> try omega
  rcases zbv h' with ⟨w', hw'⟩ | ⟨_, _, z, _⟩ | ⟨_, _, z, _⟩ <;> try omega
  exact ff hw hw' r q r' q'
 | succ n ih =>
  intro A d d' x x' u u' hu h h' r q r' q'
  have hA : A.units < cLine := by omega
  have ih' : ∀ {d d' : D} {x x' : V} {u u' : Value}, zeL n d = true → zeL n d' = true → Rep X.K X.mg G d x → zcb x u → Rep X.K X.mg G d' x' → zcb x' u' → EqAt A.in1 s u u' (eqD d d') :=
   fun a b c d e f => (ih (A := A.in1) (by rw [in1_units]; omega) a b c d e f).1
  rcases zbv h with ⟨w, hw⟩ | ⟨m, xs, hm, rfl, hx⟩ | ⟨m, xs, hm, rfl, hx⟩
  ·rcases zbv h' with ⟨w', hw'⟩ | ⟨m', ys, hm', rfl, hy⟩ | ⟨m', ys, hm', rfl, hy⟩
   ·exact ff hw hw' r q r' q'
   ·obtain ⟨rfl, f1⟩ := zcg hw r
    obtain ⟨b, items, rfl, hb⟩ := seq (m := m') (.inl rfl) r' q'
    obtain ⟨z1, _, z3, _, z5, _⟩ := zdj f1 q hA hb
    rw [(zd2 hw).1]; exact ⟨z1, z3, z5⟩
   ·obtain ⟨rfl, f1⟩ := zcg hw r
    obtain ⟨b, items, rfl, hb⟩ := seq (m := m') (.inr rfl) r' q'
    obtain ⟨z1, _, z3, _, z5, _⟩ := zdj f1 q hA hb
    rw [(zd2 hw).2.1]; exact ⟨z1, z3, z5⟩
  ·obtain rfl : n = m := by omega
   rcases zbv h' with ⟨w', hw'⟩ | ⟨m', ys, hm', rfl, hy⟩ | ⟨m', ys, hm', rfl, hy⟩
   ·obtain ⟨rfl, f1⟩ := zcg hw' r'
    obtain ⟨b, items, rfl, hb⟩ := seq (m := n) (.inl rfl) r q
    obtain ⟨_, z2, _, z4, _, z6⟩ := zdj f1 q' hA hb
    rw [(zd2 hw').2.2.1]; exact ⟨z2, z4, z6⟩
   ·obtain rfl : n = m' := by omega
    have hr := r; have hr' := r'
    obtain ⟨a, vs, rfl, q1, q2⟩ := r
    obtain rfl : u = Value.ref a := q
    obtain ⟨us, v1, t1, _⟩ := I.tuple (zaP.sqT e q1)
    obtain ⟨b, ws, rfl, q1', q2'⟩ := r'
    obtain rfl : u' = Value.ref b := q'
    obtain ⟨us', v1', t1', _⟩ := I.tuple (zaP.sqT e q1')
    have t1 : s.heap.IsTuple a us.toArray := t1
    have t1' : s.heap.IsTuple b us'.toArray := t1'
    have z := RcAt.tuples t1 t1' hA (zgw ih' hx hy q2 v1 q2' v1')
    have zn := RcNeAt.tuples t1 t1' hA (zgw ih' hx hy q2 v1 q2' v1')
    have hz : ((List.range (min us.toArray.size us'.toArray.size)).all (fun j => eqD (xs.getD j .non) (ys.getD j .non)) && us.toArray.size == us'.toArray.size) = eqD (.tup xs) (.tup ys) := by
     rw [zeO.1, ← zeM]
     simp only [List.size_toArray, ← v1.length, ← v1'.length, ← q2.length, ← q2'.length]
    rw [hz] at z zn
    refine ⟨?_, z, zn⟩
    by_cases hab : a = b
    ·subst hab
     have ed := znC I e (n + 1) h h' hr hr'
     rw [ed, zgv _ _ h']; exact EqAt.same _
    ·exact EqAt.of_refs hab z
   ·obtain ⟨a, vs, rfl, q1, q2⟩ := r
    obtain rfl : u = Value.ref a := q
    obtain ⟨us, v1, t1, _⟩ := I.tuple (zaP.sqT e q1)
    obtain ⟨b, ws, rfl, q1', q2'⟩ := r'
    obtain rfl : u' = Value.ref b := q'
    obtain ⟨us', v1', t1', _⟩ := I.list (e.seq q1')
    have t1 : s.heap.IsTuple a us.toArray := t1
    rw [zeO.2.2.1]
    exact ⟨EqAt.tuple_list t1 t1'.isList hA, RcAt.tuple_list t1 t1'.isList hA, RcNeAt.tuple_list t1 t1'.isList hA⟩
  ·obtain rfl : n = m := by omega
   rcases zbv h' with ⟨w', hw'⟩ | ⟨m', ys, hm', rfl, hy⟩ | ⟨m', ys, hm', rfl, hy⟩
   ·obtain ⟨rfl, f1⟩ := zcg hw' r'
    obtain ⟨b, items, rfl, hb⟩ := seq (m := n) (.inr rfl) r q
    obtain ⟨_, z2, _, z4, _, z6⟩ := zdj f1 q' hA hb
    rw [(zd2 hw').2.2.2]; exact ⟨z2, z4, z6⟩
   ·obtain ⟨a, vs, rfl, q1, q2⟩ := r
    obtain rfl : u = Value.ref a := q
    obtain ⟨us, v1, t1, _⟩ := I.list (e.seq q1)
    obtain ⟨b, ws, rfl, q1', q2'⟩ := r'
    obtain rfl : u' = Value.ref b := q'
    obtain ⟨us', v1', t1', _⟩ := I.tuple (zaP.sqT e q1')
    have t1' : s.heap.IsTuple b us'.toArray := t1'
    rw [zeO.2.2.2]
    exact ⟨EqAt.list_tuple t1.isList t1' hA, RcAt.list_tuple t1.isList t1' hA, RcNeAt.list_tuple t1.isList t1' hA⟩
   ·obtain rfl : n = m' := by omega
    have hr := r; have hr' := r'
    obtain ⟨a, vs, rfl, q1, q2⟩ := r
    obtain rfl : u = Value.ref a := q
    obtain ⟨us, v1, t1, _⟩ := I.list (e.seq q1)
    obtain ⟨b, ws, rfl, q1', q2'⟩ := r'
    obtain rfl : u' = Value.ref b := q'
    obtain ⟨us', v1', t1', _⟩ := I.list (e.seq q1')
    have both : RcAt A s (.ref a) (.ref b) (eqD (.lst xs) (.lst ys)) ∧ RcNeAt A s (.ref a) (.ref b) (!eqD (.lst xs) (.lst ys)) := by
     by_cases hl : us.toArray.size = us'.toArray.size
     ·have z := RcAt.lists t1.isList t1'.isList hl hA (zgw ih' hx hy q2 v1 q2' v1')
      have zn := RcNeAt.lists t1.isList t1'.isList hl hA (zgw ih' hx hy q2 v1 q2' v1')
      have hz : (List.range us.toArray.size).all (fun j => eqD (xs.getD j .non) (ys.getD j .non)) = eqD (.lst xs) (.lst ys) := by
       have hl' : xs.length = ys.length := by rw [q2.length, q2'.length, v1.length, v1'.length]; simpa using hl
       rw [zeO.2.1, ← zeM, hl', Nat.min_self, List.size_toArray, ← v1.length, ← q2.length, hl']
       simp
      rw [hz] at z zn
      exact ⟨z, zn⟩
     ·have z := RcAt.lists_lengths t1.isList t1'.isList (by simpa using hl) hA
      have zn := RcNeAt.lists_lengths t1.isList t1'.isList (by simpa using hl) hA
      have hz : eqD (.lst xs) (.lst ys) = false := by
       have hl' : ¬ xs.length = ys.length := by rw [q2.length, q2'.length, v1.length, v1'.length]; simpa using hl
       rw [zeO.2.1, ← zeM]
       simp [hl']
      rw [hz]
      exact ⟨z, zn⟩
    refine ⟨?_, both⟩
    by_cases hab : a = b
    ·subst hab
     have ed := znC I e (n + 1) h h' hr hr'
     rw [ed, zgv _ _ h']; exact EqAt.same _
    ·exact EqAt.of_refs hab both.1
end
end DL
end
section
set_option Elab.async false
set_option linter.all false
set_option maxRecDepth 100000
namespace DL
open PySem L2 PyProof.Rows
def B (n : Nat) (i : Int) : Prop := i.natAbs < 2 ^ n
theorem B.mono {m n : Nat} {i : Int} (h : B m i) (l : m ≤ n) : B n i := Nat.lt_of_lt_of_le h (Nat.pow_le_pow_right (by decide) l)
theorem B.mul {m n : Nat} {i j : Int} (a : B m i) (b : B n j) : B (m + n) (i * j) := by
 unfold B at *
 rw [Int.natAbs_mul, Nat.pow_add]
 exact Nat.mul_lt_mul'' a b
theorem B.add {m n : Nat} {i j : Int} (a : B m i) (b : B n j) : B (max m n + 1) (i + j) := by
 have a' := a.mono (Nat.le_max_left m n)
 have b' := b.mono (Nat.le_max_right m n)
 unfold B at *
 rw [Nat.pow_succ]
 omega
theorem B.sub {m n : Nat} {i j : Int} (a : B m i) (b : B n j) : B (max m n + 1) (i - j) := by
 have a' := a.mono (Nat.le_max_left m n)
 have b' := b.mono (Nat.le_max_right m n)
 unfold B at *
 rw [Nat.pow_succ]
 omega
theorem B.of {n : Nat} {i : Int} {k : Nat} (h : i.natAbs ≤ k) (hk : k < 2 ^ n := by decide +kernel) : B n i := Nat.lt_of_le_of_lt h hk
theorem B.log {n : Nat} {i : Int} (h : B n i) (hn : 0 < n) : i.natAbs.log2 < n := zmm hn h
def zhA (i : Int) : Bool := decide (i.natAbs.log2 < 60000000)
theorem znE {n : Nat} {i : Int} (h : B n i) (hn : n ≤ 60000000 := by decide) : zhA i = true := by
 refine decide_eq_true ?_
 cases n with
 | zero =>
  have : i.natAbs = 0 := by unfold B at h; omega
  rw [this]; decide
 | succ k => exact Nat.lt_of_lt_of_le (h.log (Nat.succ_pos _)) hn
theorem zsh {i j : Int} (a : zhA i = true) (b : zhA j = true) : IntMulOk i j := by
 have h1 : i.natAbs.log2 < 60000000 := of_decide_eq_true a
 have h2 : j.natAbs.log2 < 60000000 := of_decide_eq_true b
 have bits : ∀ k : Int, k.natAbs.log2 < 60000000 → Builtin.Int.intBits k ≤ 60000000 := fun k h => by
  unfold Builtin.Int.intBits
  split
  ·exact Nat.zero_le _
  ·omega
 have b1 := bits i h1
 have b2 := bits j h2
 unfold IntMulOk
 intro z
 simp only [Bool.and_eq_true, decide_eq_true_eq, Builtin.Int.intTooBig] at z
 have e := z.2
 have l : (bitsLine : Int) = 134217728 := by decide
 rw [l] at e
 omega
def znF (i : Int) : Bool := decide (i ≠ 0 ∧ i.natAbs.log2 < 9000)
theorem zkx {n : Nat} {i : Int} (h : B n i) (h0 : i ≠ 0) (hn : n ≤ 9000 := by decide) : znF i = true := by
 refine decide_eq_true ⟨h0, ?_⟩
 cases n with
 | zero =>
  have : i.natAbs = 0 := by unfold B at h; omega
  omega
 | succ k => exact Nat.lt_of_lt_of_le (h.log (Nat.succ_pos _)) hn
def zvO (i j : Int) : Bool := decide (0 ≤ j ∧ j ≤ 1000000 ∧ i.natAbs < 2 ^ 64)
section
variable {X : Cx} {K : PySem.W.Frag} {mg : Str → Option Value}
def gI (C : Int → Int → Bool) (h : Int → Int → Int) : D → D → R D
 | .int i, .int j => bif C i j then .ok (.int (h i j)) else .bad
 | _, _ => .bad
def gB (h : Int → Int → Bool) : D → D → R D
 | .int i, .int j => .ok (.bl (h i j))
 | _, _ => .bad
theorem zt0 {C : Int → Int → Bool} {h : Int → Int → Int} : zf0 (gI C h) := by
 intro a b e
 cases a <;> cases b <;> simp only [gI] <;> first | (intro z; cases z) | (intro z; revert z; cases C _ _ <;> simp [cond])
theorem zuT {h : Int → Int → Bool} : zf0 (gB h) := by
 intro a b e
 cases a <;> cases b <;> simp only [gB] <;> (intro z; cases z)
theorem zt1 {C : Int → Int → Bool} {C' : Int → Int → Prop} {h : Int → Int → Int} (hc : ∀ i j, C i j = true → C' i j) : OpD K mg (rI C' fun i j => .int (h i j)) (gI C h) := by
 intro G H a b x y Q e ra rb q
 cases a with
 | int i => cases b with
  | int j =>
   cases ra; cases rb
   cases hC : C i j with
   | false => simp only [gI, hC, cond_false] at q; exact q.elim
   | true =>
    simp only [gI, hC, cond_true] at q
    exact ⟨i, j, rfl, rfl, hc i j hC, zaD.now q e rfl⟩
  | _ => exact (show False from q).elim
 | _ => exact (show False from q).elim
theorem zuU {h : Int → Int → Bool} : OpD K mg (rI0 fun i j => .bl (h i j)) (gB h) := by
 intro G H a b x y Q e ra rb q
 cases a with
 | int i => cases b with
  | int j => cases ra; cases rb; exact ⟨i, j, rfl, rfl, zaD.now q e rfl⟩
  | _ => exact (show False from q).elim
 | _ => exact (show False from q).elim
theorem zsi : OpR X (binaryOp .Mult) (rI (fun i j => zhA i = true ∧ zhA j = true) fun i j => .int (i * j)) := opI fun _ _ _ _ _ _ _ hc q => mul_int q (zsh hc.1 hc.2)
theorem zpM : OpR X (binaryOp .FloorDiv) (rI (fun _ j => znF j = true) fun i j => .int (i.fdiv j)) := opI fun i j _ _ _ _ _ hc q => by
 have h := of_decide_eq_true (p := j ≠ 0 ∧ j.natAbs.log2 < 9000) hc
 exact floordiv_int h.1 q (.inl (PyProof.noPylong_of_log2 h.2))
def zt2 (K : PySem.W.Frag) : R2 := fun x y H Q => ∃ l b xs zs, x = .ref l ∧ y = .ref b ∧ SqL K H l xs ∧ SqL K H b zs ∧ xs.length + zs.length ≤ sizeLine ∧ ∀ p, H p = none → Q (.ref p) (upd H p (.lst (xs ++ zs)))
theorem zsj : OpR X (binaryOp .Add) (zt2 X.K) := by
 intro pins s σ H x y v u Q I rx ry h
 obtain ⟨l, b, xs, zs, rfl, rfl, hH, hB, hz, q⟩ := h
 cases rx
 cases ry
 obtain ⟨its, r, pl, _⟩ := I.list hH
 obtain ⟨its2, r2, pl2, _⟩ := I.list hB
 obtain ⟨⟨cls, dd, data, sl⟩, ho, hc, n, hd⟩ := id pl.isList
 obtain ⟨⟨cls2, dd2, data2, sl2⟩, ho2, hc2, n2, hd2⟩ := id pl2.isList
 simp only at hc hd hc2 hd2
 subst hc hd hc2 hd2
 refine concat_meets ⟨_, ho, rfl⟩ ⟨_, ho2, rfl⟩ noFill_list_add seq_list_add PySem.F.slot_list_add PySem.F.entry_list_add (PySem.F.args_list_add_2 _ _) (list_addW l b its.toArray its2.toArray n n2 dd dd2 sl sl2 (by rw [List.size_toArray, List.size_toArray, ← r.length, ← r2.length]; exact hz)) ⟨ho, ho2, ?_⟩
 have ea : its.toArray ++ its2.toArray = (its ++ its2).toArray := by simp
 rw [ea]
 exact ⟨.ref _, _, I.lnew (t' := s.toks) (r.append r2) (by rw [List.length_append]; exact hz), rfl, q _ I.fresh⟩
def znG (n : Nat) : Bool := decide (n ≤ sizeLine)
def zc2 : D → D → R D
 | .int i, .int j => .ok (.int (i + j))
 | .str x, .str y => bif znG (x.length + y.length) then .ok (.str (x ++ y)) else .bad
 | .lst xs, .lst ys => bif znG (xs.length + ys.length) then .ok (.lst (xs ++ ys)) else .bad
 | .tup xs, .tup ys => bif znG (xs.length + ys.length) && !xs.isEmpty then .ok (.tup (xs ++ ys)) else .bad
 | _, _ => .bad
theorem zt3 : zf0 zc2 := by
 intro a b e
 cases a <;> cases b <;> simp only [zc2] <;> first | (intro z; cases z; done) | (generalize znG _ = k; cases k <;> simp [cond] <;> (try (generalize List.isEmpty _ = k2; cases k2 <;> simp)))
abbrev zvP (K : PySem.W.Frag) : R2 := fun x y H Q => rI0 (fun i j => .int (i + j)) x y H Q ∨ ((∃ i j, x = .str i ∧ y = .str j ∧ i.length + j.length ≤ sizeLine ∧ Q (.str (i ++ j)) H) ∨ (zt2 K x y H Q ∨ ztx K x y H Q))
theorem zt4 : OpD K mg (zvP K) zc2 := by
 intro G H a b x y Q e ra rb q
 cases a with
 | int i => cases b with
  | int j => cases ra; cases rb; exact .inl ⟨i, j, rfl, rfl, zaD.now q e rfl⟩
  | _ => exact (show False from q).elim
 | str i => cases b with
  | str j =>
   cases ra; cases rb
   cases hC : znG (i.length + j.length) with
   | false => simp only [zc2, hC, cond_false] at q; exact q.elim
   | true =>
    simp only [zc2, hC, cond_true] at q
    exact .inr (.inl ⟨i, j, rfl, rfl, of_decide_eq_true hC, zaD.now q e rfl⟩)
  | _ => exact (show False from q).elim
 | lst xs => cases b with
  | lst ys =>
   obtain ⟨p, vs, rfl, h1, h2⟩ := ra
   obtain ⟨p', ws, rfl, h1', h2'⟩ := rb
   cases hC : znG (xs.length + ys.length) with
   | false => simp only [zc2, hC, cond_false] at q; exact q.elim
   | true =>
    simp only [zc2, hC, cond_true] at q
    refine .inr (.inr (.inl ⟨p, p', vs, ws, rfl, rfl, e.seq h1, e.seq h1', by rw [← h2.length, ← h2'.length]; exact of_decide_eq_true hC, fun l hl => ?_⟩))
    have s := zbV.pub (o := .lst (vs ++ ws)) e hl
    exact (show zaD K mg Q G H (.lst (xs ++ ys)) from q) _ _ _ s ⟨l, _, rfl, SqL.of zaA, (h2.append h2').mono s.g⟩
  | _ => exact (show False from q).elim
 | tup xs => cases b with
  | tup ys =>
   obtain ⟨p, vs, rfl, h1, h2⟩ := ra
   obtain ⟨p', ws, rfl, h1', h2'⟩ := rb
   cases hC : (znG (xs.length + ys.length) && !xs.isEmpty) with
   | false => simp only [zc2, hC, cond_false] at q; exact q.elim
   | true =>
    simp only [zc2, hC, cond_true] at q
    rw [Bool.and_eq_true] at hC
    have q' : zaD K mg Q G H (.tup (xs ++ ys)) := q
    refine .inr (.inr (.inr ⟨p, p', vs, ws, rfl, rfl, zaP.sqT e h1, zaP.sqT e h1', fun z => ?_, by rw [← h2.length, ← h2'.length]; exact of_decide_eq_true hC.1, fun z => ?_, fun z l hl => ?_⟩))
    ·subst z
     have := h2.length
     have hx : xs = [] := List.length_eq_zero_iff.mp this
     subst hx; simp at hC
    ·subst z
     have := h2'.length
     have hy : ys = [] := List.length_eq_zero_iff.mp this
     subst hy
     rw [List.append_nil] at q'
     exact q'.now e ⟨p, vs, rfl, h1, h2⟩
    ·have s := zbV.pub (o := .tup (vs ++ ws)) e hl
     exact q' _ _ _ s ⟨l, _, rfl, SqT.of zaA, (h2.append h2').mono s.g⟩
  | _ => exact (show False from q).elim
 | _ => exact (show False from q).elim
abbrev gSub : D → D → R D := gI (fun _ _ => true) fun i j => i - j
abbrev zbj : D → D → R D := gI (fun i j => zhA i && zhA j) fun i j => i * j
abbrev zfi : D → D → R D := gI (fun _ j => znF j) fun i j => i.fdiv j
abbrev zfq : D → D → R D := gI (fun _ j => decide (j ≠ 0)) fun i j => i.fmod j
abbrev zsk : D → D → R D := gI zvO fun i j => i ^ j.toNat
abbrev gShr : D → D → R D := gI (fun _ j => decide (0 ≤ j)) fun i j => i / 2 ^ j.toNat
variable {E : XK} {a b c : Expr} {fa fb fc : DSt → R D} {pos : Pos}
theorem za6 (ha : DE X E a fa) (hb : DE X E b fb) : DE X E (.BinOp a .Add b pos) (eOp zc2 fa fb) := zmt (ztp.or (zmi.or (zsj.or zrT))) zt4 zt3 ha hb
theorem zc3 (ha : DE X E a fa) (hb : DE X E b fb) : DE X E (.BinOp a .Sub b pos) (eOp gSub fa fb) :=
 zmt (r := rI (fun _ _ => True) fun i j => .int (i - j)) (opI fun _ _ _ _ _ _ _ _ q => sub_int q) (zt1 fun _ _ _ => trivial) zt0 ha hb
theorem zaq (ha : DE X E a fa) (hb : DE X E b fb) : DE X E (.BinOp a .Mult b pos) (eOp zbj fa fb) := zmt zsi (zt1 fun i j h => by simpa using h) zt0 ha hb
theorem zd3 (ha : DE X E a fa) (hb : DE X E b fb) : DE X E (.BinOp a .FloorDiv b pos) (eOp zfi fa fb) := zmt zpM (zt1 fun i j h => h) zt0 ha hb
theorem zbw (ha : DE X E a fa) (hb : DE X E b fb) : DE X E (.BinOp a .Mod b pos) (eOp zfq fa fb) := zmt zrL (zt1 fun i j h => of_decide_eq_true h) zt0 ha hb
theorem znH (ha : DE X E a fa) (hb : DE X E b fb) : DE X E (.BinOp a .Pow b pos) (eOp zsk fa fb) := zmt ztq (zt1 fun i j h => of_decide_eq_true (p := 0 ≤ j ∧ j ≤ 1000000 ∧ i.natAbs < 2 ^ 64) h) zt0 ha hb
def zqH : D → R D
 | .int i => .ok (.int (-i))
 | _ => .bad
theorem zjB (ha : DE X E a fa) : DE X E (.UnaryOp .USub a pos) (eUn zqH fa) := by
 refine zvI ztr (fun G H d x Q e r q => ?_) (fun d e => ?_) ha
 ·cases d with
  | int i => cases r; exact ⟨i, rfl, zaD.now q e rfl⟩
  | _ => exact (show False from q).elim
 ·cases d <;> simp [zqH]
structure zo7 (X : Cx) (op : CmpOp) (g : D → D → R D) : Prop where
 ex : ∃ r, OpR X (compareOp op) r ∧ OpD X.K X.mg r g ∧ zf0 g
abbrev gLt : D → D → R D := gB fun i j => decide (i < j)
abbrev gLe : D → D → R D := gB fun i j => decide (i ≤ j)
abbrev gGt : D → D → R D := gB fun i j => decide (j < i)
abbrev gGe : D → D → R D := gB fun i j => decide (j ≤ i)
theorem zsl : zo7 X .Lt gLt := ⟨_, zvd, zuU, zuT⟩
theorem zt5 : zo7 X .LtE gLe := ⟨_, zve, zuU, zuT⟩
theorem zt6 : zo7 X .Gt gGt := ⟨_, zvf, zuU, zuT⟩
theorem zvQ : zo7 X .GtE gGe := ⟨_, zvg, zuU, zuT⟩
def zmu (a b : D) : Bool := zeL 9 a && zeL 9 b
def gEq (a b : D) : R D := bif zmu a b then .ok (.bl (eqD a b)) else .bad
def gNe (a b : D) : R D := bif zmu a b then .ok (.bl (!eqD a b)) else .bad
def rEqD (K : PySem.W.Frag) (mg : Str → Option Value) (neg : Bool) : R2 := fun x y H Q => ∃ G d d', zaP G H ∧ Rep K mg G d x ∧ Rep K mg G d' y ∧ zmu d d' = true ∧ Q (.bl (bif neg then !eqD d d' else eqD d d')) H
theorem zt7 {k : Nat} (r : zhw k X.A) : OpR X (compareOp .Eq) (rEqD X.K X.mg false) := by
 intro pins s σ H x y v u Q I rx ry h
 obtain ⟨G, d, d', e, r1, r2, c, q⟩ := h
 unfold zmu at c
 rw [Bool.and_eq_true] at c
 have hu : X.A.units + 9 < cLine := by have := r.un; omega
 exact (zqG I e 9 hu c.1 c.2 r1 rx r2 ry).2.1 _ _ _ _ ⟨.bl _, H, I, rfl, q⟩
theorem zt8 {k : Nat} (r : zhw k X.A) : OpR X (compareOp .NotEq) (rEqD X.K X.mg true) := by
 intro pins s σ H x y v u Q I rx ry h
 obtain ⟨G, d, d', e, r1, r2, c, q⟩ := h
 unfold zmu at c
 rw [Bool.and_eq_true] at c
 have hu : X.A.units + 9 < cLine := by have := r.un; omega
 exact (zqG I e 9 hu c.1 c.2 r1 rx r2 ry).2.2 _ _ _ _ ⟨.bl _, H, I, rfl, q⟩
theorem zdM {k : Nat} (C : XC X E k) : zo7 X .Eq gEq := ⟨_, zt7 C.room, fun G H a b x y Q e ra rb q => by
 unfold gEq at q
 cases hc : zmu a b with
 | false => rw [hc] at q; exact q.elim
 | true => rw [hc] at q; exact ⟨G, a, b, e, ra, rb, hc, zaD.now q e rfl⟩, fun a b e => by unfold gEq; cases zmu a b <;> simp [cond]⟩
theorem zeS {k : Nat} (C : XC X E k) : zo7 X .NotEq gNe := ⟨_, zt8 C.room, fun G H a b x y Q e ra rb q => by
 unfold gNe at q
 cases hc : zmu a b with
 | false => rw [hc] at q; exact q.elim
 | true => rw [hc] at q; exact ⟨G, a, b, e, ra, rb, hc, zaD.now q e rfl⟩, fun a b e => by unfold gNe; cases zmu a b <;> simp [cond]⟩
def zmv : D → Bool
 | .non => true
 | _ => false
def gIs : D → D → R D
 | d, .non => .ok (.bl (zmv d))
 | .bl a, .bl b => .ok (.bl (a == b))
 | _, _ => .bad
def gIsn : D → D → R D
 | d, .non => .ok (.bl (!zmv d))
 | .bl a, .bl b => .ok (.bl (a != b))
 | _, _ => .bad
theorem zc4 {op : CmpOp} {g : D → D → R D} (cf : zo7 X op g) (ha : DE X E a fa) (hb : DE X E b fb) (hm : behindInMarks op b = false := by first | exact zal _ (by decide) (by decide) | rfl) : DE X E (.Compare a [op] [b] pos) (eOp g fa fb) := by
 obtain ⟨r, h1, h2, h3⟩ := cf.ex
 exact ztP h1 h2 h3 ha hb hm
theorem zaH {op : CmpOp} {g : D → D → R D} (cf : zo7 X op g) (ha : DE X E a fa) (hb : DE X E b fb) (hm : behindInMarks op b = false := by first | exact zal _ (by decide) (by decide) | rfl) : DT X E (.Compare a [op] [b] pos) (zaO (eOp g fa fb)) := by
 obtain ⟨r, h1, h2, h3⟩ := cf.ex
 exact ztQ h1 h2 h3 ha hb hm
theorem znI {op op' : CmpOp} {g g' : D → D → R D} (cf : zo7 X op g) (cf' : zo7 X op' g') (ha : DE X E a fa) (hb : DE X E b fb) (hc : DE X E c fc) (hm : lastMarks [op, op'] [b, c] = false := by with_unfolding_all rfl) : DT X E (.Compare a [op, op'] [b, c] pos) (zaO (zjv g g' fa fb fc)) := by
 obtain ⟨r, h1, h2, h3⟩ := cf.ex
 obtain ⟨r', h1', h2', h3'⟩ := cf'.ex
 exact zpI h1 h2 h3 h1' h2' h3' ha hb hc hm
end
end DL
end
section
set_option Elab.async false
set_option linter.all false
set_option maxRecDepth 100000
namespace DL
open PySem L2 PyProof.Rows
section
variable {X : Cx} {E : XK} {K : PySem.W.Frag} {mg : Str → Option Value} {G H : Hp}
theorem zpN : bootBuiltins "all" = some (.builtin "all") := by rfl
theorem zlc : bootBuiltins "isinstance" = some (.builtin "isinstance") := by rfl
theorem zqI : bootBuiltins "int" = some (.type "int") := by rfl
theorem zky : bootBuiltins "bool" = some (.type "bool") := by rfl
theorem ziL : bootBuiltins "tuple" = some (.type "tuple") := by rfl
theorem znJ : bootBuiltins "list" = some (.type "list") := by rfl
theorem ziM : bootBuiltins "ValueError" = some (.type "ValueError") := by rfl
theorem Reps.one {d : D} {vs : List V} (h : Reps K mg G [d] vs) : ∃ v, vs = [v] ∧ Rep K mg G d v := by
 obtain ⟨v, r, rfl, h2, h3⟩ := h
 cases h3
 exact ⟨v, rfl, h2⟩
theorem Reps.two {d d' : D} {vs : List V} (h : Reps K mg G [d, d'] vs) : ∃ v w, vs = [v, w] ∧ Rep K mg G d v ∧ Rep K mg G d' w := by
 obtain ⟨v, r, rfl, h2, h3⟩ := h
 obtain ⟨w, rfl, h4⟩ := h3.one
 exact ⟨v, w, rfl, h2, h4⟩
def g1 {α : Type} (g : D → R α) : List D → R α
 | [d] => g d
 | _ => .bad
def g2 {α : Type} (g : D → D → R α) : List D → R α
 | [d, e] => g d e
 | _ => .bad
theorem cd1 {r : List V → Hp → VK → Prop} {g : D → R D} (h : ∀ (G H : Hp) (d : D) (v : V) (Q : VK), zaP G H → Rep K mg G d v → RW (g d) (zaD K mg Q G H) (fun _ => False) → r [v] H Q) : zgn K mg r (g1 g) := by
 intro G H ds vs Q e rp q
 match ds, rp, q with
 | [], rp, q => exact (show False from q).elim
 | [d], rp, q => obtain ⟨v, rfl, h1⟩ := rp.one; exact h G H d v Q e h1 q
 | _ :: _ :: _, rp, q => exact (show False from q).elim
theorem cd2 {r : List V → Hp → VK → Prop} {g : D → D → R D} (h : ∀ (G H : Hp) (d d' : D) (v v' : V) (Q : VK), zaP G H → Rep K mg G d v → Rep K mg G d' v' → RW (g d d') (zaD K mg Q G H) (fun _ => False) → r [v, v'] H Q) : zgn K mg r (g2 g) := by
 intro G H ds vs Q e rp q
 match ds, rp, q with
 | [], rp, q => exact (show False from q).elim
 | [d], rp, q => exact (show False from q).elim
 | [d, d'], rp, q => obtain ⟨v, w, rfl, h1, h2⟩ := rp.two; exact h G H d d' v w Q e h1 h2 q
 | _ :: _ :: _ :: _, rp, q => exact (show False from q).elim
variable {x : Str} {p pos : Pos} {e : Expr} {es : List Expr} {fs : DSt → R (List D)}
def zvR : D → R D
 | .lst xs => .ok (.int xs.length)
 | .tup xs => .ok (.int xs.length)
 | .str y => bif znG y.length then .ok (.int y.length) else .bad
 | _ => .bad
abbrev zi6 := g1 zvR
theorem zt9 : zgn K mg (fun xs H Q => (∃ p ys, xs = [.ref p] ∧ (SqL K H p ys ∨ SqT K H p ys) ∧ Q (.int ys.length) H) ∨ (∃ z, xs = [.str z] ∧ z.length ≤ sizeLine ∧ Q (.int z.length) H)) zi6 := cd1 fun G H d v Q e r q => by
 cases d with
 | lst xs =>
  obtain ⟨a, vs, rfl, h1, h2⟩ := r
  exact .inl ⟨a, vs, rfl, .inl (e.seq h1), by rw [← h2.length]; exact zaD.now q e rfl⟩
 | tup xs =>
  obtain ⟨a, vs, rfl, h1, h2⟩ := r
  exact .inl ⟨a, vs, rfl, .inr (zaP.sqT e h1), by rw [← h2.length]; exact zaD.now q e rfl⟩
 | str y =>
  cases r
  cases hC : znG y.length with
  | false => simp only [zvR, hC, cond_false] at q; exact q.elim
  | true => simp only [zvR, hC, cond_true] at q; exact .inr ⟨y, rfl, of_decide_eq_true hC, zaD.now q e rfl⟩
 | _ => exact (show False from q).elim
theorem zfw (hm : X.mg "len" = none) (ha : DA X E (e :: es) fs) (hg : Gl X "len" := by rfl) (he : starEach (e :: es) X.env = (false, eval e X.env) :: starEach es X.env := by rfl) (hpl : (backTo pos (starEach es X.env)).any (·.1) = false := by rfl) : DE X E (.Call (.Name "len" p) (e :: es) [] pos) (zdg zi6 fs) :=
 zgL (zjf.or zjg) zt9 hm PySem.boot_len ha hg (by decide) (by decide) he hpl
def abs1 : D → R D
 | .int i => .ok (.int (i.natAbs : Int))
 | _ => .bad
abbrev zpO := g1 abs1
theorem zua : zgn K mg (fun xs H Q => ∃ i, xs = [.int i] ∧ Q (.int (if i < 0 then -i else i)) H) zpO := cd1 fun G H d v Q e r q => by
 cases d with
 | int i =>
  cases r
  have ea : (if i < 0 then -i else i) = (i.natAbs : Int) := by split <;> omega
  exact ⟨i, rfl, by rw [ea]; exact zaD.now q e rfl⟩
 | _ => exact (show False from q).elim
theorem zhY (hm : X.mg "abs" = none) (ha : DA X E (e :: es) fs) (hg : Gl X "abs" := by rfl) (he : starEach (e :: es) X.env = (false, eval e X.env) :: starEach es X.env := by rfl) (hpl : (backTo pos (starEach es X.env)).any (·.1) = false := by rfl) : DE X E (.Call (.Name "abs" p) (e :: es) [] pos) (zdg zpO fs) :=
 zgL zph zua hm PyProof.Rows.boot_abs ha hg (by decide) (by decide) he hpl
def min2 : D → D → R D
 | .int i, .int j => .ok (.int (min i j))
 | _, _ => .bad
def max2 : D → D → R D
 | .int i, .int j => .ok (.int (max i j))
 | _, _ => .bad
abbrev gMin := g2 min2
abbrev zuV := g2 max2
theorem zub : zgn K mg (fun xs H Q => ∃ i j, xs = [.int i, .int j] ∧ Q (.int (if j > i then j else i)) H) zuV := cd2 fun G H d d' v v' Q e r r' q => by
 cases d with
 | int i => cases d' with
  | int j =>
   cases r; cases r'
   have ea : (if j > i then j else i) = max i j := by split <;> omega
   exact ⟨i, j, rfl, by rw [ea]; exact zaD.now q e rfl⟩
  | _ => exact (show False from q).elim
 | _ => exact (show False from q).elim
theorem zuc (hc : X.calm = true) (hm : X.mg "max" = none) (ha : DA X E (e :: es) fs) (hg : Gl X "max" := by rfl) (he : starEach (e :: es) X.env = (false, eval e X.env) :: starEach es X.env := by rfl) (hpl : (backTo pos (starEach es X.env)).any (·.1) = false := by rfl) : DE X E (.Call (.Name "max" p) (e :: es) [] pos) (zdg zuV fs) :=
 zgL (zmV hc) zub hm PyProof.Rows.boot_max ha hg (by decide) (by decide) he hpl
def zga : List D → Option (List Int)
 | [] => some []
 | .int i :: r => (zga r).map (i :: ·)
 | _ => none
def zjC : List D → Option (List Bool)
 | [] => some []
 | .bl b :: r => (zjC r).map (b :: ·)
 | _ => none
theorem zgR : ∀ {ds : List D} {ns : List Int}, zga ds = some ns → ds = ns.map D.int
 | [], ns, h => by simp only [zga, Option.some.injEq] at h; subst h; rfl
 | .int i :: r, ns, h => by
  simp only [zga, Option.map_eq_some_iff] at h
  obtain ⟨ms, h1, rfl⟩ := h
  rw [zgR h1]; rfl
theorem zld : ∀ {ds : List D} {bs : List Bool}, zjC ds = some bs → ds = bs.map D.bl
 | [], ns, h => by simp only [zjC, Option.some.injEq] at h; subst h; rfl
 | .bl i :: r, ns, h => by
  simp only [zjC, Option.map_eq_some_iff] at h
  obtain ⟨ms, h1, rfl⟩ := h
  rw [zld h1]; rfl
theorem zjD : ∀ bs : List Bool, zjC (bs.map D.bl) = some bs
 | [] => rfl
 | n :: r => by rw [List.map_cons]; unfold zjC; rw [zjD r]; rfl
def zvS : D → R D
 | .lst xs => match zga xs with
  | some ns => .ok (.int ns.sum)
  | none => .bad
 | _ => .bad
abbrev zuW := g1 zvS
theorem zud : zgn K mg (fun xs H Q => ∃ (p : Addr) (ns : List Int), xs = [.ref p] ∧ SqL K H p (ns.map V.int) ∧ Q (.int ns.sum) H) zuW := cd1 fun G H d v Q e r q => by
 cases d with
 | lst xs =>
  obtain ⟨a, vs, rfl, h1, h2⟩ := r
  cases hn : zga xs with
  | none => simp only [zvS, hn] at q; exact q.elim
  | some ns =>
   simp only [zvS, hn] at q
   rw [zgR hn] at h2
   rw [Reps.of_ints h2] at h1
   exact ⟨a, ns, rfl, e.seq h1, zaD.now q e rfl⟩
 | _ => exact (show False from q).elim
theorem zue (hc : X.calm = true) (hm : X.mg "sum" = none) (ha : DA X E (e :: es) fs) (hg : Gl X "sum" := by rfl) (he : starEach (e :: es) X.env = (false, eval e X.env) :: starEach es X.env := by rfl) (hpl : (backTo pos (starEach es X.env)).any (·.1) = false := by rfl) : DE X E (.Call (.Name "sum" p) (e :: es) [] pos) (zdg zuW fs) :=
 zgL (zpn hc) zud hm PyProof.Rows.boot_sum ha hg (by decide) (by decide) he hpl
def zqJ : D → R D
 | .lst xs => match zjC xs with
  | some bs => .ok (.bl (bs.all id))
  | none => .bad
 | _ => .bad
abbrev zsm := g1 zqJ
theorem zuf : zgn K mg (fun xs H Q => ∃ (p : Addr) (bs : List Bool), xs = [.ref p] ∧ SqL K H p (bs.map V.bl) ∧ Q (.bl (bs.all id)) H) zsm := cd1 fun G H d v Q e r q => by
 cases d with
 | lst xs =>
  obtain ⟨a, vs, rfl, h1, h2⟩ := r
  cases hn : zjC xs with
  | none => simp only [zqJ, hn] at q; exact q.elim
  | some ns =>
   simp only [zqJ, hn] at q
   rw [zld hn] at h2
   rw [Reps.of_bools h2] at h1
   exact ⟨a, ns, rfl, e.seq h1, zaD.now q e rfl⟩
 | _ => exact (show False from q).elim
theorem znK (hc : X.calm = true) (hm : X.mg "all" = none) (ha : DA X E (e :: es) fs) (hg : Gl X "all" := by rfl) (he : starEach (e :: es) X.env = (false, eval e X.env) :: starEach es X.env := by rfl) (hpl : (backTo pos (starEach es X.env)).any (·.1) = false := by rfl) : DE X E (.Call (.Name "all" p) (e :: es) [] pos) (zdg zsm fs) :=
 zgL (zpv hc) zuf hm zpN ha hg (by decide) (by decide) he hpl
def int1 : D → R D
 | .int i => .ok (.int i)
 | .bl b => .ok (.int (if b then 1 else 0))
 | _ => .bad
abbrev gInt := g1 int1
def zug : D → R D
 | .lst xs => .ok (.tup xs)
 | .tup xs => .ok (.tup xs)
 | _ => .bad
abbrev zjE := g1 zug
theorem zpP : zgn K mg (fun xs H Q => ∃ p ys, xs = [.ref p] ∧ ((SqL K H p ys ∧ ∀ l, H l = none → Q (.ref l) (upd H l (.tup ys))) ∨ (SqT K H p ys ∧ Q (.ref p) H))) zjE := cd1 fun G H d v Q e r q => by
 cases d with
 | lst xs =>
  obtain ⟨a, vs, rfl, h1, h2⟩ := r
  refine ⟨a, vs, rfl, .inl ⟨e.seq h1, fun l hl => ?_⟩⟩
  have s := zbV.pub (o := .tup vs) e hl
  exact (show zaD K mg Q G H (.tup xs) from q) _ _ _ s ⟨l, vs, rfl, SqT.of zaA, h2.mono s.g⟩
 | tup xs =>
  obtain ⟨a, vs, rfl, h1, h2⟩ := r
  exact ⟨a, vs, rfl, .inr ⟨zaP.sqT e h1, (show zaD K mg Q G H (.tup xs) from q).now e ⟨a, vs, rfl, h1, h2⟩⟩⟩
 | _ => exact (show False from q).elim
theorem zle (hm : X.mg "tuple" = none) (ha : DA X E (e :: es) fs) (hg : Gl X "tuple" := by rfl) (he : starEach (e :: es) X.env = (false, eval e X.env) :: starEach es X.env := by rfl) (hpl : (backTo pos (starEach es X.env)).any (·.1) = false := by rfl) : DE X E (.Call (.Name "tuple" p) (e :: es) [] pos) (zdg zjE fs) :=
 ztR zix zpP hm ha ziL hg (by decide) (by decide) he hpl
def zpQ (g : List D → R (List D)) (fs : DSt → R (List D)) : DSt → R (List D) := fun σ => (fs σ).bind fun ds => (g ds).noerr
def zuh (K : PySem.W.Frag) (mg : Str → Option Value) (r : List V → Hp → VK → Prop) (g : List D → R (List D)) : Prop :=
 ∀ (G H : Hp) (ds : List D) (vs : List V) (Q : VK), zaP G H → Reps K mg G ds vs → RW (g ds) (zf9 K mg Q G H) (fun _ => False) → r vs H Q
theorem zui {T : String} {r : List V → Hp → VK → Prop} {g : List D → R (List D)} (hc : zde X (.type T) r) (hd : zuh X.K X.mg r g) (hm : X.mg x = none) (ha : DA X E (e :: es) fs) (hv : bootBuiltins x = some (.type T) := by rfl) (hg : Gl X x := by rfl) (hn : x ≠ "__name__" := by decide) (hdb : (x == ("__debug__" : Str)) = false := by decide)
  (he : starEach (e :: es) X.env = (false, eval e X.env) :: starEach es X.env := by rfl) (hpl : (backTo pos (starEach es X.env)).any (·.1) = false := by rfl) : DF X E (.Call (.Name x p) (e :: es) [] pos) (zpQ g fs) := by
 refine PE.mono' (zgC hc hg hm hv ha hn hdb he hpl) fun σ H Q ⟨G, σd, ok, q⟩ => ?_
 refine ⟨G, σd, ok, q.of_bind.mono (fun ds _ z vs G' H' s r => ?_) fun _ z => z⟩
 obtain ⟨d, e1, z⟩ := zdh z
 exact hd G' H' ds vs Q s.e r (by rw [e1]; exact z.step s)
def zvT : D → R (List D)
 | .lst xs => .ok xs
 | .tup xs => .ok xs
 | _ => .bad
abbrev zpR := g1 zvT
theorem zsn : zuh K mg (fun xs H Q => ∃ p ys, xs = [.ref p] ∧ (SqL K H p ys ∨ SqT K H p ys) ∧ ∀ l, H l = none → Q (.ref l) (upd H l (.lst ys))) zpR := by
 intro G H ds vs Q e rp q
 have go : ∀ xs vs, Reps K mg G xs vs → zf9 K mg Q G H xs → ∀ l, H l = none → Q (.ref l) (upd H l (.lst vs)) := fun xs vs h z l hl => z l vs G _ (.hid e hl) hl zaA (e.free hl) h
 match ds, rp, q with
 | [], rp, q => exact (show False from q).elim
 | [d], rp, q =>
  obtain ⟨v, rfl, r⟩ := rp.one
  cases d with
  | lst xs => obtain ⟨a, vs, rfl, h1, h2⟩ := r; exact ⟨a, vs, rfl, .inl (e.seq h1), go xs vs h2 q⟩
  | tup xs => obtain ⟨a, vs, rfl, h1, h2⟩ := r; exact ⟨a, vs, rfl, .inr (zaP.sqT e h1), go xs vs h2 q⟩
  | _ => exact (show False from q).elim
 | _ :: _ :: _, rp, q => exact (show False from q).elim
theorem zso (hm : X.mg "list" = none) (ha : DA X E (e :: es) fs) (hg : Gl X "list" := by rfl) (he : starEach (e :: es) X.env = (false, eval e X.env) :: starEach es X.env := by rfl) (hpl : (backTo pos (starEach es X.env)).any (·.1) = false := by rfl) : DF X E (.Call (.Name "list" p) (e :: es) [] pos) (zpQ zpR fs) :=
 zui zjh zsn hm ha znJ hg (by decide) (by decide) he hpl
def zlf : D → Option String
 | .non => some "NoneType"
 | .bl _ => some "bool"
 | .int _ => some "int"
 | .str _ => some "str"
 | .tup _ => some "tuple"
 | .lst _ => some "list"
 | .dct _ _ => some "dict"
 | _ => none
def zuj (T : String) : Bool := ["int", "bool", "str", "tuple", "list", "dict"].contains T
def zuX (t T : String) : Bool := t == T || (t == "bool" && T == "int")
theorem zgS (t T : String) (ht : ["NoneType", "bool", "int", "str", "tuple", "list", "dict"].contains t = true) (hT : zuj T = true) : PySem.W.kitOne K (.type t) (.type T) = some (zuX t T) := by
 simp only [List.contains_eq_mem, List.mem_cons, List.not_mem_nil, or_false, decide_eq_true_eq] at ht
 simp only [zuj, List.contains_eq_mem, List.mem_cons, List.not_mem_nil, or_false, decide_eq_true_eq] at hT
 rcases ht with rfl | rfl | rfl | rfl | rfl | rfl | rfl <;> rcases hT with rfl | rfl | rfl | rfl | rfl | rfl <;> rfl
end
end DL
end
section
set_option Elab.async false
set_option linter.all false
set_option maxRecDepth 100000
namespace DL
open PySem L2 PyProof.Rows
section
variable {X : Cx} {E : XK} {K : PySem.W.Frag} {mg : Str → Option Value} {G H : Hp}
variable {x : Str} {p pos : Pos} {e : Expr} {es : List Expr} {fs : DSt → R (List D)}
def rIsi (K : PySem.W.Frag) (mg : Str → Option Value) : List V → Hp → VK → Prop := fun xs H Q => ∃ G d T v b, xs = [v, .ty T] ∧ zaP G H ∧ Rep K mg G d v ∧ (∃ t, zlf d = some t ∧ zuj T = true ∧ b = zuX t T) ∧ Q (.bl b) H
theorem znL : zde X (.builtin "isinstance") (rIsi X.K X.mg) := by
 intro pins s σ H xs us Q I r h
 obtain ⟨G, d, T, v, b, rfl, e, rp, ⟨t, ht, hT, rfl⟩, q⟩ := h
 obtain ⟨u, w', rfl, ru, rw'⟩ := zpg r
 cases (show w' = Value.type T from rw')
 have fin : ∀ tk, EP X pins σ Q (.bool (zuX t T)) { s with toks := tk } := fun tk => ⟨.bl _, H, I.tok tk, rfl, q⟩
 cases d with
 | non => cases ht; cases rp; cases (show u = Value.none from ru); exact PySem.W.kia_one PySem.W.kitx_none I.kIn True.intro (zgS _ _ rfl hT) (fun z => nomatch z) fin
 | bl y => cases ht; cases rp; cases (show u = Value.bool y from ru); exact PySem.W.kia_one PySem.W.kitx_bool I.kIn True.intro (zgS _ _ rfl hT) (fun z => nomatch z) fin
 | int i => cases ht; cases rp; obtain ⟨tk, rfl⟩ := (show ∃ tk, u = Value.int i tk from ru); exact PySem.W.kia_one PySem.W.kitx_int I.kIn True.intro (zgS _ _ rfl hT) (fun z => nomatch z) fin
 | str y => cases ht; cases rp; obtain ⟨tk, rfl⟩ := (show ∃ tk, u = Value.str y tk from ru); exact PySem.W.kia_one PySem.W.kitx_str I.kIn True.intro (zgS _ _ rfl hT) (fun z => nomatch z) fin
 | tup ds =>
  cases ht
  obtain ⟨a, vs, rfl, h1, h2⟩ := rp
  cases (show u = Value.ref a from ru)
  obtain ⟨_, _, ⟨o, h3, h4, _⟩, _⟩ := I.tuple (zaP.sqT e h1)
  exact PySem.W.kia_one PySem.W.kitx_tuple I.kIn ⟨o, h3, h4⟩ (zgS _ _ rfl hT) (fun z => nomatch z) fin
 | lst ds =>
  cases ht
  obtain ⟨a, vs, rfl, h1, h2⟩ := rp
  cases (show u = Value.ref a from ru)
  obtain ⟨_, _, ⟨o, n, h3, h4, _⟩, _⟩ := I.list (e.seq h1)
  exact PySem.W.kia_one PySem.W.kitx_list I.kIn ⟨o, h3, h4⟩ (zgS _ _ rfl hT) (fun z => nomatch z) fin
 | dct ks ds =>
  cases ht
  obtain ⟨a, vs, rfl, h1, _⟩ := rp
  cases (show u = Value.ref a from ru)
  obtain ⟨_, _, _, _, p⟩ := (show zd0 X.prog X.w H s.heap a (.dK (ks.zip vs)) from (zaP.rd e h1).ok I.hok)
  obtain ⟨o, es, ep, h3, h4, _⟩ := p
  exact PySem.W.kia_one PySem.W.kitx_dict I.kIn ⟨o, h3, h4.1⟩ (zgS _ _ rfl hT) (fun z => nomatch z) fin
 | _ => cases ht
abbrev zvU (K : PySem.W.Frag) : List V → Hp → VK → Prop := fun xs H Q => ∃ (a C : Addr) (c : V) (cv : Value) (b : Bool), xs = [.ref a, c] ∧ H a = some (zo6 a C none) ∧ ((∃ D, c = .ref D ∧ cv = .ref D) ∨ ∃ T, c = .ty T ∧ cv = .type T) ∧ zr2 K C ∧ PySem.W.kitOne K (.ref C) cv = some b ∧ Q (.bl b) H
def zfr : D → D → R D
 | d, .ty T => match zlf d with
  | some t => bif zuj T then .ok (.bl (zuX t T)) else .bad
  | none => match d with
   | .exc _ [] => bif T == "ValueError" then .ok (.bl true) else .bad
   | _ => .bad
 | .exc c [], .cls d => match zju c d with
  | some b => .ok (.bl b)
  | none => .bad
 | _, _ => .bad
theorem zuk : zgn K mg (fun xs H Q => rIsi K mg xs H Q ∨ zvU K xs H Q) (g2 zfr) := cd2 fun G H d d' v v' Q e r r' q => by
 have exc : ∀ {c as}, d = .exc c as → as = [] → ∃ a C, v = .ref a ∧ H a = some (zo6 a C none) ∧ zno K mg c C := fun {c as} hd ha => by
  subst hd; subst ha
  obtain ⟨a, C, dct, vs, rfl, h2, h3, h4, h5⟩ := r
  cases h5
  rcases h4 with ⟨rfl, _⟩ | ⟨dx, w, _, z, _⟩
  ·exact ⟨a, C, rfl, e _ _ h2, h3⟩
  ·cases z
 cases d' with
 | ty T =>
  cases r'
  cases ht : zlf d with
  | some t =>
   cases hT : zuj T with
   | false => simp only [zfr, ht, hT, cond_false] at q; exact q.elim
   | true => simp only [zfr, ht, hT, cond_true] at q; exact .inl ⟨G, d, T, v, _, rfl, e, r, ⟨t, ht, hT, rfl⟩, zaD.now q e rfl⟩
  | none =>
   cases d with
   | exc c as =>
    cases as with
    | nil =>
     cases hT : T == "ValueError" with
     | false => simp only [zfr, ht, hT, cond_false] at q; exact q.elim
     | true =>
      simp only [zfr, ht, hT, cond_true] at q
      obtain ⟨a, C, rfl, h1, h2⟩ := exc rfl rfl
      have := eq_of_beq hT
      subst this
      exact .inr ⟨a, C, _, _, true, rfl, h1, .inr ⟨_, rfl, rfl⟩, h2.exc, h2.val, zaD.now q e rfl⟩
    | cons b bs => simp only [zfr, ht] at q; exact q.elim
   | _ => simp only [zfr, ht] at q; exact q.elim
 | cls c' =>
  cases d with
  | exc c as =>
   cases as with
   | nil =>
    obtain ⟨Dd, rfl, hD⟩ := r'
    cases hs : zju c c' with
    | none => simp only [zfr, hs] at q; exact q.elim
    | some b =>
     simp only [zfr, hs] at q
     obtain ⟨a, C, rfl, h1, h2⟩ := exc rfl rfl
     exact .inr ⟨a, C, _, _, b, rfl, h1, .inl ⟨Dd, rfl, rfl⟩, h2.exc, h2.isi c' Dd b hs hD, zaD.now q e rfl⟩
   | cons b bs => exact (show False from q).elim
  | _ => exact (show False from q).elim
 | _ => cases d <;> first | exact (show False from q).elim | (rename_i as; cases as <;> exact (show False from q).elim)
theorem zeZ (hm : X.mg "isinstance" = none) (ha : DA X E (e :: es) fs) (hg : Gl X "isinstance" := by rfl) (he : starEach (e :: es) X.env = (false, eval e X.env) :: starEach es X.env := by rfl) (hpl : (backTo pos (starEach es X.env)).any (·.1) = false := by rfl) : DE X E (.Call (.Name "isinstance" p) (e :: es) [] pos) (zdg (g2 zfr) fs) :=
 zgL (znL.or zna) zuk hm zlc ha hg (by decide) (by decide) he hpl
def tO (K : PySem.W.Frag) (mg : Str → Option Value) (E : XK) (f : DSt → R (Option Int)) : TO := fun σ H Q => ∃ G σd, Ok0 K mg σd σ G H ∧ RW (f σd) (fun o => ∀ G' H', zbV G H G' H' → Q o H') (za0 K mg E G H)
def DO (X : Cx) (E : XK) (e : Option Expr) (f : DSt → R (Option Int)) : Prop := PO X e (tO X.K X.mg E f)
def zgq : DSt → R (Option Int) := fun _ => .ok none
def asI : D → R (Option Int)
 | .int i => .ok (some i)
 | _ => .bad
def zdG (f : DSt → R D) : DSt → R (Option Int) := fun σ => (f σ).bind asI
theorem PO.mono' {e : Option Expr} {t t' : TO} (h : PO X e t) (m : ∀ σ H Q, t' σ H Q → t σ H Q) : PO X e t' := fun pins s σ H Q I q => h pins s σ H Q I (m σ H Q q)
theorem zfj : DO X E none zgq := PO.mono' zrR fun σ H Q ⟨G, σd, ok, q⟩ => (show ∀ G' H', zbV G H G' H' → Q none H' from q) G H (.refl ok.ext)
theorem zc5 {f : DSt → R D} (h : DE X E e f) : DO X E (some e) (zdG f) := PO.mono' (zrS h) fun σ H Q ⟨G, σd, ok, q⟩ => ⟨G, σd, ok, q.of_bind.mono (fun d _ z v G' H' s r => by
 cases d with
 | int i => cases r; exact ⟨i, rfl, (show ∀ G' H', zbV G H G' H' → Q (some i) H' from z) G' H' s⟩
 | _ => exact (show False from z).elim) fun _ z => z⟩
def zmL {α : Type} (xs : List α) (lo hi : Option Int) : List α := (xs.drop (HT.sIx xs.length 0 lo)).take (HT.sIx xs.length xs.length hi - HT.sIx xs.length 0 lo)
def znM {α : Type} (xs : List α) (lo hi : Option Int) : Bool := decide (HT.sIx xs.length 0 lo = 0 ∧ HT.sIx xs.length xs.length hi = xs.length)
def gSl : D → Option Int → Option Int → R D
 | .lst xs, lo, hi => .ok (.lst (zmL xs lo hi))
 | .tup xs, lo, hi => bif znM xs lo hi then .bad else .ok (.tup (zmL xs lo hi))
 | _, _, _ => .bad
def eSl (fe : DSt → R D) (fl fh : DSt → R (Option Int)) : DSt → R D := fun σ => (fe σ).bind fun d => (fl σ).bind fun lo => (fh σ).bind fun hi => gSl d lo hi
theorem Reps.cut {ds : List D} {vs : List V} (h : Reps K mg G ds vs) (lo hi : Option Int) : Reps K mg G (zmL ds lo hi) (zo5 vs lo hi) := by
 unfold zmL zo5
 rw [h.length]
 exact (h.drop _).take _
theorem ziN {fe : DSt → R D} {lo hi : Option Expr} {fl fh : DSt → R (Option Int)} {p2 : Pos} (he : DE X E e fe) (hl : DO X E lo fl) (hh : DO X E hi fh) : DE X E (.Subscript e (.Slice lo hi none p2) pos) (eSl fe fl fh) := by
 refine PE.mono' (zpj (zrX.or ztw) he hl hh) fun σ H Q ⟨G, σd, ok, q⟩ => ?_
 refine zdD (P := zaD X.K X.mg Q) ok q fun d v G1 H1 s1 ok1 r1 q1 => ?_
 refine ⟨G1, σd, ok1, q1.of_bind.mono (fun l _ q2 G2 H2 s2 => ?_) fun _ z => z⟩
 refine ⟨G2, σd, ok1.step s2, q2.of_bind.mono (fun u _ q3 G3 H3 s3 => ?_) fun _ z => z.step s2⟩
 have s := (s1.trans s2).trans s3
 have r3 := r1.mono (s2.g.trans s3.g)
 cases d with
 | lst xs =>
  obtain ⟨a, vs, rfl, h1, h2⟩ := r3
  refine .inl ⟨a, vs, rfl, s3.e.seq h1, fun pp hp => ?_⟩
  have sp := zbV.pub (o := .lst (zo5 vs l u)) s3.e hp
  exact (show zaD X.K X.mg Q G H (.lst (zmL xs l u)) from q3) _ _ _ (s.trans sp) ⟨pp, _, rfl, SqL.of zaA, (h2.cut l u).mono sp.g⟩
 | tup xs =>
  obtain ⟨a, vs, rfl, h1, h2⟩ := r3
  cases hw : znM xs l u with
  | true => simp only [gSl, hw, cond_true] at q3; exact q3.elim
  | false =>
   simp only [gSl, hw, cond_false] at q3
   refine .inr ⟨a, vs, rfl, zaP.sqT s3.e h1, by rw [← h2.length]; exact of_decide_eq_false hw, fun pp hp => ?_⟩
   have sp := zbV.pub (o := .tup (zo5 vs l u)) s3.e hp
   exact (show zaD X.K X.mg Q G H (.tup (zmL xs l u)) from q3) _ _ _ (s.trans sp) ⟨pp, _, rfl, SqT.of zaA, (h2.cut l u).mono sp.g⟩
 | _ => exact (show False from q3).elim
end
def zqK (c : Str) (fs : DSt → R (List D)) : DSt → R Out := fun σ => (fs σ).bind fun ds => bif few ds.length then .err (.exc c []) else .bad
section
variable {P : Program} {w : World} {K : PySem.W.Frag} {mg : Str → Option Value} {base : Heap} {N : List Str} {qual : Str} {scope : Scope} {f : Addr} {cdv : Value} {A : Around} {outer : List Env} {s0 : Shared} {H0 : Hp} {E : XK} {own own' ol : List Nat}
theorem zpS {x : Str} {C : Addr} {e0 : Expr} {zcB : List Expr} {np cpos pos : Pos} {fs : DSt → R (List D)} (q : PySem.W.excIn K C [.type "ValueError", .type "Exception", .type "BaseException", .type "object"] "ValueError.__new__" = true) (hx : zno K mg x C)
  (ha : DA (zi5 (CXe P w) P w K mg base N qual scope f cdv A outer s0 H0 E) E (e0 :: zcB) fs) (hg : Gl (zi5 (CXe P w) P w K mg base N qual scope f cdv A outer s0 H0 E) x := by rfl)
  (hdb : (x == ("__debug__" : Str)) = false := by decide)
  (he : starEach (e0 :: zcB) (envOfC qual scope s0.heap.objs.size f cdv) = (false, eval e0 (envOfC qual scope s0.heap.objs.size f cdv)) :: starEach zcB (envOfC qual scope s0.heap.objs.size f cdv) := by rfl)
  (hpl : (backTo cpos (starEach zcB (envOfC qual scope s0.heap.objs.size f cdv))).any (·.1) = false := by rfl) :
  DS (zi5 (CXe P w) P w K mg base N qual scope f cdv A outer s0 H0 E) E own own' ol (.Raise (some (.Call (.Name x np) (e0 :: zcB) [] cpos)) none pos) (zqK x fs) := fun G0 =>
 PS.mono' (zpq q hg hx.here ha hdb he hpl) fun Dn σ H ⟨G, σd, ok, s1, z⟩ => by
 have sp := ok.pubStep s1
 refine ⟨_, σd, ok.pub.1, z.of_bind.mono (fun ds _ z vs G' H' s r => ?_) fun _ z => z.step sp⟩
 cases hf : few ds.length with
 | false => rw [hf] at z; exact (show False from z).elim
 | true =>
  rw [hf] at z
  refine ⟨by rw [← r.length]; exact znt hf, ?_⟩
  exact (show za0 K mg E G0 H0 (.exc x []) from z) G' H' C none (sp.trans s) ⟨x, [], [], rfl, hx, .inl ⟨rfl, rfl⟩, Reps.nil⟩
end
def zkz (c : Str) : DSt → R Out := fun _ => .err (.exc c [])
theorem znN {P : Program} {w : World} {K : PySem.W.Frag} {mg : Str → Option Value} {base : Heap} {N : List Str} {qual : Str} {scope : Scope} {f : Addr} {cdv : Value} {A : Around} {outer : List Env} {s0 : Shared} {H0 : Hp} {E : XK} {own own' ol : List Nat} {x t : Str} {C : Addr} {np cpos pos tp : Pos} {j} (q : PySem.W.excIn K C [.type "ValueError", .type "Exception", .type "BaseException", .type "object"] "ValueError.__new__" = true) (hx : zno K mg x C)
  (hg : Gl (zi5 (CXe P w) P w K mg base N qual scope f cdv A outer s0 H0 E) x := by rfl) (hdb : (x == ("__debug__" : Str)) = false := by decide) :
  DS (zi5 (CXe P w) P w K mg base N qual scope f cdv A outer s0 H0 E) E own own' ol (.Raise (some (.Call (.Name x np) [.Constant (.str t) j tp] [] cpos)) none pos) (zkz x) :=
 zpS (fs := zaf (eC (.str t)) zaz) q hx (zad zqA zai) hg hdb
section
variable (K : PySem.W.Frag) (mg : Str → Option Value)
def tSX (G0 H0 : Hp) (f : DSt → R Out) : TSX := fun Dn E σ H => ∃ G σd, Ok0 K mg σd σ G H ∧ zbV G0 H0 G H ∧ RW (f σd) (zgt K mg G0 H0 [] [] Dn G) (za0 K mg E G H)
end
def DSX (X : Cx) (st : Stmt) (f : DSt → R Out) : Prop := ∀ G0, PSX X (CXe X.prog X.w) st (tSX X.K X.mg G0 X.H₀ f)
def DSXs (X : Cx) (st : List Stmt) (f : DSt → R Out) : Prop := ∀ G0, zvw X (CXe X.prog X.w) st (tSX X.K X.mg G0 X.H₀ f)
theorem PSX.mono' {X : Cx} {CX : CXT} {st : Stmt} {t t' : TSX} (h : PSX X CX st t) (m : ∀ D E σ H, t' D E σ H → t D E σ H) : PSX X CX st t' := fun pins s σ H D E I q => h pins s σ H D E I (m D E σ H q)
section
variable {X : Cx} {ol : List Nat} {k : Nat} {x y : Str} {m : List D → R D} {p pos cpos npos : Pos} {e : Expr} {es : List Expr} {fs : DSt → R (List D)} {f g : DSt → R Out}
theorem zpT {st : Stmt} (h : DSX X st f) : DSXs X [st] f := fun G0 => zpt (h G0)
def zlg (m : List D → R D) (fs : DSt → R (List D)) : DSt → R D := fun σ => (fs σ).noerr.bind m
theorem zpU {G0 G H : Hp} {σd : DSt} {σ : L2.St} {Q : VK} {E : XK} {S : D → R Out} {PO : Out → Prop} (ok : Ok0 X.K X.mg σd σ G H) (q : RW ((zlg m fs σd).bind S) PO (za0 X.K X.mg E G H))
  (h : ∀ d v G' H', zbV G H G' H' → Rep X.K X.mg G' d v → RW (S d) PO (za0 X.K X.mg E G H) → Q v H') : ztG (spD X.K X.mg m) [] (tAr X.K X.mg E0 fs) σ H Q E := by
 obtain ⟨ds, e1, q⟩ := zdh q.of_bind.of_bind
 refine ⟨G, σd, ok, RW.ok_of e1 fun vs G' H' s r => ?_⟩
 show spD X.K X.mg m (vs ++ []) H' _ E
 rw [List.append_nil]
 exact ⟨G', ds, s.e, r, q.mono (fun d _ z v G2 H2 s2 r2 => h d v G2 H2 (s.trans s2) r2 z) fun _ z => z.step s⟩
theorem zpV (hr : zhw k X.A) (F : zaC X.prog X.w X.K X.mg X.base k x m) (ha : DA X.nox E0 (e :: es) fs) (hg : Gl X x := by rfl) (hdb : (x == ("__debug__" : Str)) = false := by decide)
  (he : starEach (e :: es) X.env = (false, eval e X.env) :: starEach es X.env := by rfl) (hpl : (backTo cpos (starEach es X.env)).any (·.1) = false := by rfl) (hs : swapsWith (.Call (.Name x p) (e :: es) [] cpos) none pos.line X.env = pure false := by rfl) :
  DSX X (.Expr (.Call (.Name x p) (e :: es) [] cpos) pos) (znx (zlg m fs)) := fun G0 => by
 obtain ⟨fa, fd, ps, h1, h2, h3, h4⟩ := F.ex
 refine PSX.mono' (zps (zpr (dvs := []) (ds := []) h1 hr hg h2 h3 h4 .nil ha hdb he hpl) hs) fun Dn E σ H ⟨G, σd, ok, s0, q⟩ => ?_
 exact zpU (G0 := G0) ok q fun d v G' H' s r z => (show zgt X.K X.mg G0 X.H₀ [] [] Dn G (.nx σd) from z) σ G' H' (.zero (ok.step s)) (s0.trans s) s.g
def zuY (i : Nat) (c : Str) (body hnd : DSt → R Out) : DSt → R Out := fun σ => match body σ with
 | .ok o => .ok o
 | .err (.exc cc as) => bif zju cc c == some true then (hnd (σ.set i (some (.exc cc as)))).noerr.bind fun o => match o with
   | .nx σ' => .ok (.nx (σ'.set i none))
   | _ => .bad
  else .bad
 | _ => .bad
theorem Ok.unset {K : PySem.W.Frag} {mg : Str → Option Value} {H0 G H : Hp} {σd : DSt} {σ : L2.St} {i : Nat} {own : List Nat} (o : Ok K mg H0 own σd σ G H) (hi : i ∉ own) : Ok K mg H0 own (σd.set i none) (σ.set i none) G H := by
 have back : ∀ {j : Nat} {d : D}, (σd.set i none)[j]? = some (some d) → j ≠ i ∧ σd[j]? = some (some d) := fun {j d} q => by
  by_cases hj : j = i
  ·subst hj
   have hl : j < σd.length := by have := (List.getElem?_eq_some_iff.mp q).1; simpa using this
   rw [List.getElem?_set_self hl] at q; cases q
  ·rw [List.getElem?_set_ne (Ne.symm hj)] at q; exact ⟨hj, q⟩
 refine ⟨o.ext, by simp [o.len], fun j d hj q => ?_, fun j d hj q => ?_, fun j l a d1 d2 h1 h2 h3 h4 h5 h6 => ?_⟩
 ·obtain ⟨hj', q'⟩ := back q
  rw [List.getElem?_set_ne (Ne.symm hj')]; exact o.val j d hj q'
 ·obtain ⟨hj', q'⟩ := back q
  rw [List.getElem?_set_ne (Ne.symm hj')]; exact o.mine j d hj q'
 ·obtain ⟨hj', q3⟩ := back h3
  obtain ⟨hl', q4⟩ := back h4
  rw [List.getElem?_set_ne (Ne.symm hj')] at h5
  rw [List.getElem?_set_ne (Ne.symm hl')] at h6
  exact o.dj j l a d1 d2 h1 h2 q3 q4 h5 h6
theorem zul (i : Nat) {E : XK} {body : List Stmt} {c n : Str} {np hpos : Pos} {b0 : Stmt} {suite : List Stmt} {Dc : Addr} (hst : X.stack = X.env :: X.outer) (hf : X.env.frame = some X.env.locals) (hN : X.N.Nodup)
  (hm : X.mg c = some (.ref Dc)) (hb : DSXs X body f) (hh : ∀ x, DSs (hdl X x) E0 [] [] [] (b0 :: suite) g) (hi : X.N[i]? = some n := by rfl) (hn : X.env.scope.names.lookup n = some .local := by rfl) (hg : Gl X c := by rfl)
  (hdb : (c == ("__debug__" : Str)) = false := by decide) : DS X E [] [] [] (.Try body [.ExceptHandler (some (.Name c np)) (some n) (b0 :: suite) hpos] [] [] pos) (zuY i c f g) := fun G0 =>
 PS.mono' (ztH (th := tS X.K X.mg E0 G0 X.H₀ [] [] [] g) hst hf hN hi hn hg hm (hb G0) (fun x => hh x G0) hdb) fun Dn σ H ⟨G, σd, ok, s0, q⟩ => by
 have ok0 : Ok0 X.K X.mg σd σ G H := by have := ok.masked; rw [zgu] at this; exact this
 unfold zuY at q
 cases hbd : f σd with
 | bad => rw [hbd] at q; exact (show False from q).elim
 | ok o =>
  rw [hbd] at q
  exact ⟨fun _ _ _ => False, ⟨G, σd, ok0, s0, RW.ok_of hbd q⟩, fun C dct H' x z => z.elim⟩
 | err ex =>
  rw [hbd] at q
  cases ex with
  | exc cc as =>
   cases hsub : (zju cc c == some true) with
   | false => simp only [hsub, cond_false] at q; exact q.elim
   | true =>
    simp only [hsub, cond_true] at q
    obtain ⟨o, ho1, q⟩ := zdh q.of_bind
    refine ⟨fun cv dct H' => ∃ C G', cv = .ref C ∧ zbV G H G' H' ∧ ExcR X.K X.mg G' (.exc cc as) C dct, ⟨G, σd, ok0, s0, ?_⟩, ?_⟩
    ·rw [hbd]
     exact fun G' H' C dct s r => ⟨C, G', rfl, s, r⟩
    ·rintro C dct H' x ⟨C', G', e1, s', hr⟩ nx
     cases e1
     obtain ⟨c2, as2, vs, e2, hxc, hd, hrs⟩ := hr
     cases e2
     refine ⟨hxc.ctc c Dc (eq_of_beq hsub) hm, ?_⟩
     have sp := zbV.pub (o := zo6 x C dct) s'.e nx
     have st := s'.trans sp
     refine ⟨_, σd.set i (some (.exc cc as)), .zero ((ok0.step st).set ⟨x, C, dct, vs, rfl, zaA, hxc, hd.mono sp.g, hrs.mono sp.g⟩), s0.trans st, RW.ok_of ho1 ?_⟩
     cases o with
     | nx σ1 =>
      have q' : zgt X.K X.mg G0 X.H₀ [] [] Dn G (.nx (σ1.set i none)) := q
      exact fun σ2 G2 H2 ok2 s2 e2 => q' _ G2 H2 (ok2.unset (by simp)) s2 (st.g.trans e2)
     | _ => exact (show False from q).elim
  | _ => exact (show False from q).elim
end
end DL
end
section
set_option Elab.async false
set_option linter.all false
set_option maxRecDepth 100000
namespace DL
open PySem L2 PyProof.Rows
theorem zaU {n nN : Nat} {b : DSt → R Out} {ds : List D} {σ : DSt} (hl : ds.length = n) (hs : zeY nN ds = σ) : fnM n nN b ds = fin (b σ) := by
 subst hl; subst hs; unfold fnM; rw [beq_self_eq_true]; rfl
theorem de_k {X : Cx} {E : XK} {x : Str} {d : D} {pos : Pos} (h : ∃ u v, X.mg x = some u ∧ zcb v u ∧ ∀ G, Rep X.K X.mg G d v) (hg : Gl X x := by rfl) (hd : (x == ("__debug__" : Str)) = false := by decide) : DE X E (.Name x pos) (eC d) := by
 obtain ⟨u, v, h1, h2, h3⟩ := h
 exact znr h1 h2 h3 hg hd
section
variable {K : PySem.W.Frag} {mg : Str → Option Value}
def ziO (c d : Str) : Bool := c == d || d == "ChalkError"
def zbx (K : PySem.W.Frag) (mg : Str → Option Value) (C : Addr) (d : Str) (b : Bool) : Prop :=
 (∀ D, mg d = some (.ref D) → PySem.W.kitOne K (.ref C) (.ref D) = some b) ∧ (b = true → ∀ D, mg d = some (.ref D) → PySem.W.exmOne K (.ref C) (.ref D) = some true)
theorem zno.mk' {c : Str} {C : Addr} (here : mg c = some (.ref C)) (exc : zr2 K C) (val : PySem.W.kitOne K (.ref C) (.type "ValueError") = some true) (rows : ∀ d ∈ zdf, zbx K mg C d (ziO c d)) : zno K mg c C := by
 have sub : ∀ d b, zju c d = some b → d ∈ zdf ∧ b = ziO c d := fun d b h => by
  unfold zju at h
  cases hc : (zdf.contains c && zdf.contains d) with
  | false => rw [hc] at h; cases h
  | true =>
   rw [hc] at h
   have h' : some (c == d || d == "ChalkError") = some b := h
   rw [Bool.and_eq_true] at hc
   exact ⟨by simpa using hc.2, by cases h'; rfl⟩
 refine ⟨here, exc, fun d Dd b h hd => ?_, val, fun d Dd h hd => ?_⟩
 ·obtain ⟨h1, rfl⟩ := sub d b h
  exact (rows d h1).1 Dd hd
 ·obtain ⟨h1, h2⟩ := sub d true h
  exact (rows d h1).2 h2.symm Dd hd
theorem zum {c : Str} {C : Addr} (r0 : zbx K mg C "ChalkError" (ziO c "ChalkError")) (r1 : zbx K mg C "NoPlace" (ziO c "NoPlace")) (r2 : zbx K mg C "Same" (ziO c "Same")) (r3 : zbx K mg C "NoFloor" (ziO c "NoFloor")) (r4 : zbx K mg C "Endless" (ziO c "Endless"))
  (r5 : zbx K mg C "NoDeed" (ziO c "NoDeed")) (r6 : zbx K mg C "NoText" (ziO c "NoText")) (r7 : zbx K mg C "NoName" (ziO c "NoName")) (r8 : zbx K mg C "TooMany" (ziO c "TooMany")) (r9 : zbx K mg C "NoChange" (ziO c "NoChange")) (r10 : zbx K mg C "NoFrame" (ziO c "NoFrame"))
  (r11 : zbx K mg C "NoValue" (ziO c "NoValue")) (r12 : zbx K mg C "Unlike" (ziO c "Unlike")) (r13 : zbx K mg C "NoRatio" (ziO c "NoRatio")) (r14 : zbx K mg C "NoBow" (ziO c "NoBow")) (r15 : zbx K mg C "NoRow" (ziO c "NoRow")) : ∀ d ∈ zdf, zbx K mg C d (ziO c d) := by
 intro d hd
 simp only [zdf, List.mem_cons, List.not_mem_nil, or_false] at hd
 rcases hd with rfl | rfl | rfl | rfl | rfl | rfl | rfl | rfl | rfl | rfl | rfl | rfl | rfl | rfl | rfl | rfl <;> assumption
theorem zbx.of {C D0 : Addr} {d : Str} {b : Bool} (h : mg d = some (.ref D0)) (t : PySem.W.kitOne K (.ref C) (.ref D0) = some b) (u : b = true → PySem.W.exmOne K (.ref C) (.ref D0) = some true) : zbx K mg C d b :=
 ⟨fun D hD => by rw [h] at hD; cases hD; exact t, fun hb D hD => by rw [h] at hD; cases hD; exact u hb⟩
theorem zbx.no {C : Addr} {d : Str} {b : Bool} (h : mg d = none) : zbx K mg C d b := ⟨fun D hD => (by rw [h] at hD; cases hD), fun _ D hD => (by rw [h] at hD; cases hD)⟩
end
section
variable {P : Program} {w : World} {K : PySem.W.Frag} {mg : Str → Option Value} {base : Heap}
theorem zsp {x qual : Str} {st : Stmt} {f : Addr} {fd : FuncData} {N ps : List Str} {k n nN : Nat} {own' : List Nat} {body : DSt → R Out} (F : Fun K x qual st f fd) (S : zaw N ps (zag st))
  (hn : ps.length = n) (hN : N.length = nN)
  (hb : ∀ (X : Cx) (E : XK), (∃ cdv A outer s H, X = zi5 (CXe P w) P w K mg base N qual (zag st) f cdv A outer s H E) → XC X E k → XL X → DSs X E [] own' [] (zau st) body) : zhN P w K mg base (CXe P w) (k + 1) f fd ps (spD K mg (fnM n nN body)) := by
 refine F.okX S (fun vs H Q E h => ?_) (fun cdv A outer s H vs Q E hr hsp => ?_)
 ·obtain ⟨G, ds, e, r, q⟩ := h
  by_cases hd : ds.length = n
  ·rw [← r.length, hd, hn]
  ·have : (ds.length == n) = false := by simpa using hd
   unfold fnM at q
   rw [this] at q
   exact (show False from q).elim
 ·obtain ⟨G, ds, e, r, q⟩ := hsp
  have hd : ds.length = n := by
   by_cases hd : ds.length = n
   ·exact hd
   ·have : (ds.length == n) = false := by simpa using hd
    unfold fnM at q
    rw [this] at q
    exact (show False from q).elim
  unfold fnM at q
  rw [show (ds.length == n) = true by simpa using hd] at q
  have q' : RW (fin (body (zeY nN ds))) (zaD K mg Q G H) (za0 K mg E G H) := q
  refine ⟨_, hb _ E ⟨cdv, A, outer, s, H, rfl⟩ ⟨rfl, hr, ztE⟩ ⟨PassesOwn.leaving⟩ G, G, zeY nN ds, ?_, .refl e, ?_⟩
  ·have := Reps.startOk e (N.length - vs.length) r
   unfold L2.start zeY
   rw [← hN, r.length]
   exact .zero this
  ·cases hbd : body (zeY nN ds) with
   | bad => rw [hbd] at q'; exact q'
   | err e => rw [hbd] at q'; exact q'
   | ok o =>
    rw [hbd] at q'
    cases o with
    | rt d => exact fun v G' H' s r => (show zaD K mg Q G H d from q') v G' H' s r
    | rf es =>
     intro a vs G' H' s n e g r
     have q2 : zaD K mg Q G H (.lst es) := q'
     have sg : zaP G' (upd G' a (.lst vs)) := zcS g
     refine q2 (.ref a) (upd G' a (.lst vs)) H' ⟨s.g.trans sg, s.h, fun b u p => ?_, fun b u p1 p2 => ?_⟩ ⟨a, vs, rfl, SqL.of zaA, r.mono sg⟩
     ·by_cases hb : b = a
      ·subst hb; rw [zaA] at p; cases p; exact e
      ·rw [zay hb] at p; exact s.e b u p
     ·have hb : b ≠ a := zas p1 n
      rw [zay hb]; exact s.c b u p1 p2
    | nx σ => exact fun σ' G' H' ok s _ => (show zaD K mg Q G H .non from q') .non G' H' s rfl
    | bk σ => exact (show False from q').elim
    | ct σ => exact (show False from q').elim
def zpW (K : PySem.W.Frag) : Sp := fun vs H Q _ => ∃ (a : Addr) (ns : List Int), vs = [.ref a] ∧ SqL K H a (ns.map V.int) ∧ ns.length ≤ 63 ∧ ∀ H', Q (.bl true) H'
theorem zun {k : Nat} {f : Addr} {fd : FuncData} {m : List D → R D} (F : zhN P w K mg base (CXe P w) k f fd ["_law_script"] (spD K mg m)) (hm : ∀ ns : List Int, ns.length ≤ 63 → m [.lst (ns.map .int)] = .ok (.bl true)) :
  zhN P w K mg base (CXe P w) k f fd ["_law_script"] (zpW K) := F.imp fun vs H Q E h => by
 obtain ⟨a, ns, rfl, hS, hl, q⟩ := h
 refine ⟨H, [.lst (ns.map .int)], zaP.refl _, Reps.cons ⟨a, _, rfl, hS, Reps.ints ns⟩ Reps.nil, RW.ok_of (hm ns hl) fun v G' H' s r => ?_⟩
 cases r; exact q H'
end
theorem walkD {l : PySem.W.OpenLaw} {q : Program} {loose : List Str} {XP : (Str → Option Value) → Heap → Prop} {YP : World → Heap → Prop} {d : DefRec} {K : Params → PySem.W.Frag} (k : Nat) (hr : zhw k callerA) (hn : l.most = some 63) (hdf : d.params.defaults = [])
  (hY : ∀ (w : World) (h : Heap), YP w h → (K w.params).In h)
  (F : ∀ (w : World) (mg : Str → Option Value) (fa : Addr) (h : Heap), (K w.params).In h → h.Ns mainGlobals mg → mg d.name = some (.ref fa) →
   ∃ fd : FuncData, (∀ (s : Shared) (u : Value), BindsTo s fd ⟨[u], []⟩ [("_law_script", u)]) ∧ ∀ base : Heap, (K w.params).In base → base.Ns mainGlobals mg → zhN l.prog w (K w.params) mg base (CXe l.prog w) k fa fd ["_law_script"] (zpW (K w.params))) :
  PySem.W.WalkO q loose XP YP l.row.toRowW d [] (fun f vs => PySem.call f vs) :=
 L2.walk_of (n := 63) (k := k) (x := "_law_script") (CX := fun w => CXe l.prog w) (sp := fun w => zpW (K w.params)) hn (by decide) hdf hr hY F (fun _ _ a ns hl _ hS => ⟨a, ns, rfl, hS, hl, fun _ => rfl⟩) fun w H s e s' z => by
  obtain ⟨_, _, _, _, _, _, _, _, _, _, _, _, _, z⟩ := z
  exact z.elim
end DL
end
section
set_option Elab.async false
set_option linter.all false
set_option maxRecDepth 100000
namespace DL
open PySem L2
def zsW (r : R Out) (g : DSt → R Out) : R Out := r.bind fun o => match o with
 | .nx σ' => g σ'
 | o => .ok o
theorem zlh (f g : DSt → R Out) (σ : DSt) : za2 f g σ = zsW (f σ) g := rfl
theorem znO (σ : DSt) (g : DSt → R Out) : zsW (.ok (.nx σ)) g = g σ := rfl
theorem znP (d : D) (g : DSt → R Out) : zsW (.ok (.rt d)) g = .ok (.rt d) := rfl
theorem znQ (σ : DSt) (g : DSt → R Out) : zsW (.ok (.bk σ)) g = .ok (.bk σ) := rfl
theorem znR (σ : DSt) (g : DSt → R Out) : zsW (.ok (.ct σ)) g = .ok (.ct σ) := rfl
theorem zli (e : D) (g : DSt → R Out) : zsW (.err e) g = .err e := rfl
theorem zjF (σ : DSt) : zcD σ = .ok (.nx σ) := rfl
theorem zjG (d : D) (σ : DSt) : zaj 0 (some d :: σ) = .ok d := rfl
theorem zjH (n : Nat) (x : Option D) (σ : DSt) : zaj (n + 1) (x :: σ) = zaj n σ := rfl
theorem zqL (d : D) (σ : DSt) : eC d σ = .ok d := rfl
def opK (g : D → D → R D) (a b : R D) : R D := a.bind fun x => b.bind fun y => g x y
theorem znS (g : D → D → R D) (fa fb : DSt → R D) (σ : DSt) : eOp g fa fb σ = opK g (fa σ) (fb σ) := rfl
theorem znT (g : D → D → R D) (x y : D) : opK g (.ok x) (.ok y) = g x y := rfl
def unK (g : D → R D) (a : R D) : R D := a.bind g
theorem znU (g : D → R D) (fa : DSt → R D) (σ : DSt) : eUn g fa σ = unK g (fa σ) := rfl
theorem zqM (g : D → R D) (x : D) : unK g (.ok x) = g x := rfl
def zsq (m : List D → R D) (a : R (List D)) : R D := a.bind m
theorem zgT (m : List D → R D) (fs : DSt → R (List D)) (σ : DSt) : zaN m fs σ = zsq m (fs σ) := rfl
theorem zlj (m : List D → R D) (ds : List D) : zsq m (.ok ds) = m ds := rfl
theorem zjI (m : List D → R D) (e : D) : zsq m (.err e) = .err e := rfl
def zqN (m : List D → R D) (a : R (List D)) : R D := a.noerr.bind m
theorem zhZ (m : List D → R D) (fs : DSt → R (List D)) (σ : DSt) : zlg m fs σ = zqN m (fs σ) := rfl
theorem zjJ (m : List D → R D) (ds : List D) : zqN m (.ok ds) = m ds := rfl
def bltK (g : List D → R D) (a : R (List D)) : R D := a.bind fun ds => (g ds).noerr
theorem zlk (g : List D → R D) (fs : DSt → R (List D)) (σ : DSt) : zdg g fs σ = bltK g (fs σ) := rfl
theorem znV (g : List D → R D) (ds : List D) : bltK g (.ok ds) = (g ds).noerr := rfl
def zuo (g : List D → R (List D)) (a : R (List D)) : R (List D) := a.bind fun ds => (g ds).noerr
theorem zjK (g : List D → R (List D)) (fs : DSt → R (List D)) (σ : DSt) : zpQ g fs σ = zuo g (fs σ) := rfl
theorem zll (g : List D → R (List D)) (ds : List D) : zuo g (.ok ds) = (g ds).noerr := rfl
theorem zjL {α : Type} (a : α) : (R.ok a).noerr = .ok a := rfl
theorem zlm (σ : DSt) : zaz σ = .ok [] := rfl
def zsr (a : R D) (b : R (List D)) : R (List D) := a.bind fun x => b.bind fun xs => .ok (x :: xs)
theorem zgU (fa : DSt → R D) (fs : DSt → R (List D)) (σ : DSt) : zaf fa fs σ = zsr (fa σ) (fs σ) := rfl
theorem zln (x : D) (xs : List D) : zsr (.ok x) (.ok xs) = .ok (x :: xs) := rfl
theorem zjM (e : D) (b : R (List D)) : zsr (.err e) b = .err e := rfl
def zpX (a : R (List D)) : R D := a.bind fun ds => bif few ds.length then .ok (.tup ds) else .bad
theorem zlo (fs : DSt → R (List D)) (σ : DSt) : zhy fs σ = zpX (fs σ) := rfl
theorem zqO : zpX (.ok []) = .ok (.tup []) := rfl
theorem zqP (a : D) : zpX (.ok [a]) = .ok (.tup [a]) := rfl
theorem zqQ (a b : D) : zpX (.ok [a, b]) = .ok (.tup [a, b]) := rfl
theorem zqR (a b c : D) : zpX (.ok [a, b, c]) = .ok (.tup [a, b, c]) := rfl
theorem zqS (a b c d : D) : zpX (.ok [a, b, c, d]) = .ok (.tup [a, b, c, d]) := rfl
theorem zqT (a b c d e : D) : zpX (.ok [a, b, c, d, e]) = .ok (.tup [a, b, c, d, e]) := rfl
theorem zqU (a b c d e f : D) : zpX (.ok [a, b, c, d, e, f]) = .ok (.tup [a, b, c, d, e, f]) := rfl
theorem zqV (a b c d e f g h i : D) : zpX (.ok [a, b, c, d, e, f, g, h, i]) = .ok (.tup [a, b, c, d, e, f, g, h, i]) := rfl
def zpY (a : R (List D)) : R (List D) := a.bind fun ds => bif few ds.length then .ok ds else .bad
theorem zlp (fs : DSt → R (List D)) (σ : DSt) : zgm fs σ = zpY (fs σ) := rfl
theorem zqW : zpY (.ok []) = .ok [] := rfl
theorem zqX (a : D) : zpY (.ok [a]) = .ok [a] := rfl
theorem zqY (a b : D) : zpY (.ok [a, b]) = .ok [a, b] := rfl
theorem zqZ (a b c : D) : zpY (.ok [a, b, c]) = .ok [a, b, c] := rfl
theorem zq0 (a b c d : D) : zpY (.ok [a, b, c, d]) = .ok [a, b, c, d] := rfl
theorem zq1 (a b c d e : D) : zpY (.ok [a, b, c, d, e]) = .ok [a, b, c, d, e] := rfl
theorem zq2 (a b c d e f : D) : zpY (.ok [a, b, c, d, e, f]) = .ok [a, b, c, d, e, f] := rfl
def zss (a : R (List D)) : R D := a.bind fun ds => .ok (.lst ds)
theorem zlq (fl : DSt → R (List D)) (σ : DSt) : zdF fl σ = zss (fl σ) := rfl
theorem zlr (ds : List D) : zss (.ok ds) = .ok (.lst ds) := rfl
def zup (a : R D) : R Bool := a.bind asB
theorem zjN (f : DSt → R D) (σ : DSt) : zaO f σ = zup (f σ) := rfl
theorem zls (b : Bool) : zup (.ok (.bl b)) = .ok b := rfl
def zvV (a : R Bool) (fb : DSt → R Bool) (σ : DSt) : R Bool := a.bind fun k => bif k then fb σ else .ok false
theorem zlt (fa fb : DSt → R Bool) (σ : DSt) : zsT fa fb σ = zvV (fa σ) fb σ := rfl
theorem zq3 (fb : DSt → R Bool) (σ : DSt) : zvV (.ok true) fb σ = fb σ := rfl
theorem zq4 (fb : DSt → R Bool) (σ : DSt) : zvV (.ok false) fb σ = .ok false := rfl
def orK (a : R Bool) (fb : DSt → R Bool) (σ : DSt) : R Bool := a.bind fun k => bif k then .ok true else fb σ
theorem znW (fa fb : DSt → R Bool) (σ : DSt) : eOr fa fb σ = orK (fa σ) fb σ := rfl
theorem zuq (fb : DSt → R Bool) (σ : DSt) : orK (.ok true) fb σ = .ok true := rfl
theorem zur (fb : DSt → R Bool) (σ : DSt) : orK (.ok false) fb σ = fb σ := rfl
def notK (a : R Bool) : R Bool := a.bind fun k => .ok (!k)
theorem zlu (fa : DSt → R Bool) (σ : DSt) : zks fa σ = notK (fa σ) := rfl
theorem znX (b : Bool) : notK (.ok b) = .ok (!b) := rfl
def zst (a : R D) (fb : DSt → R D) (σ : DSt) : R D := a.bind fun x => (asB x).bind fun k => bif k then fb σ else .ok (.bl false)
theorem zlv (fa fb : DSt → R D) (σ : DSt) : zqB fa fb σ = zst (fa σ) fb σ := rfl
theorem znY (fb : DSt → R D) (σ : DSt) : zst (.ok (.bl true)) fb σ = fb σ := rfl
theorem znZ (fb : DSt → R D) (σ : DSt) : zst (.ok (.bl false)) fb σ = .ok (.bl false) := rfl
def zvW (a : R D) (fb : DSt → R D) (σ : DSt) : R D := a.bind fun x => (asB x).bind fun k => bif k then .ok (.bl true) else fb σ
theorem zn0 (fa fb : DSt → R D) (σ : DSt) : vOr fa fb σ = zvW (fa σ) fb σ := rfl
theorem zq5 (fb : DSt → R D) (σ : DSt) : zvW (.ok (.bl true)) fb σ = .ok (.bl true) := rfl
theorem zq6 (fb : DSt → R D) (σ : DSt) : zvW (.ok (.bl false)) fb σ = fb σ := rfl
def zus (a : R D) : R D := a.bind fun x => (asB x).bind fun k => .ok (.bl !k)
theorem zlw (fa : DSt → R D) (σ : DSt) : zuR fa σ = zus (fa σ) := rfl
theorem zlx (b : Bool) : zus (.ok (.bl b)) = .ok (.bl !b) := rfl
def zvX (c : R Bool) (fa fb : DSt → R D) (σ : DSt) : R D := c.bind fun k => bif k then fa σ else fb σ
theorem zn1 (c : DSt → R Bool) (fa fb : DSt → R D) (σ : DSt) : eIf c fa fb σ = zvX (c σ) fa fb σ := rfl
theorem zq7 (fa fb : DSt → R D) (σ : DSt) : zvX (.ok true) fa fb σ = fa σ := rfl
theorem zq8 (fa fb : DSt → R D) (σ : DSt) : zvX (.ok false) fa fb σ = fb σ := rfl
def ifK (c : R Bool) (f g : DSt → R Out) (σ : DSt) : R Out := c.bind fun k => bif k then f σ else g σ
theorem zn2 (c : DSt → R Bool) (f g : DSt → R Out) (σ : DSt) : sIf c f g σ = ifK (c σ) f g σ := rfl
theorem zut (f g : DSt → R Out) (σ : DSt) : ifK (.ok true) f g σ = f σ := rfl
theorem zuu (f g : DSt → R Out) (σ : DSt) : ifK (.ok false) f g σ = g σ := rfl
def zq9 (g g' : D → D → R D) (a b c : R D) : R D := a.bind fun x => b.bind fun y => (g x y).bind fun z => (asB z).bind fun k => bif k then c.bind fun w => g' y w else .ok (.bl false)
theorem zh0 (g g' : D → D → R D) (fa fb fc : DSt → R D) (σ : DSt) : zjv g g' fa fb fc σ = zq9 g g' (fa σ) (fb σ) (fc σ) := rfl
theorem zh1 (p q : Int → Int → Bool) (i j k : Int) : zq9 (gB p) (gB q) (.ok (.int i)) (.ok (.int j)) (.ok (.int k)) = .ok (.bl (p i j && q j k)) := by
 show (bif p i j then R.ok (D.bl (q j k)) else R.ok (D.bl false)) = _
 cases p i j <;> rfl
def appK (i : Nat) (l : R (List D)) (a : R D) (σ : DSt) : R Out := l.bind fun ds => a.bind fun d => bif most ds.length then .ok (.nx (σ.set i (some (.lst (ds ++ [d]))))) else .bad
theorem zly (own : List Nat) (i : Nat) (fe : DSt → R D) (σ : DSt) : zsV own i fe σ = appK i (zgp σ i) (fe (mask own σ)) σ := rfl
theorem zlz {n : Nat} (h : n ≤ 1000000) : most n = true := decide_eq_true (Nat.lt_of_le_of_lt h (by decide))
theorem zgV (i : Nat) (ds : List D) (d : D) (σ : DSt) (h : ds.length ≤ 1000000) : appK i (.ok ds) (.ok d) σ = .ok (.nx (σ.set i (some (.lst (ds ++ [d]))))) := by
 show (bif most ds.length then _ else _) = _
 rw [zlz h]; rfl
def zuv (i : Nat) (l : R (List D)) (a : R D) (σ : DSt) : R Out := l.bind fun ds => a.bind fun d => bif most ds.length && imm d then .ok (.nx (σ.set i (some (.lst (ds ++ [d]))))) else .bad
theorem zjO (i : Nat) (fe : DSt → R D) (σ : DSt) : zvN i fe σ = zuv i (zgp σ i) (fe σ) σ := rfl
theorem zpZ (i : Nat) (ds : List D) (d : D) (σ : DSt) (h : ds.length ≤ 1000000) (h' : imm d = true) : zuv i (.ok ds) (.ok d) σ = .ok (.nx (σ.set i (some (.lst (ds ++ [d]))))) := by
 show (bif most ds.length && imm d then _ else _) = _
 rw [zlz h, h']; rfl
theorem zh2 (ds : List D) (σ : DSt) : zgp (some (.lst ds) :: σ) 0 = .ok ds := rfl
theorem zh3 (x : Option D) (σ : DSt) (n : Nat) : zgp (x :: σ) (n + 1) = zgp σ n := rfl
theorem zsu {i : Int} (h1 : -(10 ^ 100) ≤ i) (h2 : i ≤ 10 ^ 100) : zhA i = true := znE (n := 400) (B.of (k := 10 ^ 100) (by omega))
theorem zsv {i : Int} (h1 : -(10 ^ 100) ≤ i) (h2 : i ≤ 10 ^ 100) (h : i ≠ 0) : znF i = true := zkx (n := 400) (B.of (k := 10 ^ 100) (by omega)) h
def zvY (a : R D) : R Out := a.bind fun d => .ok (.rt d)
theorem zlA (fe : DSt → R D) (σ : DSt) : zcK fe σ = zvY (fe σ) := rfl
theorem zn3 (d : D) : zvY (.ok d) = .ok (.rt d) := rfl
theorem zlB (e : D) : zvY (.err e) = .err e := rfl
def zsw (a : R D) (σ : DSt) : R Out := a.bind fun _ => .ok (.nx σ)
theorem zjP (fe : DSt → R D) (σ : DSt) : znx fe σ = zsw (fe σ) σ := rfl
theorem zlC (d : D) (σ : DSt) : zsw (.ok d) σ = .ok (.nx σ) := rfl
theorem zjQ (e : D) (σ : DSt) : zsw (.err e) σ = .err e := rfl
def zuZ (i : Nat) (a : R D) (σ : DSt) : R Out := a.bind fun d => .ok (.nx (σ.set i (some d)))
theorem zjR (i : Nat) (fe : DSt → R D) (σ : DSt) : zaK i fe σ = zuZ i (fe σ) σ := rfl
theorem zlD (own : List Nat) (i : Nat) (fe : DSt → R D) (σ : DSt) : zkl own i fe σ = zuZ i (fe (mask own σ)) σ := rfl
theorem zn4 (i : Nat) (d : D) (σ : DSt) : zuZ i (.ok d) σ = .ok (.nx (σ.set i (some d))) := rfl
theorem zlE (i : Nat) (e : D) (σ : DSt) : zuZ i (.err e) σ = .err e := rfl
def zuw (i : Nat) (a : R D) (σ : DSt) : R Out := a.bind fun d => bif imm d then .ok (.nx (σ.set i (some d))) else .bad
theorem zn5 (i : Nat) (fe : DSt → R D) (σ : DSt) : zvL i fe σ = zuw i (fe σ) σ := rfl
theorem zp1 (i : Nat) (d : D) (σ : DSt) (h : imm d = true) : zuw i (.ok d) σ = .ok (.nx (σ.set i (some d))) := by
 show (bif imm d then _ else _) = _
 rw [h]; rfl
def newK (i : Nat) (a : R (List D)) (σ : DSt) : R Out := a.bind fun ds => .ok (.nx (σ.set i (some (.lst ds))))
theorem zlF (own : List Nat) (i : Nat) (fe : DSt → R (List D)) (σ : DSt) : zsU own i fe σ = newK i (fe (mask own σ)) σ := rfl
theorem zn6 (i : Nat) (ds : List D) (σ : DSt) : newK i (.ok ds) σ = .ok (.nx (σ.set i (some (.lst ds)))) := rfl
def zux (ks : List Nat) (gp : D → R (List D)) (a : R D) (σ : DSt) : R Out := a.bind fun d => (gp d).noerr.bind fun us => .ok (.nx (setAll σ ks us))
theorem zlG (own ks : List Nat) (gp : D → R (List D)) (fe : DSt → R D) (σ : DSt) : ztX own ks gp fe σ = zux ks gp (fe (mask own σ)) σ := rfl
theorem zn7 (i j : Nat) (a b : D) (σ : DSt) : zux [i, j] (zdE 2) (.ok (.tup [a, b])) σ = .ok (.nx ((σ.set i (some a)).set j (some b))) := rfl
theorem zn8 (i j : Nat) (a b : D) (σ : DSt) : zux [i, j] (zdE 2) (.ok (.lst [a, b])) σ = .ok (.nx ((σ.set i (some a)).set j (some b))) := rfl
theorem zn9 (i j k : Nat) (a b c : D) (σ : DSt) : zux [i, j, k] (zdE 3) (.ok (.tup [a, b, c])) σ = .ok (.nx (((σ.set i (some a)).set j (some b)).set k (some c))) := rfl
theorem zoa (i j k : Nat) (a b c : D) (σ : DSt) : zux [i, j, k] (zdE 3) (.ok (.lst [a, b, c])) σ = .ok (.nx (((σ.set i (some a)).set j (some b)).set k (some c))) := rfl
def parK (i j : Nat) (a : R (List D)) (σ : DSt) : R Out := a.bind fun ds => match ds with
 | [a, b] => .ok (.nx ((σ.set i (some a)).set j (some b)))
 | _ => .bad
theorem zlH (own : List Nat) (i j : Nat) (fs : DSt → R (List D)) (σ : DSt) : zuS own i j fs σ = parK i j (fs (mask own σ)) σ := rfl
theorem zob (i j : Nat) (a b : D) (σ : DSt) : parK i j (.ok [a, b]) σ = .ok (.nx ((σ.set i (some a)).set j (some b))) := rfl
def zra (c : Str) (a : R (List D)) : R Out := a.bind fun ds => bif few ds.length then .err (.exc c []) else .bad
theorem zh4 (c : Str) (fs : DSt → R (List D)) (σ : DSt) : zqK c fs σ = zra c (fs σ) := rfl
theorem zlI (c : Str) (a : D) : zra c (.ok [a]) = .err (.exc c []) := rfl
theorem zgW (c : Str) (σ : DSt) : zkz c σ = .err (.exc c []) := rfl
def zvZ (i : Nat) (c : Str) (r : R Out) (hnd : DSt → R Out) (σ : DSt) : R Out := match r with
 | .ok o => .ok o
 | .err (.exc cc as) => bif zju cc c == some true then (hnd (σ.set i (some (.exc cc as)))).noerr.bind fun o => match o with
   | .nx σ' => .ok (.nx (σ'.set i none))
   | _ => .bad
  else .bad
 | _ => .bad
theorem zlJ (i : Nat) (c : Str) (body hnd : DSt → R Out) (σ : DSt) : zuY i c body hnd σ = zvZ i c (body σ) hnd σ := rfl
theorem zoc (i : Nat) (c : Str) (o : Out) (hnd : DSt → R Out) (σ : DSt) : zvZ i c (.ok o) hnd σ = .ok o := rfl
def zuy (i : Nat) (r : R Out) : R Out := r.noerr.bind fun o => match o with
 | .nx σ' => .ok (.nx (σ'.set i none))
 | _ => .bad
theorem zlK (i : Nat) (σ : DSt) : zuy i (.ok (.nx σ)) = .ok (.nx (σ.set i none)) := rfl
theorem zp2 (i : Nat) (c cc : Str) (as : List D) (hnd : DSt → R Out) (σ : DSt) (h : zju cc c = some true) : zvZ i c (.err (.exc cc as)) hnd σ = zuy i (hnd (σ.set i (some (.exc cc as)))) := by
 show (bif zju cc c == some true then _ else _) = _
 rw [h]; rfl
theorem zrb (d : D) : fin (.ok (.rt d)) = .ok d := rfl
theorem zrc (σ : DSt) : fin (.ok (.nx σ)) = .ok .non := rfl
theorem zod (e : D) : fin (.err e) = .err e := rfl
theorem zoe (i j : Int) : zc2 (.int i) (.int j) = .ok (.int (i + j)) := rfl
theorem zof (i j : Int) : gSub (.int i) (.int j) = .ok (.int (i - j)) := rfl
theorem zap (i j : Int) (hi : zhA i = true) (hj : zhA j = true) : zbj (.int i) (.int j) = .ok (.int (i * j)) := by
 show (bif zhA i && zhA j then _ else _) = _
 rw [hi, hj]; rfl
theorem zjS (i j : Int) (h : znF j = true) (h0 : 0 < j) : zfi (.int i) (.int j) = .ok (.int (i / j)) := by
 show (bif znF j then R.ok (D.int (i.fdiv j)) else .bad) = _
 rw [h, Int.fdiv_eq_ediv_of_nonneg _ (Int.le_of_lt h0)]; rfl
theorem zbR (i j : Int) (h : znF j = true) : zfi (.int i) (.int j) = .ok (.int (i.fdiv j)) := by
 show (bif znF j then _ else _) = _
 rw [h]; rfl
theorem zaF (i j : Int) (h0 : 0 < j) : zfq (.int i) (.int j) = .ok (.int (i % j)) := by
 have : decide (j ≠ 0) = true := decide_eq_true (by omega)
 show (bif decide (j ≠ 0) then R.ok (D.int (i.fmod j)) else .bad) = _
 rw [this, Int.fmod_eq_emod_of_nonneg _ (Int.le_of_lt h0)]; rfl
theorem zsx (i j : Int) (h : zvO i j = true) : zsk (.int i) (.int j) = .ok (.int (i ^ j.toNat)) := by
 show (bif zvO i j then _ else _) = _
 rw [h]; rfl
theorem zsy (i j : Int) (h : 0 ≤ j) : gShr (.int i) (.int j) = .ok (.int (i / 2 ^ j.toNat)) := by
 show (bif decide (0 ≤ j) then _ else _) = _
 rw [decide_eq_true h]; rfl
theorem zrd (i : Int) : zqH (.int i) = .ok (.int (-i)) := rfl
theorem zre (i j : Int) : gLt (.int i) (.int j) = .ok (.bl (decide (i < j))) := rfl
theorem zrf (i j : Int) : gLe (.int i) (.int j) = .ok (.bl (decide (i ≤ j))) := rfl
theorem zrg (i j : Int) : gGt (.int i) (.int j) = .ok (.bl (decide (j < i))) := rfl
theorem zrh (i j : Int) : gGe (.int i) (.int j) = .ok (.bl (decide (j ≤ i))) := rfl
theorem zh5 {a b : D} (h : zmu a b = true) : gEq a b = .ok (.bl (eqD a b)) := by unfold gEq; rw [h]; rfl
theorem zlL {a b : D} (h : zmu a b = true) : gNe a b = .ok (.bl (!eqD a b)) := by unfold gNe; rw [h]; rfl
theorem zet (i j : Int) : eqD (.int i) (.int j) = decide (i = j) := by unfold eqD; rfl
theorem zri (i j : Int) : gEq (.int i) (.int j) = .ok (.bl (decide (i = j))) := by rw [zh5 rfl, zet]
theorem zrj (i j : Int) : gNe (.int i) (.int j) = .ok (.bl (!decide (i = j))) := by rw [zlL rfl, zet]
theorem zrk (i j : Bool) : gEq (.bl i) (.bl j) = .ok (.bl (i == j)) := by rw [zh5 rfl]; unfold eqD; rfl
theorem zrl (i j : Bool) : gNe (.bl i) (.bl j) = .ok (.bl (!(i == j))) := by rw [zlL rfl]; unfold eqD; rfl
abbrev t3 (x y z : Int) : D := .tup [.int x, .int y, .int z]
abbrev l3 (x y z : Int) : D := .lst [.int x, .int y, .int z]
theorem zgX : ∀ (ns ms : List Int), eqDs (ns.map D.int) (ms.map D.int) = decide (ns = ms)
 | [], [] => by unfold eqDs; rfl
 | [], _ :: _ => by unfold eqDs; rfl
 | _ :: _, [] => by unfold eqDs; rfl
 | n :: ns, m :: ms => by
  show eqDs (D.int n :: ns.map D.int) (D.int m :: ms.map D.int) = _
  unfold eqDs
  rw [zgX ns ms, zet, Bool.eq_iff_iff]
  simp
theorem zjT (a b c x y z : Int) : eqD (t3 a b c) (t3 x y z) = decide (a = x ∧ b = y ∧ c = z) := by
 have := zgX [a, b, c] [x, y, z]
 unfold eqD
 rw [show ([D.int a, .int b, .int c] : List D) = [a, b, c].map D.int from rfl, show ([D.int x, .int y, .int z] : List D) = [x, y, z].map D.int from rfl, this, Bool.eq_iff_iff]
 simp
theorem zuz (a b c x y z : Int) : eqD (l3 a b c) (l3 x y z) = decide (a = x ∧ b = y ∧ c = z) := by
 have := zjT a b c x y z
 unfold eqD at this ⊢
 exact this
theorem zrm (a b c x y z : Int) : gEq (t3 a b c) (t3 x y z) = .ok (.bl (decide (a = x ∧ b = y ∧ c = z))) := by rw [zh5 rfl, zjT]
theorem zrn (a b c x y z : Int) : gNe (t3 a b c) (t3 x y z) = .ok (.bl (!decide (a = x ∧ b = y ∧ c = z))) := by rw [zlL rfl, zjT]
theorem zro (a b c x y z : Int) : gEq (l3 a b c) (l3 x y z) = .ok (.bl (decide (a = x ∧ b = y ∧ c = z))) := by rw [zh5 rfl, zuz]
theorem zrp (a b : Bool) : gIs (.bl a) (.bl b) = .ok (.bl (a == b)) := rfl
theorem zog (a b : Bool) : gIsn (.bl a) (.bl b) = .ok (.bl (a != b)) := rfl
theorem zoh (d : D) : gIs d .non = .ok (.bl (zmv d)) := by cases d <;> rfl
theorem zlM (d : D) : gIsn d .non = .ok (.bl (!zmv d)) := by cases d <;> rfl
theorem zlN (a b c : D) : gIx (.tup [a, b, c]) (.int 0) = .ok a := rfl
theorem zlO (a b c : D) : gIx (.tup [a, b, c]) (.int 1) = .ok b := rfl
theorem zlP (a b c : D) : gIx (.tup [a, b, c]) (.int 2) = .ok c := rfl
theorem zlQ (a b c : D) : gIx (.lst [a, b, c]) (.int 0) = .ok a := rfl
theorem zlR (a b c : D) : gIx (.lst [a, b, c]) (.int 1) = .ok b := rfl
theorem zlS (a b c : D) : gIx (.lst [a, b, c]) (.int 2) = .ok c := rfl
theorem zkA {xs : List D} {j : Nat} {d : D} (h : xs[j]? = some d) : gIx (.lst xs) (.int (j : Int)) = .ok d := by
 show (match atI xs (j : Int) with | some d => R.ok d | none => .bad) = _
 rw [zrV h]
theorem zp3 (xs : List D) (d : D) : gIx (.lst (xs ++ [d])) (.int (-1)) = .ok d := by
 show (match atI (xs ++ [d]) (-1) with | some d => R.ok d | none => .bad) = _
 rw [zpk]
theorem zrq (xs : List D) : zi6 [.lst xs] = .ok (.int xs.length) := rfl
theorem zoi : zi6 [.tup []] = .ok (.int 0) := rfl
theorem zoj (a : D) : zi6 [.tup [a]] = .ok (.int 1) := rfl
theorem zok (a b : D) : zi6 [.tup [a, b]] = .ok (.int 2) := rfl
theorem zol (a b c : D) : zi6 [.tup [a, b, c]] = .ok (.int 3) := rfl
theorem zom (a b c d : D) : zi6 [.tup [a, b, c, d]] = .ok (.int 4) := rfl
theorem zrr (i : Int) : zpO [.int i] = .ok (.int (i.natAbs : Int)) := rfl
theorem zon (i j : Int) : gMin [.int i, .int j] = .ok (.int (min i j)) := rfl
theorem zoo (i j : Int) : zuV [.int i, .int j] = .ok (.int (max i j)) := rfl
theorem zrs (b : Bool) : gInt [.bl b] = .ok (.int (if b then 1 else 0)) := rfl
theorem zgY (i : Int) : g2 zfr [.int i, .ty "int"] = .ok (.bl true) := rfl
theorem zgb (i : Int) : g2 zfr [.int i, .ty "bool"] = .ok (.bl false) := rfl
theorem zgZ (i : Bool) : g2 zfr [.bl i, .ty "bool"] = .ok (.bl true) := rfl
theorem zh6 (i : Bool) : g2 zfr [.bl i, .ty "int"] = .ok (.bl true) := rfl
theorem zg0 (xs : List D) : g2 zfr [.tup xs, .ty "tuple"] = .ok (.bl true) := rfl
theorem zg1 (xs : List D) : g2 zfr [.lst xs, .ty "list"] = .ok (.bl true) := rfl
theorem zg2 (xs : List D) : g2 zfr [.lst xs, .ty "tuple"] = .ok (.bl false) := rfl
theorem zg3 (xs : List D) : g2 zfr [.tup xs, .ty "list"] = .ok (.bl false) := rfl
theorem zsz {c d : Str} {b : Bool} (h : zju c d = some b) : g2 zfr [.exc c [], .cls d] = .ok (.bl b) := by
 show (match zju c d with | some b => R.ok (D.bl b) | none => .bad) = _
 rw [h]
theorem zlT (c : Str) : g2 zfr [.exc c [], .ty "ValueError"] = .ok (.bl true) := rfl
theorem zrt (j : Int) (h : rOk j = true) : zgO [.int j] = .ok (znw 0 j.toNat) := by
 show (bif rOk j then _ else _) = _
 rw [h]; rfl
theorem zsA (i j : Int) (h : rOk i = true) (h' : rOk j = true) : rng2 [.int i, .int j] = .ok (znw i (j - i).toNat) := by
 show (bif rOk i && rOk j then _ else _) = _
 rw [h, h']; rfl
theorem zru {i : Int} (h : -1000000000 ≤ i) (h' : i ≤ 1000000000) : rOk i = true := by
 unfold rOk
 rw [Nat.blt_eq]
 omega
def zuA (g : List D → R (List D)) (a : R (List D)) : R (List D) := a.bind g
theorem zjU (g : List D → R (List D)) (fs : DSt → R (List D)) (σ : DSt) : zeq g fs σ = zuA g (fs σ) := (rfl)
theorem zlU (g : List D → R (List D)) (ds : List D) : zuA g (.ok ds) = g ds := (rfl)
def zsB (a : R D) : R (List D) := a.bind ztS
theorem zlV (f : DSt → R D) (σ : DSt) : zgN f σ = zsB (f σ) := rfl
theorem zop (xs : List D) : zsB (.ok (.tup xs)) = .ok xs := rfl
theorem zoq (xs : List D) : zsB (.ok (.lst xs)) = .ok xs := rfl
def forK (ks : List Nat) (gp : D → R (List D)) (fb : DSt → R Out) (a : R (List D)) (σ : DSt) : R Out := a.bind fun ds => zhz ks gp fb ds σ
theorem zlW (own ks : List Nat) (gp : D → R (List D)) (fi : DSt → R (List D)) (fb : DSt → R Out) (σ : DSt) : zkm own ks gp fi fb σ = forK ks gp fb (fi (mask own σ)) σ := rfl
theorem zor (ks : List Nat) (gp : D → R (List D)) (fb : DSt → R Out) (ds : List D) (σ : DSt) : forK ks gp fb (.ok ds) σ = zhz ks gp fb ds σ := rfl
def zkB (r : R Out) (k : DSt → R Out) : R Out := r.bind fun o => match o with
 | .nx σ' => k σ'
 | .ct σ' => k σ'
 | .bk σ' => .ok (.nx σ')
 | .rt d => .ok (.rt d)
 | .rf d => .ok (.rf d)
theorem ziP (σ : DSt) (k : DSt → R Out) : zkB (.ok (.nx σ)) k = k σ := rfl
theorem zlX (σ : DSt) (k : DSt → R Out) : zkB (.ok (.ct σ)) k = k σ := rfl
theorem zlY (σ : DSt) (k : DSt → R Out) : zkB (.ok (.bk σ)) k = .ok (.nx σ) := rfl
theorem zlZ (d : D) (k : DSt → R Out) : zkB (.ok (.rt d)) k = .ok (.rt d) := rfl
theorem zjV (d : D) (k : DSt → R Out) : zkB (.err d) k = .err d := rfl
theorem zl0 (ks : List Nat) (gp : D → R (List D)) (fb : DSt → R Out) (σ : DSt) : zhz ks gp fb [] σ = .ok (.nx σ) := rfl
theorem zd4 (i : Nat) (fb : DSt → R Out) (d : D) (ds : List D) (σ : DSt) : zhz [i] zaI fb (d :: ds) σ = zkB (fb (σ.set i (some d))) (zhz [i] zaI fb ds) := by
 show (fb (σ.set i (some d))).bind _ = _
 unfold zkB
 cases fb (σ.set i (some d)) with
 | ok o => cases o <;> rfl
 | err e => rfl
 | bad => rfl
theorem zl1 {i : Nat} {fb : DSt → R Out} (I : DSt → Prop) : ∀ (ds : List D), (∀ d ∈ ds, ∀ σ, I σ → ∃ σ', (fb (σ.set i (some d)) = .ok (.nx σ') ∨ fb (σ.set i (some d)) = .ok (.ct σ')) ∧ I σ') → ∀ σ, I σ → ∃ σ', zhz [i] zaI fb ds σ = .ok (.nx σ') ∧ I σ'
 | [], _, σ, h => ⟨σ, rfl, h⟩
 | d :: ds, hs, σ, h => by
  obtain ⟨σ1, h1, h2⟩ := hs d List.mem_cons_self σ h
  obtain ⟨σ2, h3, h4⟩ := zl1 I ds (fun d' hd => hs d' (List.mem_cons_of_mem _ hd)) σ1 h2
  refine ⟨σ2, ?_, h4⟩
  rw [zd4]
  rcases h1 with h1 | h1 <;> rw [h1]
  ·exact h3
  ·exact h3
theorem zl2 {i : Nat} {fb : DSt → R Out} (I : Nat → DSt → Prop) (ds : List D) (hs : ∀ (k : Nat) (d : D) (σ : DSt), ds[k]? = some d → I k σ → ∃ σ', (fb (σ.set i (some d)) = .ok (.nx σ') ∨ fb (σ.set i (some d)) = .ok (.ct σ')) ∧ I (k + 1) σ') (σ : DSt) (h : I 0 σ) : ∃ σ', zhz [i] zaI fb ds σ = .ok (.nx σ') ∧ I ds.length σ' := by
 have go : ∀ (ds : List D) (n : Nat), (∀ (k : Nat) (d : D) (σ : DSt), ds[k]? = some d → I (n + k) σ → ∃ σ', (fb (σ.set i (some d)) = .ok (.nx σ') ∨ fb (σ.set i (some d)) = .ok (.ct σ')) ∧ I (n + k + 1) σ') → ∀ σ, I n σ → ∃ σ', zhz [i] zaI fb ds σ = .ok (.nx σ') ∧ I (n + ds.length) σ' := by
  intro ds
  induction ds with
  | nil => intro n _ σ h; exact ⟨σ, rfl, h⟩
  | cons d ds ih =>
   intro n hs σ h
   obtain ⟨σ1, h1, h2⟩ := hs 0 d σ rfl h
   obtain ⟨σ2, h3, h4⟩ := ih (n + 1) (fun k d' σ hd hI => by
    have := hs (k + 1) d' σ (by simpa using hd) (by rw [show n + (k + 1) = n + 1 + k by omega]; exact hI)
    rw [show n + (k + 1) + 1 = n + 1 + k + 1 by omega] at this
    exact this) σ1 h2
   refine ⟨σ2, ?_, by rw [List.length_cons, show n + (ds.length + 1) = n + 1 + ds.length by omega]; exact h4⟩
   rw [zd4]
   rcases h1 with h1 | h1 <;> rw [h1]
   ·exact h3
   ·exact h3
 obtain ⟨σ', h1, h2⟩ := go ds 0 (fun k d σ hd hI => by
  rw [Nat.zero_add] at hI ⊢
  exact hs k d σ hd hI) σ h
 exact ⟨σ', h1, by rw [Nat.zero_add] at h2; exact h2⟩
theorem ziQ {c : DSt → R Bool} {fb : DSt → R Out} {σ σ' : DSt} (h : c σ = .ok true) (h' : fb σ = .ok (.nx σ')) : zbE c fb σ = zbE c fb σ' := by rw [zgQ, h]; show (fb σ).bind _ = _; rw [h']; rfl
theorem ziR {c : DSt → R Bool} {fb : DSt → R Out} {σ : DSt} (h : c σ = .ok false) : zbE c fb σ = .ok (.nx σ) := by rw [zgQ, h]; rfl
def lcK (k : Nat) (ks : List Nat) (a : R (List D)) (gp : D → R (List D)) (c : DSt → R Bool) (e : DSt → R D) (σ : DSt) : R (List D) := a.bind fun ds => bif most ds.length then (lcD ks gp c e (List.replicate k none ++ σ) ds).noerr else .bad
theorem zos (k : Nat) (ks : List Nat) (fi : DSt → R (List D)) (gp : D → R (List D)) (c : DSt → R Bool) (e : DSt → R D) (σ : DSt) : eLC k ks fi gp c e σ = lcK k ks (fi σ) gp c e σ := rfl
theorem zkC {n : Nat} (h : n ≤ 1000000) : most n = true := decide_eq_true (Nat.lt_of_le_of_lt h (by decide))
theorem zjW {ds : List D} {e : DSt → R D} {σ : DSt} {g : D → D} (hl : ds.length ≤ 1000000) (h : ∀ d ∈ ds, e (some d :: σ) = .ok (g d)) : lcK 1 [0] (.ok ds) zaI zbW e σ = .ok (ds.map g) := by
 have go : ∀ ds : List D, (∀ d ∈ ds, e (some d :: σ) = .ok (g d)) → lcD [0] zaI zbW e (List.replicate 1 none ++ σ) ds = .ok (ds.map g) := by
  intro ds
  induction ds with
  | nil => intro _; rfl
  | cons d ds ih =>
   intro h
   show (e (some d :: σ)).bind (fun y => (lcD [0] zaI zbW e (List.replicate 1 none ++ σ) ds).bind fun ys => .ok (y :: ys)) = _
   rw [h d List.mem_cons_self, ih fun d' hd => h d' (List.mem_cons_of_mem _ hd)]; rfl
 show (bif most ds.length then _ else _) = _
 rw [zkC hl, go ds h]; rfl
theorem zeu {ds : List D} {c : DSt → R Bool} {e : DSt → R D} {σ : DSt} {p : D → Bool} {g : D → D} (hl : ds.length ≤ 1000000) (hc : ∀ d ∈ ds, c (some d :: σ) = .ok (p d)) (h : ∀ d ∈ ds, p d = true → e (some d :: σ) = .ok (g d)) :
  lcK 1 [0] (.ok ds) zaI c e σ = .ok ((ds.filter p).map g) := by
 have go : ∀ ds : List D, (∀ d ∈ ds, c (some d :: σ) = .ok (p d)) → (∀ d ∈ ds, p d = true → e (some d :: σ) = .ok (g d)) → lcD [0] zaI c e (List.replicate 1 none ++ σ) ds = .ok ((ds.filter p).map g) := by
  intro ds
  induction ds with
  | nil => intro _ _; rfl
  | cons d ds ih =>
   intro hc h
   have ih' := ih (fun d' hd => hc d' (List.mem_cons_of_mem _ hd)) fun d' hd => h d' (List.mem_cons_of_mem _ hd)
   show (c (some d :: σ)).bind (fun k => bif k then (e (some d :: σ)).bind (fun y => (lcD [0] zaI c e (List.replicate 1 none ++ σ) ds).bind fun ys => .ok (y :: ys)) else lcD [0] zaI c e (List.replicate 1 none ++ σ) ds) = _
   rw [hc d List.mem_cons_self, ih']
   cases hp : p d with
   | true =>
    show (e (some d :: σ)).bind _ = _
    rw [h d List.mem_cons_self hp, List.filter_cons_of_pos hp]; rfl
   | false => rw [List.filter_cons_of_neg (by rw [hp]; exact Bool.false_ne_true)]; rfl
 show (bif most ds.length then _ else _) = _
 rw [zkC hl, go ds hc h]; rfl
end DL
end
section
set_option Elab.async false
set_option linter.all false
set_option maxRecDepth 100000
namespace DL
open PySem L2 PyProof.Rows
section
variable {X : Cx} {E : XK} {e : Expr} {te : TE} {pos : Pos}
variable {own ol : List Nat} {x : Str} {k : Expr} {fk fe : DSt → R D} {np tpos : Pos}
end
section
variable {X : Cx} {E : XK} {tg : Expr} {fs : DSt → R (List D)} {a b c : Expr} {p pos : Pos}
variable {own ol ks : List Nat} {iter : Expr} {body : List Stmt} {gp : D → R (List D)} {fi : DSt → R (List D)} {fb : DSt → R Out}
end
section
variable {X : Cx} {E : XK} {K : PySem.W.Frag} {mg : Str → Option Value} {p pos : Pos} {e : Expr} {es : List Expr} {fs : DSt → R (List D)}
end
end DL
end
section
set_option Elab.async false
set_option linter.all false
set_option maxRecDepth 100000
namespace DL
open PySem PySem.Spec PyProof.Rows L2
section
variable {X : Cx} {E : XK} {pos : Pos}
end
end DL
end
section
set_option Elab.async false
set_option linter.all false
set_option maxRecDepth 100000
namespace DL
open PySem L2 PyProof.Rows
section
variable {X : Cx}
end
section
variable {X : Cx} {E : XK} {own ol : List Nat} {e : Expr} {fe : DSt → R D} {x : Str} {pos : Pos}
end
end DL
end
section
set_option Elab.async false
set_option linter.all false
set_option maxRecDepth 100000
namespace DL
open PySem L2 PyProof.Rows
section
variable {X : Cx} {E : XK}
end
end DL
end
section
set_option Elab.async false
set_option linter.all false
set_option maxRecDepth 100000
namespace DL
open PySem L2 PyProof.Rows
section
variable {X : Cx} {E : XK} {K : PySem.W.Frag} {mg : Str → Option Value} {G H : Hp}
variable {x : Str} {p pos : Pos} {e : Expr} {es : List Expr} {fs : DSt → R (List D)}
end
end DL
end
section
set_option Elab.async false
set_option linter.all false
set_option maxRecDepth 100000
namespace DL
open PySem L2 PyProof.Rows
section
variable {X : Cx} {E : XK} {tg : Expr}
variable {a b : Expr} {fa fb : DSt → R D} {pos : Pos}
end
end DL
end
section
set_option Elab.async false
set_option linter.all false
set_option maxRecDepth 100000
namespace DL
open PySem L2 PyProof.Rows
section
variable {prog : Program} {w : World} {A : Around} {E : Value → Shared → Prop} {s : Shared}
theorem items_int {ks : List Int} {vs : List Value} (h : ItemsAre (intKind prog w) ks vs) : ∀ v ∈ vs, ∃ i t, v = .int i t := by
 induction h with
 | nil => intro v hv; cases hv
 | cons q _ ih =>
  intro v hv
  rcases List.mem_cons.mp hv with rfl | hv
  ·cases v with
   | int i t => exact ⟨i, t, rfl⟩
   | _ => cases q
  ·exact ih v hv
theorem zl3 {ks : List Int} {b : Addr} {Q : Bool → Shared → Prop} (hk : IsTupleKey (intKind prog w) s.heap ks b) (q : Q false s) : wpAny (model prog w) A (ofAClassStatement 8 (.ref b)) Q E s := by
 have ty := hk.typeIs
 obtain ⟨ob, its, m, g1, _, g2, g3⟩ := hk
 have hint := items_int g3
 unfold ofAClassStatement
 refine wpAny_bind (wpAny_typeOf ty ?_)
 refine wpAny_bind (wpAny_pure ?_)
 dsimp only
 rw [if_neg (by decide)]
 refine wpAny_bind (wpAny_seqItems g1 g2 ?_)
 dsimp only
 refine wpAny_bind ?_
 show wpAny _ _ (forIn its _ _) _ _ s
 rw [← Array.forIn_toList]
 refine wpAny_forIn_list _ (fun left r s1 => r.1 = none ∧ s1 = s ∧ ∀ v ∈ left, ∃ i t, v = Value.int i t) _ ?_ ?_ _ _ ⟨rfl, rfl, hint⟩
 ·rintro v left r s1 ⟨hr, rfl, all⟩
  obtain ⟨i, t, rfl⟩ := all v List.mem_cons_self
  refine wpAny_bind (wpAny_pure (a := false) ?_)
  rw [if_neg (by decide)]
  exact wpAny_pure ⟨rfl, rfl, fun u hu => all u (List.mem_cons_of_mem _ hu)⟩
 ·rintro ⟨r1, r2⟩ s1 ⟨hr, rfl, _⟩
  simp only at hr
  subst hr
  exact wpAny_pure q
theorem zot {ks : List Int} {b : Addr} {stored : List Value} {Q : Bool → Shared → Prop} (hk : IsTupleKey (intKind prog w) s.heap ks b) (hs : ∀ v ∈ stored, ∃ c ls, v = .ref c ∧ IsTupleKey (intKind prog w) s.heap ls c) (q : Q false s) : wpAny (model prog w) A (searchCouldBeSeen (.ref b) stored) Q E s := by
 unfold searchCouldBeSeen
 refine wpAny_bind ?_
 refine wpAny_forIn_list _ (fun left r s1 => r.1 = none ∧ s1 = s ∧ ∀ v ∈ left, ∃ c ls, v = Value.ref c ∧ IsTupleKey (intKind prog w) s.heap ls c) _ ?_ ?_ _ _ ⟨rfl, rfl, hs⟩
 ·rintro v left r s1 ⟨hr, rfl, all⟩
  obtain ⟨c, ls, rfl, hc⟩ := all v List.mem_cons_self
  have zcB : ∀ u ∈ left, ∃ c ls, u = Value.ref c ∧ IsTupleKey (intKind prog w) s1.heap ls c := fun u hu => all u (List.mem_cons_of_mem _ hu)
  dsimp only
  by_cases hv : (b == c || carriedByValue (.ref b) && carriedByValue (.ref c)) = true
  ·rw [if_pos hv]
   exact wpAny_pure ⟨rfl, rfl, zcB⟩
  ·rw [if_neg hv]
   refine wpAny_bind (wpAny_eqIsQuiet_tuple hk ?_)
   rw [if_neg (by decide)]
   refine wpAny_bind (wpAny_eqIsQuiet_tuple hc ?_)
   rw [if_neg (by decide)]
   refine wpAny_bind (zl3 hk ?_)
   rw [if_neg (by decide)]
   refine wpAny_bind (zl3 hc ?_)
   rw [if_neg (by decide)]
   exact wpAny_pure ⟨rfl, rfl, zcB⟩
 ·rintro ⟨r1, r2⟩ s1 ⟨hr, rfl, _⟩
  simp only at hr
  subst hr
  exact wpAny_pure q
theorem zsC {ks : List Int} {b : Addr} {Q : Bool → Shared → Prop} (hk : IsTupleKey (intKind prog w) s.heap ks b) (q : Q true s) : wpAny (model prog w) A (hashByValue 8 (.ref b)) Q E s := by
 have ty := hk.typeIs
 obtain ⟨ob, its, m, g1, _, g2, g3⟩ := hk
 have hint := items_int g3
 unfold hashByValue
 refine wpAny_bind (wpAny_specialOf ty PySem.F.slot_tuple_hash.lookup ?_)
 dsimp only
 refine wpAny_bind (wpAny_seqItems g1 g2 ?_)
 refine wpAny_bind ?_
 show wpAny _ _ (forIn its _ _) _ _ s
 rw [← Array.forIn_toList]
 refine wpAny_forIn_list _ (fun left r s1 => r.1 = none ∧ s1 = s ∧ ∀ v ∈ left, ∃ i t, v = Value.int i t) _ ?_ ?_ _ _ ⟨rfl, rfl, hint⟩
 ·rintro v left r s1 ⟨hr, rfl, all⟩
  obtain ⟨i, t, rfl⟩ := all v List.mem_cons_self
  refine wpAny_bind (wpAny_pure (a := true) ?_)
  rw [if_neg (by decide)]
  exact wpAny_pure ⟨rfl, rfl, fun u hu => all u (List.mem_cons_of_mem _ hu)⟩
 ·rintro ⟨r1, r2⟩ s1 ⟨hr, rfl, _⟩
  simp only at hr
  subst hr
  exact wpAny_pure q
structure TSet (prog : Program) (w : World) (h : Heap) (a : Addr) (o : Obj) (es : Array (Int × Value)) (ep : Nat) (t : SetTable) (kss : List (List Int)) : Prop where
 get : h.get? a = some o
 ex : o.ExactSet
 dat : o.data = .set es ep t
 dm : t.dummies = #[]
 pl : t.place.size = es.size
 msk : (t.mask = 7 ∧ es.size ≤ 4) ∨ (t.mask = 31 ∧ es.size ≤ 18)
 n : es.size = kss.length
 el : ∀ e ∈ es.toList, ∃ c ls, e.2 = .ref c ∧ IsTupleKey (intKind prog w) h ls c ∧ ls ∈ kss
variable {h : Heap} {a : Addr} {o : Obj} {es : Array (Int × Value)} {ep : Nat} {t : SetTable} {kss : List (List Int)}
theorem zh7 : ∀ (n : Nat) (p : SetTable.Probe), p.dummy = none → (SetT.iter t n p).dummy = none
 | 0, _, hp => hp
 | n + 1, p, hp => zh7 n (t.advance p) (by rw [SetT.adv_dummy]; exact hp)
theorem zfk {h' : Heap} (sb : Heap.SameBut a h h') (g : h.get? a = some o) (dd : o.data = .set es ep t) {ls : List Int} {c : Addr} (hk : IsTupleKey (intKind prog w) h ls c) : IsTupleKey (intKind prog w) h' ls c := by
 obtain ⟨ob, its, m, g1, g2, g3, g4⟩ := hk
 have ne : c ≠ a := fun z => by
  subst z
  rw [g] at g1
  cases g1
  rw [dd] at g3
  cases g3
 exact ⟨ob, its, m, (sb.2 c ne).trans g1, g2, g3, g4⟩
theorem zjX {es' : Array (Int × Value)} {t' : SetTable} (g : h.get? a = some o) (dd : o.data = .set es ep t) : (h.update a (Obj.putSet es' t')).get? a = some { o with data := .set es' (ep + 1) t' } := by
 have := Heap.get?_update_self (Obj.putSet es' t') g (by rw [putSet_of es' t' dd]; rfl)
 rw [putSet_of es' t' dd] at this
 exact this
theorem zfx {α : Type} (xs : Array α) (p : Nat) (x : α) : (SetTable.insertAt xs p x).size = xs.size + 1 := by
 have := (SetTable.insertAt_perm xs p x).length_eq
 rw [Array.length_toList, Array.length_toList, Array.size_push] at this
 exact this
theorem zjY {α : Type} {xs : Array α} {p : Nat} {x y : α} (hy : y ∈ (SetTable.insertAt xs p x).toList) : y = x ∨ y ∈ xs.toList := by
 have := (SetTable.insertAt_perm xs p x).mem_iff.mp hy
 rw [Array.toList_push] at this
 rcases List.mem_append.mp this with z | z
 ·exact .inr z
 ·exact .inl (List.mem_singleton.mp z)
end
end DL
end
section
set_option Elab.async false
set_option linter.all false
set_option maxRecDepth 100000
namespace DL
open PySem L2 PyProof.Rows
section
variable {prog : Program} {w : World} {A : Around} {h h' : Heap} {it l z : Addr} {items : Array Value}
theorem zg4 (kp : ∀ b u, b ∉ [it] → h.get? b = some u → h'.get? b = some u) {i : Nat} (hi : h.IsListIter it l i) {ls : List Int} {c : Addr} (hk : IsTupleKey (intKind prog w) h ls c) : IsTupleKey (intKind prog w) h' ls c := by
 obtain ⟨ob, its, m, g1, g2, g3, g4⟩ := hk
 obtain ⟨oi, e1, e2, _⟩ := hi
 have ne : c ∉ [it] := fun q => by
  rw [List.mem_singleton] at q
  subst q
  rw [g1] at e1
  cases e1
  rw [g2] at e2
  exact absurd e2 (by decide)
 exact ⟨ob, its, m, kp c _ ne g1, g2, g3, g4⟩
abbrev zev (led : Bool) : Obj := { cls := .type "set", dict := none, data := .set #[] 0 (.fresh 0 0 led) }
end
end DL
end
section
set_option Elab.async false
set_option linter.all false
set_option maxRecDepth 100000
namespace DL
open PySem L2 PyProof.Rows
section
variable {X : Cx} {E : XK}
def zu0 (a : Addr) (n : Nat) : Heap → Prop := fun h => ∃ o es ep t, h.get? a = some o ∧ o.ExactSet ∧ o.data = .set es ep t ∧ SetTable.fits t es.size = true ∧ es.size = n
def zc6 (K : PySem.W.Frag) (H : Hp) : List V → List (List Int) → Prop
 | [], [] => True
 | v :: vs, ks :: kss => (∃ b, v = .ref b ∧ SqT K H b (ks.map V.int)) ∧ zc6 K H vs kss
 | _, _ => False
theorem zc6.length {K : PySem.W.Frag} {H : Hp} : ∀ {vs : List V} {kss : List (List Int)}, zc6 K H vs kss → vs.length = kss.length
 | [], [], _ => rfl
 | _ :: _, _ :: _, ⟨_, t⟩ => by rw [List.length_cons, List.length_cons, zc6.length t]
 | [], _ :: _, h => h.elim
 | _ :: _, [], h => h.elim
theorem zl4 : ∀ {ks : List Int} {us : List Value}, zca (ks.map V.int) us → ItemsAre (intKind X.prog X.w) ks us
 | [], _, h => by cases h; exact .nil
 | k :: ks, _, h => by
  cases h with
  | cons q t =>
   obtain ⟨tk, rfl⟩ := q
   exact .cons (intKind_is _ _ _ _) (zl4 t)
theorem zou {pins : List (Addr × Obj)} {σ : L2.St} {H : Hp} {s : Shared} (I : Inv X pins σ H s) : ∀ {vs : List V} {kss : List (List Int)} {us : List Value}, zc6 X.K H vs kss → zca vs us → ∀ j, j < us.length → ∃ b, us[j]? = some (.ref b) ∧ IsTupleKey (intKind X.prog X.w) s.heap (kss.getD j []) b
 | [], [], _, _, h, j, hj => by cases h; cases hj
 | v :: vs, ks :: kss, _, ⟨⟨b, e1, e2⟩, t⟩, h, j, hj => by
  cases h with
  | cons q r =>
   subst e1
   cases q
   cases j with
   | zero =>
    obtain ⟨its, rv, ⟨ob, g1, g2, n, g3⟩, _⟩ := I.tuple e2
    exact ⟨b, rfl, ob, its.toArray, n, g1, g2, g3, by rw [List.toList_toArray]; exact zl4 rv⟩
   | succ j =>
    obtain ⟨c, c1, c2⟩ := zou I t r j (by simpa using hj)
    exact ⟨c, c1, c2⟩
 | [], _ :: _, _, h, _, _, _ => h.elim
 | _ :: _, [], _, h, _, _, _ => h.elim
def zv0 : List V → Hp → VK → Prop := fun xs H Q => ∃ (a : Addr) (n : Nat), xs = [.ref a] ∧ H a = some (.ext (zu0 a n)) ∧ n ≤ 1000 ∧ Q (.int n) H
theorem zov : zde X (.builtin "len") zv0 := by
 intro pins s σ H xs us Q I rs h
 obtain ⟨a, n, rfl, hq, hn, q⟩ := h
 obtain ⟨u, rfl, rx⟩ := ziv rs
 cases rx
 obtain ⟨⟨o, es, ep, t, g1, g2, g3, g4, g5⟩, _⟩ := (show zd0 X.prog X.w H s.heap a (.ext (zu0 a n)) from I.hok a _ hq)
 exact call_len_set g1 g2 g3 g4 (by omega) ⟨.int n, H, I.tok _, ⟨s.toks + 1, by rw [g5]⟩, q⟩
def zb3 : List D → Option (List (List Int))
 | [] => some []
 | .tup xs :: ds => match zga xs with
  | some ks => (zb3 ds).map (ks :: ·)
  | none => none
 | _ => none
theorem zjZ {K : PySem.W.Frag} {mg : Str → Option Value} {G : Hp} : ∀ {ds : List D} {kss : List (List Int)} {vs : List V}, zb3 ds = some kss → Reps K mg G ds vs → zc6 K G vs kss
 | [], _, _, h, r => by cases h; cases r; exact True.intro
 | .tup xs :: ds, _, _, h, ⟨v, t, e1, r1, r2⟩ => by
  subst e1
  cases hi : zga xs with
  | none => simp [zb3, hi] at h
  | some ks =>
   cases hd : zb3 ds with
   | none => simp [zb3, hi, hd] at h
   | some kss' =>
    simp [zb3, hi, hd] at h
    subst h
    obtain ⟨a, ws, rfl, q1, q2⟩ := r1
    rw [zgR hi] at q2
    rw [Reps.of_ints q2] at q1
    exact ⟨⟨a, rfl, q1⟩, zjZ hd r2⟩
 | .non :: _, _, _, h, _ => by simp [zb3] at h
 | .bl _ :: _, _, _, h, _ => by simp [zb3] at h
 | .int _ :: _, _, _, h, _ => by simp [zb3] at h
 | .str _ :: _, _, _, h, _ => by simp [zb3] at h
 | .ty _ :: _, _, _, h, _ => by simp [zb3] at h
 | .cls _ :: _, _, _, h, _ => by simp [zb3] at h
 | .lst _ :: _, _, _, h, _ => by simp [zb3] at h
 | .dct _ _ :: _, _, _, h, _ => by simp [zb3] at h
 | .exc _ _ :: _, _, _, h, _ => by simp [zb3] at h
theorem zc6.mono {K : PySem.W.Frag} {G H : Hp} (e : zaP G H) : ∀ {vs : List V} {kss : List (List Int)}, zc6 K G vs kss → zc6 K H vs kss
 | [], [], _ => True.intro
 | _ :: _, _ :: _, ⟨⟨b, e1, e2⟩, t⟩ => ⟨⟨b, e1, zaP.sqT e e2⟩, zc6.mono e t⟩
 | [], _ :: _, h => h.elim
 | _ :: _, [], h => h.elim
end
end DL
end
section
set_option Elab.async false
set_option linter.all false
set_option maxRecDepth 100000
namespace L2
open PySem PyProof.Rows
section
variable {prog : Program} {w : World} {A : Around} {E : Value → Shared → Prop} {s : Shared}
theorem zrv {it t : Addr} {k : Nat} {its : Array Value} {x : Value} {Q : Value → Shared → Prop} (st : s.heap.IsTupleIter it t k) (ht : s.heap.IsTuple t its) (hx : its[k]? = some x)
  (q : ∀ g, g.IsTupleIter it t (k + 1) → Heap.SameBut it s.heap g → Q x { s with heap := g }) : wpAny (model prog w) A (Builtin.SmallTypes.nextOf (.ref it)) Q E s := by
 obtain ⟨o, eo, co, d⟩ := id st
 obtain ⟨l, el, _, n, dl⟩ := ht
 unfold Builtin.SmallTypes.nextOf
 apply wpAny_bind
 refine wpAny_callSpecial?_slot (name := "__next__") st.typeIs F.slot_tuple_iterator_next ?_
 refine wpAny_call_entry F.slot_tuple_iterator_next st.typeIs F.entry_tuple_iterator_next ?_ (F.args_tuple_iterator_next_1 _)
 show wpAny _ _ (field (.ref it) 0 >>= _) _ _ s
 apply wpAny_bind
 refine wpAny_field eo d (x := .ref t) rfl ?_
 show wpAny _ _ (if (Value.ref t == .none) = true then _ else _) _ _ s
 have nn : ¬ (Value.ref t == .none) = true := Bool.false_ne_true
 rw [if_neg nn]
 show wpAny _ _ (field (.ref it) 1 >>= _) _ _ s
 apply wpAny_bind
 refine wpAny_field eo d (x := .int k 0) rfl ?_
 show wpAny _ _ (seqItems? (.ref t) >>= _) _ _ s
 apply wpAny_bind
 refine wpAny_seqItems el dl ?_
 simp only [hx, Int.toNat_natCast]
 apply wpAny_bind
 refine wpAny_setField eo d (by simp) (wpAny_pure ⟨x, rfl, wpAny_pure (q _ ⟨_, Heap.get?_update_self _ eo (Obj.isFreed_of_fields (Obj.data_mapFields d _)), (Obj.cls_mapFields ..).trans co, ?_⟩ (.update ..))⟩)
 rw [Obj.data_mapFields d]; simp [rawInt]
theorem zmw {it t : Addr} {k : Nat} {its : Array Value} {Q : Value → Shared → Prop} (hh : A.handled = none) (st : s.heap.IsTupleIter it t k) (ht : s.heap.IsTuple t its) (hx : its[k]? = none)
  (q : ∀ g e, Heap.ExtBut it s.heap g → (∃ o, g.get? e = some o ∧ o.cls = .type "StopIteration") → E (.ref e) { s with heap := g }) : wpAny (model prog w) A (Builtin.SmallTypes.nextOf (.ref it)) Q E s := by
 obtain ⟨o, eo, co, d⟩ := id st
 obtain ⟨l, el, _, n, dl⟩ := ht
 unfold Builtin.SmallTypes.nextOf
 apply wpAny_bind
 refine wpAny_callSpecial?_slot (name := "__next__") st.typeIs F.slot_tuple_iterator_next ?_
 refine wpAny_call_entry F.slot_tuple_iterator_next st.typeIs F.entry_tuple_iterator_next ?_ (F.args_tuple_iterator_next_1 _)
 show wpAny _ _ (field (.ref it) 0 >>= _) _ _ s
 apply wpAny_bind
 refine wpAny_field eo d (x := .ref t) rfl ?_
 show wpAny _ _ (if (Value.ref t == .none) = true then _ else _) _ _ s
 have nn : ¬ (Value.ref t == .none) = true := Bool.false_ne_true
 rw [if_neg nn]
 show wpAny _ _ (field (.ref it) 1 >>= _) _ _ s
 apply wpAny_bind
 refine wpAny_field eo d (x := .int k 0) rfl ?_
 show wpAny _ _ (seqItems? (.ref t) >>= _) _ _ s
 apply wpAny_bind
 refine wpAny_seqItems el dl ?_
 simp only [hx, Int.toNat_natCast]
 apply wpAny_bind; apply wpAny_rule; apply wpAny_bind
 refine wpAny_setField eo d (by simp) ?_
 show wpAny _ _ (newExc (.type "StopIteration") [] >>= _) _ _ _
 apply wpAny_bind
 simp only [newExc, newTuple]
 apply wpAny_bind
 refine wpAny_newObj_type ?_ (by size_fits)
 apply wpAny_bind (m := firstArgMember _ _)
 refine wpAny_of_eq (a := Value.none) (by first | rfl | (simp only [firstArgMember]; rfl)) ?_
 refine wpAny_newObj_type ?_ (by size_fits)
 simp only [raiseNew]
 apply wpAny_bind
 refine wpAny_handled ?_
 first | rw [show A.in1.handled = none from hh] | rw [hh]
 exact wpAny_bind (wpAny_pure (wpAny_throw (q _ _ (((Heap.SameBut.update ..).extBut.push _).push _) ⟨_, Heap.get?_push_size _ rfl, rfl⟩)))
structure ZAt (h : Heap) (z TI TO i1 i2 t1 t2 : Addr) (k : Nat) (xs ys : Array Value) (f : Value) : Prop where
 z : IsZip h z TI TO f
 ti : IsPair h TI (.ref i1) (.ref i2)
 to : ∃ a b, IsPair h TO a b
 i1 : h.IsTupleIter i1 t1 k
 i2 : h.IsTupleIter i2 t2 k
 t1 : h.IsTuple t1 xs
 t2 : h.IsTuple t2 ys
theorem ZAt.next {z TI TO i1 i2 t1 t2 : Addr} {k : Nat} {xs ys : Array Value} {x y : Value} {Q : Value → Shared → Prop} (D : ZipApart z TI TO i1 i2 t1 t2) (Z : ZAt s.heap z TI TO i1 i2 t1 t2 k xs ys .none) (hx : xs[k]? = some x) (hy : ys[k]? = some y)
  (q : ∀ g, ZAt g z TI TO i1 i2 t1 t2 (k + 1) xs ys (rawInt s.heap.objs.size) → IsPair g s.heap.objs.size x y → g.objs.size = s.heap.objs.size + 1 → (∀ c o, c ≠ z → c ≠ TO → c ≠ i1 → c ≠ i2 → s.heap.get? c = some o → g.get? c = some o) → Q (.ref s.heap.objs.size) { s with heap := g }) :
  wpAny (model prog w) A (Builtin.«zip.__next__» ⟨[.ref z], []⟩) (fun fin s' => ∃ v, fin = .done (.ret v) ∧ Q v s') E s := by
 obtain ⟨a, b, hTO⟩ := Z.to
 show wpAny _ _ (field (.ref z) 2 >>= _) _ _ _
 apply wpAny_bind
 refine wpAny_field Z.z rfl (x := .bool false) rfl ?_
 show wpAny _ _ (field (.ref z) 3 >>= _) _ _ _
 apply wpAny_bind
 refine wpAny_field Z.z rfl (x := .ref TI) rfl ?_
 apply wpAny_bind
 refine wpAny_seqItems Z.ti rfl ?_
 show wpAny _ _ (Builtin.SmallTypes.ownedTupleIsFree (.ref z) >>= _) _ _ _
 apply wpAny_bind
 unfold Builtin.SmallTypes.ownedTupleIsFree
 apply wpAny_bind
 refine wpAny_field Z.z rfl (x := .none) rfl (wpAny_pure ?_)
 simp only [if_true]
 apply wpAny_bind; apply wpAny_rule; apply wpAny_bind
 refine wpAny_field Z.z rfl (x := .ref TO) rfl ?_
 apply wpAny_bind
 refine wpAny_setField_rec Z.z (by simp) fun g1 z1 s1 => ?_
 have z1 : IsZip g1 z TI TO .ellipsis := z1
 apply wpAny_bind
 simp only [List.zipIdx_cons, List.zipIdx_nil, List.forIn_cons, List.forIn_nil]
 apply wpAny_bind; apply wpAny_bind; apply wpAny_onRaise
 show wpAny _ _ (Builtin.SmallTypes.nextOf (.ref i1) >>= _) _ _ _
 apply wpAny_bind
 refine zrv (Z.i1.extBut s1.extBut D.i1z) (Z.t1.extBut s1.extBut D.l1z) hx fun g2 j2 s2 => wpAny_pure ?_
 have o2 : IsPair g2 TO a b := s2.extBut _ _ D.TOi1 (s1.extBut _ _ D.TOz hTO)
 apply wpAny_bind
 refine wpAny_seqItems o2 rfl ?_
 apply wpAny_bind
 refine wpAny_updateSeq_pair o2 fun g3 o3 s3 => ?_
 have o3 : IsPair g3 TO x b := o3
 apply wpAny_bind
 refine wpAny_letGo (wpAny_pure ?_)
 apply wpAny_bind; apply wpAny_bind; apply wpAny_onRaise
 show wpAny _ _ (Builtin.SmallTypes.nextOf (.ref i2) >>= _) _ _ _
 apply wpAny_bind
 have u3 : ∀ c o, c ≠ z → c ≠ TO → c ≠ i1 → s.heap.get? c = some o → g3.get? c = some o := fun c o n1 n2 n3 e => s3.extBut _ _ n2 (s2.extBut _ _ n3 (s1.extBut _ _ n1 e))
 refine zrv (Z.i2.at fun o e => u3 _ o D.i2z D.TOi2.symm D.i12.symm e) (Z.t2.at fun o e => u3 _ o D.l2z D.l2TO D.l2i1 e) hy fun g4 j4 s4 => wpAny_pure ?_
 have o4 : IsPair g4 TO x b := s4.extBut _ _ D.TOi2 o3
 apply wpAny_bind
 refine wpAny_seqItems o4 rfl ?_
 apply wpAny_bind
 refine wpAny_updateSeq_pair o4 fun g5 o5 s5 => ?_
 have o5 : IsPair g5 TO x y := o5
 apply wpAny_bind
 refine wpAny_letGo (wpAny_pure (wpAny_pure ?_))
 apply wpAny_bind
 refine wpAny_seqItems o5 rfl ?_
 apply wpAny_bind
 refine wpAny_newTuple ?_
 have sz : g5.objs.size = s.heap.objs.size := s5.1.trans (s4.1.trans (s3.1.trans (s2.1.trans s1.1)))
 have z5 : IsZip g5 z TI TO .ellipsis := s5.extBut _ _ D.TOz.symm (s4.extBut _ _ D.i2z.symm (s3.extBut _ _ D.TOz.symm (s2.extBut _ _ D.i1z.symm z1)))
 have u5 : ∀ c o, c ≠ z → c ≠ TO → c ≠ i1 → c ≠ i2 → s.heap.get? c = some o → g5.get? c = some o := fun c o n1 n2 n3 n4 e => s5.extBut _ _ n2 (s4.extBut _ _ n4 (u3 c o n1 n2 n3 e))
 have a5 : g5.IsTupleIter i1 t1 (k + 1) := j2.at fun o e => s5.extBut _ _ D.TOi1.symm (s4.extBut _ _ D.i12 (s3.extBut _ _ D.TOi1.symm e))
 have b5 : g5.IsTupleIter i2 t2 (k + 1) := j4.at fun o e => s5.extBut _ _ D.TOi2.symm e
 have lz : z < g5.objs.size := Heap.lt_size z5
 show wpAny _ _ (Builtin.SmallTypes.ownedTupleHandOut (.ref z) (.ref g5.objs.size) >>= _) _ _ _
 apply wpAny_bind
 unfold Builtin.SmallTypes.ownedTupleHandOut
 have z6 : IsZip (g5.push { cls := .type "tuple", data := .seq #[x, y] }) z TI TO .ellipsis := Heap.get?_push_of_some _ z5
 apply wpAny_bind
 refine wpAny_setField_rec z6 (by simp) fun g7 z7 s7 => ?_
 have z7 : IsZip g7 z TI TO (rawInt g5.objs.size) := z7
 refine wpAny_setField_rec z7 (by simp) fun g8 z8 s8 => ?_
 have z8 : IsZip g8 z TI TO (rawInt g5.objs.size) := z8
 have up : ∀ c o, c ≠ z → g5.get? c = some o → g8.get? c = some o := fun c o n e => s8.extBut _ _ n (s7.extBut _ _ n (Heap.get?_push_of_some _ e))
 have p8 : IsPair g8 g5.objs.size x y := s8.extBut _ _ (Nat.ne_of_gt lz) (s7.extBut _ _ (Nat.ne_of_gt lz) (Heap.get?_push_size _ rfl))
 have w8 : g8.objs.size = g5.objs.size + 1 := s8.1.trans (s7.1.trans (Heap.size_push ..))
 rw [sz] at z8 p8 w8
 refine wpAny_pure ⟨_, rfl, ?_⟩
 show Q (.ref g5.objs.size) _
 rw [sz]
 have nT : ∀ c o, s.heap.get? c = some o → c ≠ z → c ≠ TO → c ≠ i1 → c ≠ i2 → g8.get? c = some o := fun c o e n1 n2 n3 n4 => up c o n1 (u5 c o n1 n2 n3 n4 e)
 exact q g8 ⟨z8, nT _ _ Z.ti D.TIz D.TITO D.TIi1 D.TIi2, ⟨_, _, up _ _ D.TOz o5⟩, a5.at fun o e => up _ o D.i1z e, b5.at fun o e => up _ o D.i2z e, Z.t1.at fun o e => nT _ o e D.l1z D.l1TO D.l1i1 D.l1i2, Z.t2.at fun o e => nT _ o e D.l2z D.l2TO D.l2i1 D.l2i2⟩ p8 w8 fun c o n1 n2 n3 n4 e => nT c o e n1 n2 n3 n4
theorem ZAt.last {z TI TO i1 i2 t1 t2 : Addr} {k : Nat} {xs ys : Array Value} {Q : Fin → Shared → Prop} (hh : A.handled = none) (D : ZipApart z TI TO i1 i2 t1 t2) (Z : ZAt s.heap z TI TO i1 i2 t1 t2 k xs ys .none) (hx : xs[k]? = none)
  (q : ∀ g e, (∀ c o, c ≠ z → c ≠ TO → c ≠ i1 → c ≠ i2 → s.heap.get? c = some o → g.get? c = some o) → (∃ o, g.get? e = some o ∧ o.cls = .type "StopIteration") → E (.ref e) { s with heap := g }) :
  wpAny (model prog w) A (Builtin.«zip.__next__» ⟨[.ref z], []⟩) Q E s := by
 show wpAny _ _ (field (.ref z) 2 >>= _) _ _ _
 apply wpAny_bind
 refine wpAny_field Z.z rfl (x := .bool false) rfl ?_
 show wpAny _ _ (field (.ref z) 3 >>= _) _ _ _
 apply wpAny_bind
 refine wpAny_field Z.z rfl (x := .ref TI) rfl ?_
 apply wpAny_bind
 refine wpAny_seqItems Z.ti rfl ?_
 show wpAny _ _ (Builtin.SmallTypes.ownedTupleIsFree (.ref z) >>= _) _ _ _
 apply wpAny_bind
 unfold Builtin.SmallTypes.ownedTupleIsFree
 apply wpAny_bind
 refine wpAny_field Z.z rfl (x := .none) rfl (wpAny_pure ?_)
 simp only [if_true]
 apply wpAny_bind; apply wpAny_rule; apply wpAny_bind
 refine wpAny_field Z.z rfl (x := .ref TO) rfl ?_
 apply wpAny_bind
 refine wpAny_setField_rec Z.z (by simp) fun g1 z1 s1 => ?_
 have z1 : IsZip g1 z TI TO .ellipsis := z1
 apply wpAny_bind
 simp only [List.zipIdx_cons, List.zipIdx_nil, List.forIn_cons, List.forIn_nil]
 apply wpAny_bind; apply wpAny_bind; apply wpAny_onRaise
 show wpAny _ _ (Builtin.SmallTypes.nextOf (.ref i1) >>= _) _ _ _
 apply wpAny_bind
 refine zmw hh (Z.i1.extBut s1.extBut D.i1z) (Z.t1.extBut s1.extBut D.l1z) hx fun g2 e s2 he => ?_
 obtain ⟨o, eo, co⟩ := he
 have z2 : IsZip g2 z TI TO .ellipsis := s2 _ _ D.i1z.symm z1
 have ez : e ≠ z := fun w => by subst w; rw [z2] at eo; cases eo; simp at co
 refine wpAny_setField_rec z2 (by simp) fun g3 _ s3 => ?_
 exact q g3 e (fun c o n1 _ n3 _ w => s3.extBut _ _ n1 (s2 _ _ n3 (s1.extBut _ _ n1 w))) ⟨o, s3.extBut _ _ ez eo, co⟩
theorem zuB {z TI TO i1 i2 t1 t2 : Addr} {k : Nat} {xs ys : Array Value} {x y : Value} {Q : Option Value → Shared → Prop} (D : ZipApart z TI TO i1 i2 t1 t2) (Z : ZAt s.heap z TI TO i1 i2 t1 t2 k xs ys .none) (hx : xs[k]? = some x) (hy : ys[k]? = some y)
  (q : ∀ g, ZAt g z TI TO i1 i2 t1 t2 (k + 1) xs ys (rawInt s.heap.objs.size) → IsPair g s.heap.objs.size x y → g.objs.size = s.heap.objs.size + 1 → (∀ c o, c ≠ z → c ≠ TO → c ≠ i1 → c ≠ i2 → s.heap.get? c = some o → g.get? c = some o) → Q (some (.ref s.heap.objs.size)) { s with heap := g }) :
  wpAny (model prog w) A (pyNext (.ref z)) Q E s := by
 have T : s.TypeIs (.ref z) "zip" := ⟨_, Z.z, rfl⟩
 unfold pyNext
 apply wpAny_bind; apply wpAny_attempt
 refine wpAny_callSpecial?_slot (name := "__next__") T F.slot_zip_next ?_
 refine wpAny_call_entry F.slot_zip_next T F.entry_zip_next ?_ (F.args_zip_next_1 _)
 exact Z.next D hx hy fun g a1 a2 a3 a4 => wpAny_pure (q g a1 a2 a3 a4)
theorem zsD {z TI TO i1 i2 t1 t2 : Addr} {k : Nat} {xs ys : Array Value} {Q : Option Value → Shared → Prop} (hh : A.handled = none) (D : ZipApart z TI TO i1 i2 t1 t2) (Z : ZAt s.heap z TI TO i1 i2 t1 t2 k xs ys .none) (hx : xs[k]? = none)
  (q : ∀ g, (∀ c o, c ≠ z → c ≠ TO → c ≠ i1 → c ≠ i2 → s.heap.get? c = some o → g.get? c = some o) → Q none { s with heap := g }) : wpAny (model prog w) A (pyNext (.ref z)) Q E s := by
 have T : s.TypeIs (.ref z) "zip" := ⟨_, Z.z, rfl⟩
 unfold pyNext
 apply wpAny_bind; apply wpAny_attempt
 refine wpAny_callSpecial?_slot (name := "__next__") T F.slot_zip_next ?_
 refine wpAny_call_entry F.slot_zip_next T F.entry_zip_next ?_ (F.args_zip_next_1 _)
 refine Z.last hh D hx fun g e hk he => ?_
 obtain ⟨o, ho, hc⟩ := he
 apply wpAny_bind
 exact wpAny_isInstance (T := "StopIteration") (b := true) ⟨o, ho, hc⟩ isSubtype_stop (wpAny_pure (q _ hk))
def ti0 (t : Addr) : Obj := { cls := .type "tuple_iterator", data := .fields #[.ref t, .int 0 0] }
def tp2 (a b : Value) : Obj := { cls := .type "tuple", data := .seq #[a, b] }
def zp0 (TI TO : Addr) : Obj := { cls := .type "zip", data := .fields #[.none, .bool false, .bool false, .ref TI, .ref TO] }
def zpH (h : Heap) (t1 t2 : Addr) : Heap :=
 ((((h.push (ti0 t1)).push (ti0 t2)).push (tp2 (.ref h.objs.size) (.ref (h.push (ti0 t1)).objs.size))).push (tp2 .none .none)).push (zp0 ((h.push (ti0 t1)).push (ti0 t2)).objs.size (((h.push (ti0 t1)).push (ti0 t2)).push (tp2 (.ref h.objs.size) (.ref (h.push (ti0 t1)).objs.size))).objs.size)
theorem zmx (t1 t2 : Addr) (xs ys : Array Value) : Meets (Builtin.«zip.__new__» ⟨[.type "zip", .ref t1, .ref t2], []⟩) (fun _ R s => s.heap.IsTuple t1 xs ∧ s.heap.IsTuple t2 ys ∧
  R (.ok (.ret (.ref ((((s.heap.push (ti0 t1)).push (ti0 t2)).push (tp2 (.ref s.heap.objs.size) (.ref (s.heap.push (ti0 t1)).objs.size))).push (tp2 .none .none)).objs.size))) { s with heap := zpH s.heap t1 t2 }) :=
 .of_wp fun prog w A R s h => by
  obtain ⟨hp, g, d, tk, os⟩ := s; obtain ⟨h1, h2, h⟩ := h
  have sub := sub_zip
  have L1 : Heap.IsTuple (Shared.heap ⟨hp, g, d, tk, os⟩) t1 xs := h1
  have L2 : Heap.IsTuple (Shared.heap ⟨hp.push { cls := .type "tuple_iterator", data := .fields #[.ref t1, .int 0 0] }, g, d, tk, os⟩) t2 ys := h2.at fun o e => Heap.get?_push_of_some _ e
  wp_walk using wpAny_pyIter_tuple L1, wpAny_pyIter_tuple L2
  exact ⟨_, rfl, h⟩
theorem zow {t1 t2 : Addr} {xs ys : Array Value} {Q : Value → Shared → Prop} (h1 : s.heap.IsTuple t1 xs) (h2 : s.heap.IsTuple t2 ys)
  (q : ∀ g, ZAt g (s.heap.objs.size + 4) (s.heap.objs.size + 2) (s.heap.objs.size + 3) s.heap.objs.size (s.heap.objs.size + 1) t1 t2 0 xs ys .none → (∀ c o, s.heap.get? c = some o → g.get? c = some o) → Q (.ref (s.heap.objs.size + 4)) { s with heap := g }) :
  wpAny (model prog w) A (call (.type "zip") [.ref t1, .ref t2]) Q E s := by
 refine callType_new F.called_zip (by decide) (F.typeCall_zip_2 _ _) (F.newCall_zip_2 _ _) (fun obj => F.args_object_init_3 obj _ _) F.entry_zip_new (zmx t1 t2 xs ys) ⟨h1, h2, ?_⟩
 have a1 : (s.heap.push (ti0 t1)).objs.size = s.heap.objs.size + 1 := Heap.size_push ..
 have a2 : ((s.heap.push (ti0 t1)).push (ti0 t2)).objs.size = s.heap.objs.size + 2 := by rw [Heap.size_push, a1]
 have a3 : (((s.heap.push (ti0 t1)).push (ti0 t2)).push (tp2 (.ref s.heap.objs.size) (.ref (s.heap.push (ti0 t1)).objs.size))).objs.size = s.heap.objs.size + 3 := by rw [Heap.size_push, a2]
 have a4 : ((((s.heap.push (ti0 t1)).push (ti0 t2)).push (tp2 (.ref s.heap.objs.size) (.ref (s.heap.push (ti0 t1)).objs.size))).push (tp2 .none .none)).objs.size = s.heap.objs.size + 4 := by rw [Heap.size_push, a3]
 have k : ∀ c o, s.heap.get? c = some o → (zpH s.heap t1 t2).get? c = some o := fun c o e => Heap.get?_push_of_some _ (Heap.get?_push_of_some _ (Heap.get?_push_of_some _ (Heap.get?_push_of_some _ (Heap.get?_push_of_some _ e))))
 have b5 : (zpH s.heap t1 t2).get? (s.heap.objs.size + 4) = some (zp0 (s.heap.objs.size + 2) (s.heap.objs.size + 3)) := by
  unfold zpH; rw [a2, a3]; exact Heap.get?_push_at a4.symm rfl
 have b4 : (zpH s.heap t1 t2).get? (s.heap.objs.size + 3) = some (tp2 .none .none) := Heap.get?_push_of_some _ (Heap.get?_push_at a3.symm rfl)
 have b3 : (zpH s.heap t1 t2).get? (s.heap.objs.size + 2) = some (tp2 (.ref s.heap.objs.size) (.ref (s.heap.objs.size + 1))) := Heap.get?_push_of_some _ (Heap.get?_push_of_some _ (by rw [a1]; exact Heap.get?_push_at a2.symm rfl))
 have b2 : (zpH s.heap t1 t2).get? (s.heap.objs.size + 1) = some (ti0 t2) := Heap.get?_push_of_some _ (Heap.get?_push_of_some _ (Heap.get?_push_of_some _ (Heap.get?_push_at a1.symm rfl)))
 have b1 : (zpH s.heap t1 t2).get? s.heap.objs.size = some (ti0 t1) := Heap.get?_push_of_some _ (Heap.get?_push_of_some _ (Heap.get?_push_of_some _ (Heap.get?_push_of_some _ (Heap.get?_push_size _ rfl))))
 show _ ∧ _
 rw [a4]
 exact ⟨⟨_, b5, rfl⟩, q _ ⟨b5, b3, ⟨_, _, b4⟩, ⟨_, b1, rfl, rfl⟩, ⟨_, b2, rfl, rfl⟩, h1.at fun o e => k _ o e, h2.at fun o e => k _ o e⟩ k⟩
end
section
variable {X : Cx} {pins : List (Addr × Obj)} {σ : St} {H : Hp} {s : Shared} {h' : Heap}
theorem Inv.turnedL {t' : Nat} {ch : List Addr} (I : Inv X pins σ H s) (k : ∀ b o, b ∉ ch → s.heap.get? b = some o → h'.get? b = some o) (f : ∀ b ∈ ch, zmf X pins H b) : Inv X pins σ H { s with heap := h', toks := t' } := by
 have nit : ∀ b u, H b = some u → b ∉ ch := fun b u e z => by rw [(f b z).1] at e; cases e
 refine I.step (g' := s.gens) (d' := s.drawn) (ch := ch) (fun b hb => ?_) (fun b o _ _ hc e _ => k b o hc e) (fun b o _ _ hc e _ => ⟨o.slots, k b o hc e⟩) (fun _ _ _ _ n => n) (fun b o hc e => ⟨o, k b o hc e⟩) (fun _ _ e => e) (fun _ _ _ e => e) (fun b ps e => ⟨#[], by rw [e]; simp⟩) (fun m hm => ?_) (fun b u e => ?_) I.bare
 ·obtain ⟨_, f1, _, f3, f4, f5⟩ := f b hb
  exact ⟨f3, f1, f4, f5⟩
 ·obtain ⟨o, es, ep, ho, r⟩ := hm
  exact ⟨o, es, ep, k _ o (fun z => (f _ z).2.1 rfl) ho, r⟩
 ·refine (I.hok b u e).stay (fun c v hc q => k c v ?_ q) (fun _ q => q) fun _ _ q => q
  rcases hc with z | z
  ·rw [z]; exact nit b u e
  ·exact nit c _ z
end
def Itz (K : PySem.W.Frag) (a b : Addr) : It :=
 ⟨fun i H => ∃ xs ys x y, SqT K H a xs ∧ SqT K H b ys ∧ xs[i]? = some x ∧ ys[i]? = some y,
  fun i H v H' => ∃ T x y, v = .ref T ∧ H T = none ∧ H' = upd H T (.tup [x, y]) ∧ (∀ xs, SqT K H a xs → xs[i]? = some x) ∧ ∀ ys, SqT K H b ys → ys[i]? = some y,
  fun i H => ∃ xs ys, SqT K H a xs ∧ SqT K H b ys ∧ xs.length ≤ i⟩
structure ZT (z TI TO i1 i2 a b : Addr) (k : Nat) (h : Heap) : Prop where
 z : IsZip h z TI TO .none
 ti : IsPair h TI (.ref i1) (.ref i2)
 to : ∃ u v, IsPair h TO u v
 i1 : h.IsTupleIter i1 a k
 i2 : h.IsTupleIter i2 b k
theorem zp4 {P : Program} {w : World} {K : PySem.W.Frag} {es : List Expr} {ct : Nat} {ps : Pos} {z TI TO i1 i2 a b : Addr} (D : ZipApart z TI TO i1 i2 a b) : zrI P w K (.Tuple es ct ps) (Itz K a b) [z, TI, TO, i1, i2] z (ZT z TI TO i1 i2 a b) where
 mem := by simp
 obj := fun i h st c hc => by
  simp only [List.mem_cons, List.not_mem_nil, or_false] at hc
  rcases hc with rfl | rfl | rfl | rfl | rfl
  ·exact ⟨_, st.z, fun v q => by cases q⟩
  ·exact ⟨_, st.ti, fun v q => by cases q⟩
  ·obtain ⟨u, v, e⟩ := st.to
   exact ⟨_, e, fun v q => by cases q⟩
  ·obtain ⟨o, e, c, d⟩ := st.i1
   exact ⟨o, e, fun v q => by rw [d] at q; cases q⟩
  ·obtain ⟨o, e, c, d⟩ := st.i2
   exact ⟨o, e, fun v q => by rw [d] at q; cases q⟩
 keep := fun i h h' st k => by
  obtain ⟨u, v, e⟩ := st.to
  exact ⟨k _ (by simp) _ st.z, k _ (by simp) _ st.ti, ⟨u, v, k _ (by simp) _ e⟩, st.i1.at fun o e => k _ (by simp) o e, st.i2.at fun o e => k _ (by simp) o e⟩
 item := by
  intro X hP hw hK hc i pins s σ H E I hf st hg
  subst hP hw hK
  obtain ⟨xs, ys, x, y, h1, h2, hx, hy⟩ := hg
  obtain ⟨its, rv, p, _⟩ := I.tuple h1
  obtain ⟨jts, rw', p', _⟩ := I.tuple h2
  obtain ⟨u, hu, ru⟩ := rv.get hx
  obtain ⟨v, hv, rr⟩ := rw'.get hy
  have Z : ZAt s.heap z TI TO i1 i2 a b i its.toArray jts.toArray .none := ⟨st.z, st.ti, st.to, st.i1, st.i2, p, p'⟩
  refine zuB D Z (x := u) (y := v) (by simpa using hu) (by simpa using hv) fun g Zg pg sg kg => ⟨_, rfl, ?_⟩
  refine wpAny_letOwnedTupleGo_zip Zg.z fun g' zg sb => ?_
  have lz : z < s.heap.objs.size := Heap.lt_size st.z
  have I1 : Inv X pins σ (upd H s.heap.objs.size (.tup [x, y])) { s with heap := s.heap.push (tp2 u v), toks := s.toks } :=
   I.laid (fun _ _ q => Heap.get?_push_of_some _ q) (Nat.le_refl _) ⟨by show 2 ≤ sizeLine; decide, [u, v], .cons ru (.cons rr .nil), ⟨_, Heap.get?_push_size _ rfl, rfl, 0, rfl⟩⟩
  have fr : ∀ c ∈ [z, TI, TO, i1, i2], c ≠ s.heap.objs.size := fun c hc e => by
   simp only [List.mem_cons, List.not_mem_nil, or_false] at hc
   obtain ⟨u, v, eTO⟩ := st.to
   obtain ⟨o1, q1, _⟩ := st.i1
   obtain ⟨o2, q2, _⟩ := st.i2
   rcases hc with rfl | rfl | rfl | rfl | rfl
   ·exact Nat.ne_of_lt lz e
   ·exact Nat.ne_of_lt (Heap.lt_size st.ti) e
   ·exact Nat.ne_of_lt (Heap.lt_size eTO) e
   ·exact Nat.ne_of_lt (Heap.lt_size q1) e
   ·exact Nat.ne_of_lt (Heap.lt_size q2) e
  have I2 : Inv X pins σ (upd H s.heap.objs.size (.tup [x, y])) { s with heap := g', toks := s.toks } := by
   refine Inv.turnedL (s := { s with heap := s.heap.push (tp2 u v), toks := s.toks }) (h' := g') (t' := s.toks) (ch := [z, TI, TO, i1, i2]) I1 (fun c o hc e => ?_) fun c hc => ?_
   ·have cz : c ≠ z := fun q => hc (by simp [q])
    rcases Heap.get?_push_cases e with ⟨rfl, rfl⟩ | e
    ·exact sb.extBut _ _ cz pg
    ·exact sb.extBut _ _ cz (kg c o cz (fun q => hc (by simp [q])) (fun q => hc (by simp [q])) (fun q => hc (by simp [q])) e)
   ·exact ⟨by rw [zay (fr c hc)]; exact (hf c hc).1, (hf c hc).2⟩
  obtain ⟨u', v', eTO⟩ := Zg.to
  refine ⟨.ref s.heap.objs.size, _, I2, rfl, ⟨_, x, y, rfl, I.fresh, rfl, fun zs hz => by rw [I.tuple_inj hz h1]; exact hx, fun zs hz => by rw [I.tuple_inj hz h2]; exact hy⟩, ⟨zg, sb.extBut _ _ D.TIz Zg.ti, ⟨u', v', sb.extBut _ _ D.TOz eTO⟩, Zg.i1.at fun o e => sb.extBut _ _ D.i1z e, Zg.i2.at fun o e => sb.extBut _ _ D.i2z e⟩, fun c hc => by rw [zay (fr c hc)]; exact (hf c hc).1⟩
 done := by
  intro X hP hw hK hc i pins s σ H E I hf st hg
  subst hP hw hK
  obtain ⟨xs, ys, h1, h2, hx⟩ := hg
  obtain ⟨its, rv, p, _⟩ := I.tuple h1
  obtain ⟨jts, rw', p', _⟩ := I.tuple h2
  have Z : ZAt s.heap z TI TO i1 i2 a b i its.toArray jts.toArray .none := ⟨st.z, st.ti, st.to, st.i1, st.i2, p, p'⟩
  have hl := rv.length
  refine zsD (I.ok.hd hc) D Z (by simp; omega) fun g kg => ⟨rfl, I.turnedL (t' := s.toks) (ch := [z, TI, TO, i1, i2]) (fun c o hc e => ?_) hf⟩
  exact kg c o (fun q => hc (by simp [q])) (fun q => hc (by simp [q])) (fun q => hc (by simp [q])) (fun q => hc (by simp [q])) e
 self := fun _ _ _ _ _ st h => wpAny_pyIter_zip st.z h
end L2
end
section
set_option Elab.async false
set_option linter.all false
set_option maxRecDepth 100000
namespace DL
open PySem L2 PyProof.Rows
section
variable {X : Cx} {E : XK}
def zo8 (xs ys : List D) : List D := List.zipWith (fun x y => .tup [x, y]) xs ys
theorem zf1.zip {K : PySem.W.Frag} {mg : Str → Option Value} {G : Hp} {a b : Addr} {vs us : List V} {xs ys : List D} (h : SqT K G a vs) (h' : SqT K G b us) (r : Reps K mg G xs vs) (r' : Reps K mg G ys us) (hl : xs.length = ys.length) : zf1 K mg (Itz K a b) G (zo8 xs ys) := by
 have ln : (zo8 xs ys).length = vs.length := by unfold zo8; rw [List.length_zipWith, ← hl, Nat.min_self, r.length]
 refine ⟨fun H e => ⟨vs, us, zaP.sqT e h, zaP.sqT e h', by rw [ln]; exact Nat.le_refl _⟩, fun H i d e hd => ?_⟩
 obtain ⟨x, y, hx, hy, rfl⟩ : ∃ x y, xs[i]? = some x ∧ ys[i]? = some y ∧ d = .tup [x, y] := by
  unfold zo8 at hd
  rw [List.getElem?_zipWith] at hd
  cases ex : xs[i]? with
  | none => rw [ex] at hd; cases hd
  | some x =>
   cases ey : ys[i]? with
   | none => rw [ex, ey] at hd; cases hd
   | some y => rw [ex, ey] at hd; exact ⟨x, y, rfl, rfl, (Option.some.inj hd).symm⟩
 obtain ⟨v, hv, rv⟩ := r.get hx
 obtain ⟨u, hu, ru⟩ := r'.get hy
 refine ⟨⟨vs, us, v, u, zaP.sqT e h, zaP.sqT e h', hv, hu⟩, ?_⟩
 rintro _ H' ⟨T, v', u', rfl, hn, rfl, q1, q2⟩ G1 e1 e2
 have z1 := q1 _ (zaP.sqT e h)
 have z2 := q2 _ (zaP.sqT e h')
 rw [hv] at z1; cases z1
 rw [hu] at z2; cases z2
 have st := zbV.pub (o := .tup [v, u]) e2 hn
 exact ⟨upd G1 T (.tup [v, u]), st, T, [v, u], rfl, SqT.of zaA, .cons (rv.mono (e1.trans st.g)) (.cons (ru.mono (e1.trans st.g)) rfl)⟩
end
end DL
end
section
set_option Elab.async false
set_option linter.all false
set_option maxRecDepth 100000
namespace L2
open PySem PySem.Spec PyProof.Rows
variable {X : Cx}
end L2
namespace DL
open PySem PySem.Spec PyProof.Rows L2
variable {K : PySem.W.Frag} {mg : Str → Option Value} {X : Cx} {e : Expr} {es : List Expr} {p pos : Pos}
end DL
end
section
set_option Elab.async false
set_option linter.all false
set_option maxRecDepth 100000
namespace SetT
open PySem PySem.SetTable
theorem go_ok2 {t : SetTable} (hd : t.dummies = #[]) (hashAt : Nat → Int) (h : Int) : ∀ (k n : Nat) (p : Probe), p.dummy = none → t.slot (iter t k p).j = .empty → (∀ m, m < k → t.slot (iter t m p).j ≠ .empty) → k < n →
  SetTable.probe.go t hashAt h n p = some (.empty (iter t k p).j none) ∨ ∃ j i m, m < k ∧ SetTable.probe.go t hashAt h n p = some (.candidate j i (iter t (m + 1) p)) ∧ t.slot j = .live i ∧ t.place[i]? = some j := by
 intro k
 induction k with
 | zero =>
  intro n p hp he _ hn
  obtain ⟨n, rfl⟩ : ∃ m, n = m + 1 := ⟨n - 1, by omega⟩
  have he : t.slot p.j = .empty := he
  left
  unfold SetTable.probe.go
  rw [he, hp]; rfl
 | succ k ih =>
  intro n p hp he hb hn
  obtain ⟨n, rfl⟩ : ∃ m, n = m + 1 := ⟨n - 1, by omega⟩
  rcases slot_cases hd p.j with e | ⟨i, e, hi⟩
  ·exact absurd e (hb 0 (by omega))
  ·by_cases hh : (hashAt i == h) = true
   ·refine .inr ⟨p.j, i, 0, by omega, ?_, e, hi⟩
    unfold SetTable.probe.go
    rw [e]
    simp only [hh, if_true]
    rfl
   ·rcases ih n (t.advance p) (by rw [adv_dummy]; exact hp) he (fun m hm => hb (m + 1) (by omega)) (by omega) with q | ⟨j, i', m, hm, q, q2, q3⟩
    ·left
     unfold SetTable.probe.go
     rw [e]
     simp only [hh, if_false]
     exact q
    ·refine .inr ⟨j, i', m + 1, by omega, ?_, q2, q3⟩
     unfold SetTable.probe.go
     rw [e]
     simp only [hh, if_false]
     exact q
theorem go_there {t : SetTable} (hd : t.dummies = #[]) (hashAt : Nat → Int) (h : Int) {i0 : Nat} (h0 : hashAt i0 = h) : ∀ (k n : Nat) (p : Probe), t.slot (iter t k p).j = .live i0 → (∀ m, m < k → t.slot (iter t m p).j ≠ .empty) → k < n →
  ∃ i m, m ≤ k ∧ SetTable.probe.go t hashAt h n p = some (.candidate (iter t m p).j i (iter t (m + 1) p)) ∧ t.slot (iter t m p).j = .live i ∧ t.place[i]? = some (iter t m p).j := by
 intro k
 induction k with
 | zero =>
  intro n p he _ hn
  obtain ⟨n, rfl⟩ : ∃ m, n = m + 1 := ⟨n - 1, by omega⟩
  have he : t.slot p.j = .live i0 := he
  refine ⟨i0, 0, by omega, ?_, he, ?_⟩
  ·unfold SetTable.probe.go
   rw [he]
   simp only [h0, beq_self_eq_true, if_true]
   rfl
  ·rcases slot_cases hd p.j with e | ⟨i, e, hi⟩
   ·rw [e] at he; cases he
   ·rw [e] at he; cases he; exact hi
 | succ k ih =>
  intro n p he hb hn
  obtain ⟨n, rfl⟩ : ∃ m, n = m + 1 := ⟨n - 1, by omega⟩
  rcases slot_cases hd p.j with e | ⟨i, e, hi⟩
  ·exact absurd e (hb 0 (by omega))
  ·by_cases hh : (hashAt i == h) = true
   ·refine ⟨i, 0, by omega, ?_, e, hi⟩
    unfold SetTable.probe.go
    rw [e]
    simp only [hh, if_true]
    rfl
   ·obtain ⟨i', m, hm, q, q2, q3⟩ := ih n (t.advance p) he (fun m hm => hb (m + 1) (by omega)) (by omega)
    refine ⟨i', m + 1, by omega, ?_, q2, q3⟩
    unfold SetTable.probe.go
    rw [e]
    simp only [hh, if_false]
    exact q
theorem zox {xs : Array Nat} (hs : xs.toList.Pairwise (· < ·)) {i k a b : Nat} (h : i < k) (ha : xs[i]? = some a) (hb : xs[k]? = some b) : a < b := by
 rw [← Array.getElem?_toList] at ha hb
 obtain ⟨h1, rfl⟩ := List.getElem?_eq_some_iff.mp ha
 obtain ⟨h2, rfl⟩ := List.getElem?_eq_some_iff.mp hb
 exact List.pairwise_iff_getElem.mp hs i k h1 h2 h
theorem zp5 {xs : Array Nat} {j : Nat} (hs : xs.toList.Pairwise (· < ·)) : ∀ (n lo hi : Nat), hi - lo ≤ n → lo ≤ hi → hi ≤ xs.size → (∀ i v, i < lo → xs[i]? = some v → v < j) → (∀ i v, hi ≤ i → xs[i]? = some v → j ≤ v) →
  SetTable.below.go xs j n lo hi ≤ xs.size ∧ (∀ i v, i < SetTable.below.go xs j n lo hi → xs[i]? = some v → v < j) ∧ (∀ i v, SetTable.below.go xs j n lo hi ≤ i → xs[i]? = some v → j ≤ v) := by
 intro n
 induction n with
 | zero =>
  intro lo hi h1 h2 h3 h4 h5
  unfold SetTable.below.go
  exact ⟨by omega, h4, fun i v hi' => h5 i v (by omega)⟩
 | succ n ih =>
  intro lo hi h1 h2 h3 h4 h5
  unfold SetTable.below.go
  by_cases hl : lo < hi
  ·rw [if_pos hl]
   simp only
   have hm : (lo + hi) / 2 < xs.size := by omega
   have hg : xs[(lo + hi) / 2]? = some xs[(lo + hi) / 2] := Array.getElem?_eq_getElem hm
   have hd : xs.getD ((lo + hi) / 2) j = xs[(lo + hi) / 2] := by rw [Array.getD_eq_getD_getElem?, hg]; rfl
   rw [hd]
   by_cases hx : xs[(lo + hi) / 2] < j
   ·rw [if_pos hx]
    refine ih _ _ (by omega) (by omega) h3 (fun i v hi' hv => ?_) h5
    by_cases e : i = (lo + hi) / 2
    ·subst e; rw [hg] at hv; cases hv; exact hx
    ·exact Nat.lt_trans (zox hs (show i < (lo + hi) / 2 by omega) hv hg) hx
   ·rw [if_neg hx]
    refine ih _ _ (by omega) (by omega) (by omega) h4 (fun i v hi' hv => ?_)
    by_cases e : i = (lo + hi) / 2
    ·subst e; rw [hg] at hv; cases hv; omega
    ·have := zox hs (show (lo + hi) / 2 < i by omega) hg hv
     omega
  ·rw [if_neg hl]
   exact ⟨by omega, h4, fun i v hi' => h5 i v (by omega)⟩
theorem below_ok {xs : Array Nat} (j : Nat) (hs : xs.toList.Pairwise (· < ·)) : below xs j ≤ xs.size ∧ (∀ i v, i < below xs j → xs[i]? = some v → v < j) ∧ (∀ i v, below xs j ≤ i → xs[i]? = some v → j ≤ v) :=
 zp5 hs xs.size 0 xs.size (by omega) (by omega) (by omega) (fun i v h => absurd h (by omega)) fun i v h hv => by
  have := (Array.getElem?_eq_some_iff.mp hv).1
  omega
theorem slot_live {t : SetTable} (hs : t.place.toList.Pairwise (· < ·)) {i j : Nat} (hp : t.place[i]? = some j) : t.slot j = .live i := by
 obtain ⟨b1, b2, b3⟩ := below_ok j hs
 have e : below t.place j = i := by
  by_cases h1 : i < below t.place j
  ·have := b2 i j h1 hp; omega
  ·by_cases h2 : below t.place j < i
   ·have hlt : below t.place j < t.place.size := by have := (Array.getElem?_eq_some_iff.mp hp).1; omega
    have hg : t.place[below t.place j]? = some t.place[below t.place j] := Array.getElem?_eq_getElem hlt
    have := b3 _ _ (Nat.le_refl _) hg
    have := zox hs h2 hg hp
    omega
   ·omega
 unfold slot
 simp only
 rw [e, hp, if_pos (beq_self_eq_true _)]
theorem put_srt {xs : Array Nat} {j : Nat} (hs : xs.toList.Pairwise (· < ·)) (hj : ∀ i : Nat, xs[i]? ≠ some j) : (insertAt xs (below xs j) j).toList.Pairwise (· < ·) := by
 obtain ⟨b1, b2, b3⟩ := below_ok j hs
 rw [toList_insertAt, List.pairwise_append]
 refine ⟨hs.sublist (List.take_sublist _ _), List.pairwise_cons.mpr ⟨fun x hx => ?_, hs.sublist (List.drop_sublist _ _)⟩, fun x hx y hy => ?_⟩
 ·obtain ⟨i, hi, rfl⟩ := List.getElem_of_mem hx
  have e : xs[below xs j + i]? = some (xs.toList.drop (below xs j))[i] := by
   rw [← Array.getElem?_toList, ← List.getElem?_drop, List.getElem?_eq_getElem hi]
  have := b3 _ _ (by omega) e
  have : (xs.toList.drop (below xs j))[i] ≠ j := fun z => hj _ (by rw [e, z])
  omega
 ·have hx' : x < j := by
   obtain ⟨i, hi, rfl⟩ := List.getElem_of_mem hx
   rw [List.length_take] at hi
   have e : xs[i]? = some (xs.toList.take (below xs j))[i] := by
    rw [← Array.getElem?_toList, List.getElem_take, List.getElem?_eq_getElem]
   exact b2 _ _ (by omega) e
  rcases List.mem_cons.mp hy with rfl | hy
  ·exact hx'
  ·obtain ⟨i, hi, rfl⟩ := List.getElem_of_mem hy
   have e : xs[below xs j + i]? = some (xs.toList.drop (below xs j))[i] := by
    rw [← Array.getElem?_toList, ← List.getElem?_drop, List.getElem?_eq_getElem hi]
   have := b3 _ _ (by omega) e
   omega
theorem zip_put {α β : Type} {as : Array α} {bs : Array β} {p : Nat} {x : α} {y : β} (hl : as.size = bs.size) (hp : p ≤ as.size) {z : α × β} : z ∈ (insertAt as p x).toList.zip (insertAt bs p y).toList ↔ z = (x, y) ∨ z ∈ as.toList.zip bs.toList := by
 rw [toList_insertAt, toList_insertAt, List.zip_append (by rw [List.length_take, List.length_take, Array.length_toList, Array.length_toList, hl]), List.zip_cons_cons, List.mem_append, List.mem_cons]
 have e : as.toList.zip bs.toList = (as.toList.take p).zip (bs.toList.take p) ++ (as.toList.drop p).zip (bs.toList.drop p) := by
  rw [← List.zip_append (by rw [List.length_take, List.length_take, Array.length_toList, Array.length_toList, hl]), List.take_append_drop, List.take_append_drop]
 rw [e, List.mem_append]
 constructor
 ·rintro (h | h | h)
  ·exact .inr (.inl h)
  ·exact .inl h
  ·exact .inr (.inr h)
 ·rintro (h | h | h)
  ·exact .inr (.inl h)
  ·exact .inl h
  ·exact .inr (.inr h)
theorem iter_mask {t t' : SetTable} (h : t'.mask = t.mask) : ∀ (k : Nat) (p : Probe), iter t' k p = iter t k p
 | 0, _ => rfl
 | k + 1, p => by
  show iter t' k (t'.advance p) = iter t k (t.advance p)
  have : t'.advance p = t.advance p := by unfold advance; rw [h]
  rw [this, iter_mask h k]
theorem start_mask {t t' : SetTable} (h : t'.mask = t.mask) (hh : Int) : t'.probeStart hh = t.probeStart hh := by unfold probeStart; rw [h]
theorem first_empty {t : SetTable} (p : Probe) {k : Nat} (h : t.slot (iter t k p).j = .empty) : ∃ k0, k0 ≤ k ∧ t.slot (iter t k0 p).j = .empty ∧ ∀ m, m < k0 → t.slot (iter t m p).j ≠ .empty := by
 induction k using Nat.strongRecOn with
 | _ k ih =>
  by_cases hx : ∃ m, m < k ∧ t.slot (iter t m p).j = .empty
  ·obtain ⟨m, h1, h2⟩ := hx
   obtain ⟨k0, a, b, c⟩ := ih m h1 h2
   exact ⟨k0, by omega, b, c⟩
  ·exact ⟨k, Nat.le_refl _, h, fun m hm e => hx ⟨m, hm, e⟩⟩
theorem relaid_found (t : SetTable) (hashes : Array Int) {n : Nat} (hn : hashes.size = n) (h : n ≤ 32) : ∃ t' order, t.relaid hashes 20 = some (t', order) ∧ t'.mask = 31 ∧ t'.dummies = #[] ∧ t'.place.size = n ∧ order.size = n ∧ (∀ k ∈ order.toList, k < n) ∧ t'.place.toList.Pairwise (· < ·) ∧
  ∀ c, c < n → ∃ (i j m : Nat), order[i]? = some c ∧ t'.place[i]? = some j ∧ m < 10 * turns t'.mask ∧ (iter t' m (t'.probeStart (hashes.getD c 0))).j = j ∧ ∀ m', m' < m → t'.slot (iter t' m' (t'.probeStart (hashes.getD c 0))).j ≠ .empty := by
 obtain ⟨t', order, r1, r2, r3, r4, r5, r6⟩ := znl t hashes hn h
 refine ⟨t', order, r1, r2, r3, r4, r5, r6, ?_⟩
 have e0 : sizeAbove 20 - 1 = 31 := by decide
 unfold relaid at r1
 rw [e0] at r1
 unfold laid at r1
 cases hl : layClean 31 hashes with
 | none => rw [hl] at r1; cases r1
 | some o =>
  rw [hl] at r1
  have r1 := Option.some.inj r1
  have rt := (congrArg Prod.fst r1).symm
  have ro := (congrArg Prod.snd r1).symm
  simp only at rt ro
  have pl : t'.place = (((List.range 32).filterMap fun j => (o.getD j none).map (j, ·)).map (·.1)).toArray := by rw [rt]
  have srt : t'.place.toList.Pairwise (· < ·) := by
   rw [pl, List.toList_toArray]
   exact znn _ _ List.pairwise_lt_range
  refine ⟨srt, ?_⟩
  unfold layClean at hl
  rw [← Array.foldl_toList] at hl
  obtain ⟨⟨o', k'⟩, hl1, hl2⟩ := Option.map_eq_some_iff.mp hl
  have hl2 : o' = o := hl2
  subst hl2
  have m0 : ∀ P : Nat → Prop, P 31 → P t'.mask := fun P hP => by rw [r2]; exact hP
  obtain ⟨os, L⟩ := zjt (t := t') (fun c => hashes.getD c 0) hashes.toList (Array.replicate 32 none) o' 0 k' (by rw [r2]; simp) (fun i hi => by
   rw [Nat.zero_add, Array.getD_eq_getD_getElem?, Array.getElem?_toList]
   rw [Array.length_toList] at hi
   rw [Array.getElem?_eq_getElem hi]; rfl) (fun c hc => absurd hc (by omega)) (by rw [r2]; exact hl1)
  rw [Nat.zero_add, Array.length_toList, hn] at L
  have tk : ∀ j, j ≤ t'.mask → (o'.getD j none).isSome = true → t'.slot j ≠ .empty := fun j hj hs => by
   obtain ⟨b, hb⟩ := Option.isSome_iff_exists.mp hs
   have := zqz (f := fun j => o'.getD j none) (l := List.range 32) (List.mem_range.mpr (by omega)) hb
   obtain ⟨i, hi, ei⟩ := List.getElem_of_mem this
   have : t'.place[i]? = some j := by
    rw [pl, List.getElem?_toArray, List.getElem?_map, List.getElem?_eq_getElem hi, ei]; rfl
   rw [slot_live srt this]
   exact fun z => by cases z
  intro c hc
  obtain ⟨j, j1, j2, m, m1, m2, m3⟩ := L c hc
  have := zqz (f := fun j => o'.getD j none) (l := List.range 32) (List.mem_range.mpr (by omega)) j2
  obtain ⟨i, hi, ei⟩ := List.getElem_of_mem this
  refine ⟨i, j, m, ?_, ?_, m1, m2, fun m' hm => tk _ (ziF _ _) (m3 m' hm)⟩
  ·rw [ro, List.getElem?_toArray, List.getElem?_map, List.getElem?_eq_getElem hi, ei]; rfl
  ·rw [pl, List.getElem?_toArray, List.getElem?_map, List.getElem?_eq_getElem hi, ei]; rfl
end SetT
namespace DL
open PySem L2 PyProof.Rows
section
variable {prog : Program} {w : World} {A : Around} {E : Value → Shared → Prop} {s : Shared}
structure zkD (prog : Program) (w : World) (h : Heap) (a : Addr) (o : Obj) (es : Array (Int × Value)) (ep : Nat) (t : SetTable) (kss : List (List Int)) : Prop where
 get : h.get? a = some o
 ex : o.ExactSet
 dat : o.data = .set es ep t
 dm : t.dummies = #[]
 pl : t.place.size = es.size
 msk : (t.mask = 7 ∧ es.size ≤ 4) ∨ (t.mask = 31 ∧ es.size ≤ 18)
 srt : t.place.toList.Pairwise (· < ·)
 n : es.size = kss.length
 el : ∀ e ∈ es.toList, ∃ c ls, e.2 = .ref c ∧ IsTupleKey (intKind prog w) h ls c ∧ ls ∈ kss
 all : ∀ ls ∈ kss, ∃ c j k, ((tupleKeyHash (intKind prog w) ls, Value.ref c), j) ∈ es.toList.zip t.place.toList ∧ IsTupleKey (intKind prog w) h ls c ∧ k < 10 * SetTable.turns t.mask ∧ (SetT.iter t k (t.probeStart (tupleKeyHash (intKind prog w) ls))).j = j ∧ ∀ m, m < k → t.slot (SetT.iter t m (t.probeStart (tupleKeyHash (intKind prog w) ls))).j ≠ .empty
variable {h : Heap} {a : Addr} {o : Obj} {es : Array (Int × Value)} {ep : Nat} {t : SetTable} {kss : List (List Int)}
theorem zkD.fits (S : zkD prog w h a o es ep t kss) : t.fits es.size = true := by
 unfold SetTable.fits SetTable.fill
 rw [S.pl, S.dm, Bool.and_eq_true, decide_eq_true_eq]
 refine ⟨beq_self_eq_true _, ?_⟩
 show es.size + 0 ≤ t.mask
 rcases S.msk with ⟨h1, h2⟩ | ⟨h1, h2⟩ <;> omega
theorem zkD.odd (S : zkD prog w h a o es ep t kss) : t.gaveWay = false := by
 unfold SetTable.gaveWay
 rcases S.msk with ⟨h1, h2⟩ | ⟨h1, h2⟩ <;> rw [h1] <;> rfl
theorem zp6 {ks : List Int} {b : Addr} {Q : SetFound → Shared → Prop} (S : zkD prog w s.heap a o es ep t kss) (hk : IsTupleKey (intKind prog w) s.heap ks b) (hu : A.units < cLine) (hh : Int) {i0 j0 : Nat} {c0 : Addr} (z1 : es[i0]? = some (hh, .ref c0)) (z2 : t.place[i0]? = some j0) (z3 : IsTupleKey (intKind prog w) s.heap ks c0) (q : Q (.there none) s) :
  ∀ (k fuel : Nat) (stand : Option SetTable.Probe), (SetT.iter t k (stand.getD (t.probeStart hh))).j = j0 → (∀ m, m < k → t.slot (SetT.iter t m (stand.getD (t.probeStart hh))).j ≠ .empty) → k < 10 * SetTable.turns t.mask → k < fuel → wpAny (model prog w) A (setSearchFrom a (.ref b) hh true fuel stand) Q E s := by
 intro k
 induction k using Nat.strongRecOn with
 | _ k ih =>
  intro fuel stand he hb hk1 hk2
  obtain ⟨f, rfl⟩ : ∃ f, fuel = f + 1 := ⟨fuel - 1, by omega⟩
  have l0 := SetT.slot_live S.srt z2
  unfold setSearchFrom
  refine wpAny_bind (wpAny_setState_of S.get S.dat S.fits ?_)
  dsimp only
  rw [S.odd, if_neg (by decide)]
  have key2 : ∀ ha X, ha i0 = hh → t.probe ha hh (stand.getD (t.probeStart hh)) = X → ∃ i m, m ≤ k ∧ X = some (.candidate (SetT.iter t m (stand.getD (t.probeStart hh))).j i (SetT.iter t (m + 1) (stand.getD (t.probeStart hh)))) ∧ t.slot (SetT.iter t m (stand.getD (t.probeStart hh))).j = .live i ∧ t.place[i]? = some (SetT.iter t m (stand.getD (t.probeStart hh))).j := fun ha X h0 z => by
   subst z
   exact SetT.go_there S.dm ha hh h0 k (10 * SetTable.turns t.mask) (stand.getD (t.probeStart hh)) (by rw [he]; exact l0) hb hk1
  generalize hX : t.probe _ hh (stand.getD (t.probeStart hh)) = X
  obtain ⟨i, m, hm, rfl, hl, hp⟩ := key2 _ _ (by show (Option.map (fun x => x.fst) es[i0]?).getD 0 = hh; rw [z1]; rfl) hX
  dsimp only
  have hi : i < es.size := by
   have := (Array.getElem?_eq_some_iff.mp hp).1
   rw [S.pl] at this
   exact this
  have pre : ∀ {mm : Sem SetFound}, wpAny (model prog w) A mm Q E s → wpAny (model prog w) A (if (!t.led) = true then do
    let l ← searchCouldBeSeen (Value.ref b) (List.map (fun x => x.snd) (Array.filter (fun x => x.fst == hh) es).toList)
    if l = true then do
     unsupported "set:the-search-would-show-the-table"
     mm
    else mm
   else mm) Q E s := by
   intro mm hmm
   by_cases hled : (!t.led) = true
   ·rw [if_pos hled]
    refine wpAny_bind (zot hk (fun v hv => ?_) ?_)
    ·obtain ⟨x, hx, rfl⟩ := List.mem_map.mp hv
     rw [Array.toList_filter] at hx
     obtain ⟨c, ls, h1, h2, _⟩ := S.el x (List.mem_filter.mp hx).1
     exact ⟨c, ls, h1, h2⟩
    ·rw [if_neg (by decide)]
     exact hmm
   ·rw [if_neg hled]
    exact hmm
  refine pre ?_
  by_cases ei : i = i0
  ·subst ei
   rw [z1]
   dsimp only
   refine wpAny_bind (wpAny_holding (wpAny_eqBool_tuple hu z3 hk ?_))
   rw [decide_eq_true rfl]
   refine wpAny_bind (wpAny_setState_of S.get S.dat S.fits ?_)
   dsimp only
   rw [if_pos (by decide)]
   exact wpAny_pure q
  ·have hmk : m < k := by
    refine Nat.lt_of_le_of_ne hm fun z => ei ?_
    rw [z, he, l0] at hl
    cases hl; rfl
   obtain ⟨c, ls, h1, h2, h3⟩ := S.el es[i] (by rw [← Array.getElem_toList]; exact List.getElem_mem _)
   have eqn : es[i]? = some (es[i].1, Value.ref c) := by rw [Array.getElem?_eq_getElem hi, ← h1]
   rw [eqn]
   dsimp only
   refine wpAny_bind (wpAny_holding (wpAny_eqBool_tuple hu h2 hk ?_))
   by_cases ek : ls = ks
   ·rw [decide_eq_true ek]
    refine wpAny_bind (wpAny_setState_of S.get S.dat S.fits ?_)
    dsimp only
    rw [if_pos (by decide)]
    exact wpAny_pure q
   ·rw [decide_eq_false ek]
    refine wpAny_bind (wpAny_setState_of S.get S.dat S.fits ?_)
    dsimp only
    rw [if_neg (by decide), show t.sameMemory t.moves t.mask = some true from by unfold SetTable.sameMemory; rw [if_pos (beq_self_eq_true _)]]
    dsimp only
    rw [if_pos rfl, hl]
    dsimp only
    rw [eqn]
    dsimp only
    refine wpAny_bind (wpAny_isSame_ref_self ?_)
    refine wpAny_bind (wpAny_pure ?_)
    rw [if_pos rfl]
    dsimp only
    rw [if_neg (by decide)]
    have e3 : ∀ n, SetT.iter t (m + 1 + n) (stand.getD (t.probeStart hh)) = SetT.iter t n (SetT.iter t (m + 1) (stand.getD (t.probeStart hh))) := fun n => SetT.iter_add t (m + 1) n _
    refine ih (k - (m + 1)) (by omega) f (some _) ?_ (fun n hn => ?_) (by omega) (by omega)
    ·show (SetT.iter t (k - (m + 1)) (SetT.iter t (m + 1) (stand.getD (t.probeStart hh)))).j = j0
     rw [← e3, show m + 1 + (k - (m + 1)) = k by omega]; exact he
    ·show t.slot (SetT.iter t n (SetT.iter t (m + 1) (stand.getD (t.probeStart hh)))).j ≠ .empty
     rw [← e3]; exact hb _ (by omega)
theorem zmy {ks : List Int} {b : Addr} {Q : SetFound → Shared → Prop} (S : zkD prog w s.heap a o es ep t kss) (hk : IsTupleKey (intKind prog w) s.heap ks b) (hu : A.units < cLine) (hne : ks ∉ kss) (hh : Int) {j0 : Nat} (q : Q (.free j0 false) s) :
  ∀ (k fuel : Nat) (stand : Option SetTable.Probe), (stand.getD (t.probeStart hh)).dummy = none → (SetT.iter t k (stand.getD (t.probeStart hh))).j = j0 → t.slot j0 = .empty → (∀ m, m < k → t.slot (SetT.iter t m (stand.getD (t.probeStart hh))).j ≠ .empty) → k < 10 * SetTable.turns t.mask → k < fuel → wpAny (model prog w) A (setSearchFrom a (.ref b) hh true fuel stand) Q E s := by
 intro k
 induction k using Nat.strongRecOn with
 | _ k ih =>
  intro fuel stand hd hj he hb hk1 hk2
  obtain ⟨f, rfl⟩ : ∃ f, fuel = f + 1 := ⟨fuel - 1, by omega⟩
  unfold setSearchFrom
  refine wpAny_bind (wpAny_setState_of S.get S.dat S.fits ?_)
  dsimp only
  rw [S.odd, if_neg (by decide)]
  have key2 : ∀ ha X, t.probe ha hh (stand.getD (t.probeStart hh)) = X → X = some (.empty j0 none) ∨ ∃ j i m, m < k ∧ X = some (.candidate j i (SetT.iter t (m + 1) (stand.getD (t.probeStart hh)))) ∧ t.slot j = .live i ∧ t.place[i]? = some j := fun ha X z => by
   subst z
   have := SetT.go_ok2 S.dm ha hh k (10 * SetTable.turns t.mask) (stand.getD (t.probeStart hh)) hd (by rw [hj]; exact he) hb hk1
   rw [hj] at this
   exact this
  generalize hX : t.probe _ hh (stand.getD (t.probeStart hh)) = X
  rcases key2 _ _ hX with rfl | ⟨j, i, m, hm, rfl, hl, hp⟩
  ·exact wpAny_pure q
  ·dsimp only
   have hi : i < es.size := by
    have := (Array.getElem?_eq_some_iff.mp hp).1
    rw [S.pl] at this
    exact this
   have pre : ∀ {mm : Sem SetFound}, wpAny (model prog w) A mm Q E s → wpAny (model prog w) A (if (!t.led) = true then do
     let l ← searchCouldBeSeen (Value.ref b) (List.map (fun x => x.snd) (Array.filter (fun x => x.fst == hh) es).toList)
     if l = true then do
      unsupported "set:the-search-would-show-the-table"
      mm
     else mm
    else mm) Q E s := by
    intro mm hmm
    by_cases hled : (!t.led) = true
    ·rw [if_pos hled]
     refine wpAny_bind (zot hk (fun v hv => ?_) ?_)
     ·obtain ⟨x, hx, rfl⟩ := List.mem_map.mp hv
      rw [Array.toList_filter] at hx
      obtain ⟨c, ls, h1, h2, _⟩ := S.el x (List.mem_filter.mp hx).1
      exact ⟨c, ls, h1, h2⟩
     ·rw [if_neg (by decide)]
      exact hmm
    ·rw [if_neg hled]
     exact hmm
   refine pre ?_
   obtain ⟨c, ls, h1, h2, h3⟩ := S.el es[i] (by rw [← Array.getElem_toList]; exact List.getElem_mem _)
   have eqn : es[i]? = some (es[i].1, Value.ref c) := by rw [Array.getElem?_eq_getElem hi, ← h1]
   rw [eqn]
   dsimp only
   refine wpAny_bind (wpAny_holding (wpAny_eqBool_tuple hu h2 hk ?_))
   rw [decide_eq_false (fun z : ls = ks => hne (z ▸ h3))]
   refine wpAny_bind (wpAny_setState_of S.get S.dat S.fits ?_)
   dsimp only
   rw [if_neg (by decide), show t.sameMemory t.moves t.mask = some true from by unfold SetTable.sameMemory; rw [if_pos (beq_self_eq_true _)]]
   dsimp only
   rw [if_pos rfl, hl]
   dsimp only
   rw [eqn]
   dsimp only
   refine wpAny_bind (wpAny_isSame_ref_self ?_)
   refine wpAny_bind (wpAny_pure ?_)
   rw [if_pos rfl]
   dsimp only
   rw [if_neg (by decide)]
   have e3 : ∀ n, SetT.iter t (m + 1 + n) (stand.getD (t.probeStart hh)) = SetT.iter t n (SetT.iter t (m + 1) (stand.getD (t.probeStart hh))) := fun n => SetT.iter_add t (m + 1) n _
   refine ih (k - (m + 1)) (by omega) f (some _) (zh7 _ _ hd) ?_ he (fun n hn => ?_) (by omega) (by omega)
   ·show (SetT.iter t (k - (m + 1)) (SetT.iter t (m + 1) (stand.getD (t.probeStart hh)))).j = j0
    rw [← e3, show m + 1 + (k - (m + 1)) = k by omega]; exact hj
   ·show t.slot (SetT.iter t n (SetT.iter t (m + 1) (stand.getD (t.probeStart hh)))).j ≠ .empty
    rw [← e3]; exact hb _ (by omega)
theorem zuC {ks : List Int} {b : Addr} {Q : Bool → Shared → Prop} (S : zkD prog w s.heap a o es ep t kss) (hk : IsTupleKey (intKind prog w) s.heap ks b) (hu : A.units < cLine) (hks : ks ∈ kss)
  (q : ∀ tk, Q false { s with toks := tk }) : wpAny (model prog w) A (setAdd a (.ref b)) Q E s := by
 unfold setAdd
 refine wpAny_holding (wpAny_bind (wpAny_pyHash_tuple hu hk ?_))
 obtain ⟨c0, j0, k, z1, z2, z3, z4, z5⟩ := S.all ks hks
 generalize tupleKeyHash (intKind prog w) ks = hh at z1 z4 z5
 unfold setAddHashed setAddHashedIn
 refine wpAny_holding (wpAny_bind (wpAny_setState_of S.get S.dat S.fits ?_))
 dsimp only
 rw [show byScan (.ref b) es = false from rfl, if_neg (by decide)]
 unfold setSearch
 obtain ⟨i0, hi, e⟩ := List.getElem_of_mem z1
 have hi1 : i0 < es.toList.length := by rw [List.length_zip] at hi; omega
 have hi2 : i0 < t.place.toList.length := by rw [List.length_zip] at hi; omega
 rw [List.getElem_zip] at e
 have e1 : es[i0]? = some (hh, .ref c0) := by rw [← Array.getElem?_toList, List.getElem?_eq_getElem hi1]; exact congrArg some (congrArg Prod.fst e)
 have e2 : t.place[i0]? = some j0 := by rw [← Array.getElem?_toList, List.getElem?_eq_getElem hi2]; exact congrArg some (congrArg Prod.snd e)
 refine wpAny_bind (zp6 (s := { s with toks := s.toks + (ks.length + 1) }) S hk hu hh e1 e2 z2 ?_ k 100000 none z4 z5 z3 (by
  have : 10 * SetTable.turns t.mask ≤ 460 := by unfold SetTable.turns; rcases S.msk with ⟨h1, h2⟩ | ⟨h1, h2⟩ <;> omega
  omega))
 dsimp only
 exact wpAny_pure (q _)
theorem zuD {ks : List Int} {b : Addr} {Q : Bool → Shared → Prop} (S : zkD prog w s.heap a o es ep t kss) (hk : IsTupleKey (intKind prog w) s.heap ks b) (hu : A.units < cLine) (hne : ks ∉ kss) (hsz : kss.length ≤ 17)
  (q : ∀ h' o' es' ep' t' tk, Heap.SameBut a s.heap h' → zkD prog w h' a o' es' ep' t' (ks :: kss) → Q true { s with heap := h', toks := tk }) : wpAny (model prog w) A (setAdd a (.ref b)) Q E s := by
 unfold setAdd
 refine wpAny_holding (wpAny_bind (wpAny_pyHash_tuple hu hk ?_))
 obtain ⟨hh, hhe⟩ : ∃ hh, tupleKeyHash (intKind prog w) ks = hh := ⟨_, rfl⟩
 rw [hhe]
 unfold setAddHashed setAddHashedIn
 refine wpAny_holding (wpAny_bind (wpAny_setState_of S.get S.dat S.fits ?_))
 dsimp only
 rw [show byScan (.ref b) es = false from rfl, if_neg (by decide)]
 unfold setSearch
 obtain ⟨k', k1', k2'⟩ := SetT.meets_empty S.dm (S.msk.elim (fun h => .inl h.1) fun h => .inr h.1) (by rw [S.pl]; rcases S.msk with ⟨h1, h2⟩ | ⟨h1, h2⟩ <;> omega) hh
 obtain ⟨k, kk, k2, k3⟩ := SetT.first_empty (t.probeStart hh) k2'
 have k1 : k < 10 * SetTable.turns t.mask := by omega
 obtain ⟨j, hj⟩ : ∃ j, (SetT.iter t k (t.probeStart hh)).j = j := ⟨_, rfl⟩
 rw [hj] at k2
 refine wpAny_bind (zmy (s := { s with toks := s.toks + (ks.length + 1) }) (j0 := j) S hk hu hne hh ?_ k 100000 none rfl hj k2 k3 k1 (by
  have : 10 * SetTable.turns t.mask ≤ 460 := by unfold SetTable.turns; rcases S.msk with ⟨h1, h2⟩ | ⟨h1, h2⟩ <;> omega
  omega))
 dsimp only
 have p1 : (t.put j).1.mask = t.mask := rfl
 have p2 : (t.put j).1.dummies = #[] := by
  show (if SetTable.has t.dummies j then SetTable.eraseAt t.dummies (SetTable.below t.dummies j) else t.dummies) = #[]
  rw [S.dm, SetT.no_has]
  rfl
 have p3 : (t.put j).1.place.size = es.size + 1 := by
  show (SetTable.insertAt t.place _ j).size = _
  rw [zfx, S.pl]
 have nj : ∀ i : Nat, t.place[i]? ≠ some j := fun i e => by
  have := SetT.slot_live S.srt e
  rw [k2] at this; cases this
 have p4 : (t.put j).1.place.toList.Pairwise (· < ·) := SetT.put_srt S.srt nj
 have bl := (SetT.below_ok j S.srt).1
 have p5 : ∀ z, z ∈ (SetTable.insertAt es (t.put j).snd (hh, Value.ref b)).toList.zip (t.put j).1.place.toList ↔ z = ((hh, Value.ref b), j) ∨ z ∈ es.toList.zip t.place.toList := fun z => SetT.zip_put (as := es) (bs := t.place) (p := SetTable.below t.place j) S.pl.symm (by rw [← S.pl]; exact bl)
 have fin : wpAny (model prog w) A (do
   storeSet a (SetTable.insertAt es (t.put j).snd (hh, Value.ref b)) (t.put j).fst
   if (!false && (t.put j).fst.tooFull) = true then do
    setRelay a (SetTable.grown (es.size + 1))
    pure true
   else pure true) Q E { s with toks := s.toks + (ks.length + 1) } := by
  generalize (t.put j).fst = t1 at p1 p2 p3 p4 p5
  have zz := zfx es (t.put j).snd (hh, Value.ref b)
  have mm := fun y hy => zjY (xs := es) (p := (t.put j).snd) (x := (hh, Value.ref b)) (y := y) hy
  generalize SetTable.insertAt es (t.put j).snd (hh, Value.ref b) = es1 at zz mm p5
  have hn := S.n
  have h18 : es.size ≤ 17 := by omega
  refine wpAny_bind (wpAny_storeSet_of S.get S.dat ?_ (Nat.le_trans (show es1.size ≤ 1000 by omega) (by decide)))
  have g1 := zjX (es' := es1) (t' := t1) S.get S.dat
  have sb1 : Heap.SameBut a s.heap (s.heap.update a (Obj.putSet es1 t1)) := Heap.SameBut.update _ a _
  generalize s.heap.update a (Obj.putSet es1 t1) = h1 at g1 sb1
  have el1 : ∀ e ∈ es1.toList, ∃ c ls, e.2 = .ref c ∧ IsTupleKey (intKind prog w) h1 ls c ∧ ls ∈ ks :: kss := by
   intro e he
   rcases mm e he with rfl | he
   ·exact ⟨b, ks, rfl, zfk sb1 S.get S.dat hk, List.mem_cons_self⟩
   ·obtain ⟨c, ls, e1, e2, e3⟩ := S.el e he
    exact ⟨c, ls, e1, zfk sb1 S.get S.dat e2, List.mem_cons_of_mem _ e3⟩
  have fill1 : t1.fill = es.size + 1 := by
   unfold SetTable.fill
   rw [p2, p3]; rfl
  have full : t1.tooFull = decide ((es.size + 1) * 5 ≥ t.mask * 3) := by
   unfold SetTable.tooFull
   rw [fill1, p1]
  have taken : ∀ jj, t.slot jj ≠ .empty → t1.slot jj ≠ .empty := fun jj hx => by
   rcases SetT.slot_cases S.dm jj with e | ⟨i, e, hi⟩
   ·exact absurd e hx
   ·have hm : jj ∈ t1.place.toList := by
     have hi1 : i < t.place.toList.length := by have := (Array.getElem?_eq_some_iff.mp hi).1; simpa using this
     have hi2 : i < es.toList.length := by have := S.pl; simp at hi1 ⊢; omega
     have : (es.toList[i], t.place.toList[i]) ∈ es.toList.zip t.place.toList := by
      rw [← List.getElem_zip (h := by rw [List.length_zip]; omega)]; exact List.getElem_mem _
     have := (p5 _).mpr (.inr this)
     have := (List.of_mem_zip this).2
     rw [← Array.getElem?_toList, List.getElem?_eq_getElem hi1] at hi
     rw [Option.some.inj hi] at this
     exact this
    obtain ⟨i', hi', e'⟩ := List.getElem_of_mem hm
    rw [SetT.slot_live p4 (i := i') (j := jj) (by rw [← Array.getElem?_toList, List.getElem?_eq_getElem hi', e'])]
    exact fun z => by cases z
  have zqJ : ∀ ls ∈ ks :: kss, ∃ c j k, ((tupleKeyHash (intKind prog w) ls, Value.ref c), j) ∈ es1.toList.zip t1.place.toList ∧ IsTupleKey (intKind prog w) h1 ls c ∧ k < 10 * SetTable.turns t1.mask ∧ (SetT.iter t1 k (t1.probeStart (tupleKeyHash (intKind prog w) ls))).j = j ∧ ∀ m, m < k → t1.slot (SetT.iter t1 m (t1.probeStart (tupleKeyHash (intKind prog w) ls))).j ≠ .empty := by
   intro ls hls
   rcases List.mem_cons.mp hls with rfl | hls
   ·refine ⟨b, j, k, (p5 _).mpr (.inl (by rw [hhe])), zfk sb1 S.get S.dat hk, by rw [p1]; exact k1, ?_, fun m hm => ?_⟩
    ·rw [SetT.iter_mask p1, SetT.start_mask p1, hhe]; exact hj
    ·rw [SetT.iter_mask p1, SetT.start_mask p1, hhe]; exact taken _ (k3 m hm)
   ·obtain ⟨c, j', k', y1, y2, y3, y4, y5⟩ := S.all ls hls
    refine ⟨c, j', k', (p5 _).mpr (.inr y1), zfk sb1 S.get S.dat y2, by rw [p1]; exact y3, ?_, fun m hm => ?_⟩
    ·rw [SetT.iter_mask p1, SetT.start_mask p1]; exact y4
    ·rw [SetT.iter_mask p1, SetT.start_mask p1]; exact taken _ (y5 m hm)
  by_cases hf : (es.size + 1) * 5 ≥ t.mask * 3
  ·have h7 : t.mask = 7 ∧ es.size = 4 := by rcases S.msk with ⟨x1, x2⟩ | ⟨x1, x2⟩ <;> omega
   rw [full, decide_eq_true hf, if_pos (by decide), h7.2]
   have gr : SetTable.grown (4 + 1) = 20 := by decide
   rw [gr]
   unfold setRelay
   refine wpAny_bind (wpAny_bind (wpAny_setState_of g1 rfl ?_ ?_))
   ·unfold SetTable.fits
    rw [fill1, p1, p3, zz, Bool.and_eq_true, decide_eq_true_eq]
    exact ⟨beq_self_eq_true _, by omega⟩
   ·dsimp only
    obtain ⟨t2, order, r1, r2, r3, r4, r5, r6, r7, r8⟩ := SetT.relaid_found t1 (Array.map (fun x => x.fst) es1) (n := 5) (by rw [Array.size_map]; omega) (by decide)
    have some2 : ∀ k ∈ order.toList, (es1[k]?).isSome = true := fun k hk => by
     have := r6 k hk
     rw [Array.getElem?_eq_getElem (by omega)]; rfl
    have z2 : (order.filterMap (es1[·]?)).size = 5 := by
     rw [← Array.length_toList, Array.toList_filterMap, SetT.fm_all _ _ some2, Array.length_toList, r5]
    have i2 : ∀ i : Nat, (order.filterMap (es1[·]?)).toList[i]? = (order.toList[i]?).bind (es1[·]?) := fun i => by
     rw [Array.toList_filterMap]; exact SetT.fm_get _ _ some2 i
    have m2 : ∀ e ∈ (order.filterMap (es1[·]?)).toList, e ∈ es1.toList := by
     intro e he
     rw [Array.toList_filterMap] at he
     obtain ⟨k, _, hk⟩ := List.mem_filterMap.mp he
     rw [← Array.getElem?_toList] at hk
     exact List.mem_of_getElem? hk
    rw [if_neg (by decide), r1]
    refine wpAny_bind (wpAny_of_eq (a := (order.filterMap (es1[·]?), t2)) ?_ ?_)
    ·show (if ((order.filterMap (es1[·]?)).size != es1.size) = true then _ else _) = _
     rw [if_neg (by rw [z2, zz, h7.2]; decide)]
    ·generalize order.filterMap (es1[·]?) = es2 at z2 m2 i2
     refine wpAny_storeSet_of g1 rfl ?_ (Nat.le_trans (show es2.size ≤ 1000 by omega) (by decide))
     have g2 := zjX (es' := es2) (t' := t2) g1 rfl
     have sb2 : Heap.SameBut a h1 (h1.update a (Obj.putSet es2 t2)) := Heap.SameBut.update _ a _
     generalize h1.update a (Obj.putSet es2 t2) = h2 at g2 sb2
     refine wpAny_pure (q h2 _ es2 (ep + 1 + 1) t2 _ (sb1.trans sb2) ⟨g2, S.ex, rfl, r3, by rw [r4, z2], .inr ⟨r2, by omega⟩, r7, by rw [z2, List.length_cons, ← hn, h7.2], fun e he => ?_, fun ls hls => ?_⟩)
     ·obtain ⟨c, ls, e1, e2, e3⟩ := el1 e (m2 e he)
      exact ⟨c, ls, e1, zfk sb2 g1 rfl e2, e3⟩
     ·obtain ⟨c, j1, _, y1, y2, _⟩ := zqJ ls hls
      obtain ⟨i0, hi, e⟩ := List.getElem_of_mem y1
      have hi1 : i0 < es1.toList.length := by rw [List.length_zip] at hi; omega
      rw [List.getElem_zip] at e
      have e1 : es1[i0]? = some (tupleKeyHash (intKind prog w) ls, .ref c) := by rw [← Array.getElem?_toList, List.getElem?_eq_getElem hi1]; exact congrArg some (congrArg Prod.fst e)
      have eh : (Array.map (fun x => x.fst) es1).getD i0 0 = tupleKeyHash (intKind prog w) ls := by
       rw [Array.getD_eq_getD_getElem?, Array.getElem?_map, e1]; rfl
      obtain ⟨i, j2, m, o1, o2, o3, o4, o5⟩ := r8 i0 (by rw [Array.length_toList, zz, h7.2] at hi1; omega)
      rw [eh] at o4 o5
      refine ⟨c, j2, m, ?_, zfk sb2 g1 rfl y2, o3, o4, o5⟩
      have f1 : es2.toList[i]? = some (tupleKeyHash (intKind prog w) ls, .ref c) := by
       rw [i2, Array.getElem?_toList, o1]; exact e1
      have f2 : t2.place.toList[i]? = some j2 := by rw [Array.getElem?_toList]; exact o2
      refine List.mem_of_getElem? (i := i) ?_
      rw [List.getElem?_zip_eq_some]
      exact ⟨f1, f2⟩
  ·rw [full, decide_eq_false hf, if_neg (by decide)]
   refine wpAny_pure (q h1 _ es1 (ep + 1) t1 _ sb1 ⟨g1, S.ex, rfl, p2, by rw [p3, zz], ?_, p4, by rw [zz, hn, List.length_cons], el1, zqJ⟩)
   rw [p1, zz]
   rcases S.msk with ⟨x1, x2⟩ | ⟨x1, x2⟩
   ·exact .inl ⟨x1, by omega⟩
   ·exact .inr ⟨x1, by omega⟩
 refine wpAny_bind (wpAny_setState_of (s := { s with toks := s.toks + (ks.length + 1) }) S.get S.dat S.fits ?_)
 dsimp only
 by_cases hpl : (t.put j).fst.plain = true
 ·rw [if_pos hpl]
  refine wpAny_bind (zsC (s := { s with toks := s.toks + (ks.length + 1) }) hk ?_)
  exact fin
 ·rw [if_neg hpl]
  refine wpAny_bind (wpAny_pure ?_)
  exact fin
end
end DL
namespace DL
open PySem L2 PyProof.Rows
section
variable {prog : Program} {w : World} {A : Around} {h h' : Heap} {it l z : Addr} {items : Array Value}
theorem zkD.move (kp : ∀ b u, b ∉ [it] → h.get? b = some u → h'.get? b = some u) {i : Nat} (hi : h.IsListIter it l i) (hz : z ≠ it) {o : Obj} {es : Array (Int × Value)} {ep : Nat} {t : SetTable} {kss : List (List Int)} (S : zkD prog w h z o es ep t kss) : zkD prog w h' z o es ep t kss :=
 ⟨kp z _ (by simpa using hz) S.get, S.ex, S.dat, S.dm, S.pl, S.msk, S.srt, S.n, fun e he => by
  obtain ⟨c, ls, e1, e2, e3⟩ := S.el e he
  exact ⟨c, ls, e1, zg4 kp hi e2, e3⟩, fun ls hls => by
  obtain ⟨c, j, k, e1, e2, e3⟩ := S.all ls hls
  exact ⟨c, j, k, e1, zg4 kp hi e2, e3⟩⟩
def ziS (kss : List (List Int)) (ks : List Int) : List (List Int) := if ks ∈ kss then kss else ks :: kss
def zgx (keys : Nat → List Int) : Nat → List (List Int)
 | 0 => []
 | i + 1 => ziS (zgx keys i) (keys i)
theorem zsE (kss : List (List Int)) (ks : List Int) : kss.length ≤ (ziS kss ks).length := by unfold ziS; split <;> simp
theorem zoy (keys : Nat → List Int) : ∀ (n i : Nat), i ≤ n → (zgx keys i).length ≤ (zgx keys n).length
 | 0, i, h => by rw [show i = 0 by omega]; exact Nat.le_refl _
 | n + 1, i, h => by
  by_cases e : i = n + 1
  ·rw [e]; exact Nat.le_refl _
  ·exact Nat.le_trans (zoy keys n i (by omega)) (zsE _ _)
def zuE (prog : Program) (w : World) (h : Heap) (z : Addr) (keys : Nat → List Int) (i : Nat) : Prop := ∃ o es ep t, zkD prog w h z o es ep t (zgx keys i)
theorem zoz {R : Result → Shared → Prop} (hh : A.handled = none) (hl : l ≠ it) (hz1 : z ≠ it) (hz2 : z ≠ l) (hu : A.units + 1 < cLine) (keys : Nat → List Int) (h4 : (zgx keys items.size).length ≤ 18) :
  ∀ (k i : Nat) (s : Shared), items.size - i = k → i ≤ items.size → (s.heap.IsListIter it l i ∧ s.heap.IsList l items) → zuE prog w s.heap z keys i → (∀ j, j < items.size → ∃ b, items[j]? = some (.ref b) ∧ IsTupleKey (intKind prog w) s.heap (keys j) b) →
   (∀ h2 tk, (∀ b u, b ≠ z → b ≠ it → s.heap.get? b = some u → h2.get? b = some u) → zuE prog w h2 z keys items.size → R (.ok (.ret .none)) { s with heap := h2, toks := tk }) →
   codeAny (model prog w) A (.builtin "set.update.loop" ⟨[.ref z, .ref it], []⟩) R s := by
 have W := Walks.list (prog := prog) (w := w) (A := A.in1) (by rw [Around.in1_handled]; exact hh) it l hl items
 intro k
 induction k with
 | zero =>
  intro i s hk hi st ⟨o, es, ep, t, S⟩ ht fin
  obtain rfl : i = items.size := by omega
  refine codeAny_builtin PyProof.Rows.F.entry_set_update_loop ?_
  rw [Around.under_plainId PyProof.Rows.F.plain_set_update_loop _]
  show wpAny _ A.in1 (pyNext (.ref it) >>= _) _ _ _
  refine wpAny_bind (W.done s _ _ st fun h2 tk kp => ?_)
  show wpAny _ A.in1 (ret Value.none) _ _ _
  exact wpAny_pure (fin h2 tk (fun b u _ b2 e => kp b u (by simpa using b2) e) ⟨o, es, ep, t, S.move kp st.1 hz1⟩)
 | succ k ih =>
  intro i s hk hi st ⟨o, es, ep, t, S⟩ ht fin
  have hlt : i < items.size := by omega
  refine codeAny_builtin PyProof.Rows.F.entry_set_update_loop ?_
  rw [Around.under_plainId PyProof.Rows.F.plain_set_update_loop _]
  show wpAny _ A.in1 (pyNext (.ref it) >>= _) _ _ _
  refine wpAny_bind (W.item i s _ _ hlt st fun v h1 tk hv st1 kp => ?_)
  obtain ⟨b, e1, e2⟩ := ht i hlt
  rw [hv] at e1
  cases e1
  have S1 := S.move (prog := prog) (w := w) kp st.1 hz1
  have ht1 : ∀ j, j < items.size → ∃ b, items[j]? = some (.ref b) ∧ IsTupleKey (intKind prog w) h1 (keys j) b := fun j hj => by
   obtain ⟨c, c1, c2⟩ := ht j hj
   exact ⟨c, c1, zg4 kp st.1 c2⟩
  show wpAny _ A.in1 (holding [Value.ref b] (setAdd z (.ref b)) >>= _) _ _ _
  have gz : z ∉ [it, l] := by
   rw [List.mem_cons, List.mem_singleton]
   rintro (q | q)
   ·exact hz1 q
   ·exact hz2 q
  by_cases hin : keys i ∈ zgx keys i
  ·refine wpAny_bind (wpAny_holding (zuC (s := { s with heap := h1, toks := tk }) S1 (zg4 kp st.1 e2) (by rw [Around.in1_units]; exact hu) hin fun tk2 => ?_))
   refine wpAny_pure ⟨plainId_quiet PyProof.Rows.F.plain_set_update_loop _, ih (i + 1) _ (by omega) hlt ?_ ⟨o, es, ep, t, ?_⟩ (fun j hj => ht1 j hj) fun h3 tk3 kp3 S3 => ?_⟩
   ·exact W.frame _ h1 h1 st1 fun b hb u e => e
   ·show zkD prog w _ z o es ep t (ziS (zgx keys i) (keys i))
    unfold ziS
    rw [if_pos hin]
    exact S1
   ·exact fin h3 tk3 (fun b u b1 b2 e => kp3 b u b1 b2 (kp b u (by simpa using b2) e)) S3
  ·have l3 : (zgx keys i).length ≤ 17 := by
    have := zoy keys items.size (i + 1) hlt
    have e : (zgx keys (i + 1)).length = (zgx keys i).length + 1 := by
     show (ziS (zgx keys i) (keys i)).length = _
     unfold ziS
     rw [if_neg hin]; rfl
    omega
   refine wpAny_bind (wpAny_holding (zuD (s := { s with heap := h1, toks := tk }) S1 (zg4 kp st.1 e2) (by rw [Around.in1_units]; exact hu) hin l3 fun h2 o2 es2 ep2 t2 tk2 sb S2 => ?_))
   refine wpAny_pure ⟨plainId_quiet PyProof.Rows.F.plain_set_update_loop _, ih (i + 1) _ (by omega) hlt ?_ ⟨o2, es2, ep2, t2, ?_⟩ (fun j hj => ?_) fun h3 tk3 kp3 S3 => ?_⟩
   ·exact W.frame _ h1 h2 st1 fun b hb u e => (sb.2 b fun q => gz (q ▸ hb)).trans e
   ·show zkD prog w _ z o2 es2 ep2 t2 (ziS (zgx keys i) (keys i))
    unfold ziS
    rw [if_neg hin]
    exact S2
   ·obtain ⟨c, c1, c2⟩ := ht1 j hj
    exact ⟨c, c1, zfk sb S1.get S1.dat c2⟩
   ·exact fin h3 tk3 (fun b u b1 b2 e => kp3 b u b1 b2 ((sb.2 b b1).trans (kp b u (by simpa using b2) e))) S3
theorem zp7 {led : Bool} {keys : Nat → List Int} (g : h.get? z = some (zev led)) : zuE prog w h z keys 0 :=
 ⟨_, #[], 0, .fresh 0 0 led, g, ⟨rfl, rfl, rfl⟩, rfl, rfl, rfl, .inl ⟨rfl, by decide⟩, List.Pairwise.nil, rfl, (fun e he => by cases he), (fun ls hls => by cases hls)⟩
set_option maxHeartbeats 3200000 in
theorem zoA {E : Value → Shared → Prop} {s : Shared} {Q : Value → Shared → Prop} (hh : A.handled = none) (hl : s.heap.IsList l items) (hu : A.units + 3 < cLine) (keys : Nat → List Int) (h4 : (zgx keys items.size).length ≤ 18)
  (ht : ∀ j, j < items.size → ∃ b, items[j]? = some (.ref b) ∧ IsTupleKey (intKind prog w) s.heap (keys j) b)
  (q : ∀ h2 tk, zuE prog w h2 s.heap.objs.size keys items.size → (∀ b u, s.heap.get? b = some u → h2.get? b = some u) → Q (.ref s.heap.objs.size) { s with heap := h2, toks := tk }) : wpAny (model prog w) A (call (.type "set") [.ref l]) Q E s := by
 obtain ⟨mr1, mr2, mr3⟩ := PySem.F.called_set.mro
 have ma := PySem.F.called_set.made
 have su := PySem.F.called_set.sub
 have no := PySem.F.called_set.notType
 have cc := PySem.F.called_set.canCreate
 have ct := PySem.F.typeCall_set_1 (.ref l)
 refine wpAny_call (codeAny_of_tree ?_)
 show wpAny _ _ (callAny (.type "set") _) _ _ _
 refine wpAny_pure ⟨Code.quiet_builtin _ (by decide +kernel), codeAny_builtin F.entry_type_call ?_⟩
 rw [Around.under_plain (weight_type_call_type "set" [.ref l] []) rfl]
 repeat (any_goals (first | assumption | wp_step))
 refine codeAny_mono (code_set_new_1 (.ref l) (E := E) (Q₁ := fun ob s1 => ∃ led : Bool, ob = .ref s.heap.objs.size ∧ s1 = { s with heap := s.heap.push (zev led) }) fun led => ⟨led, rfl, rfl⟩) fun r s1 hr => ?_
 cases r with
 | error e => exact hr
 | ok fl =>
  cases fl with
  | ret ob =>
   obtain ⟨led, rfl, rfl⟩ := hr
   have gS : (s.heap.push (zev led)).get? s.heap.objs.size = some (zev led) := Heap.get?_push_size _ rfl
   have tS : Shared.TypeIs { s with heap := s.heap.push (zev led) } (.ref s.heap.objs.size) "set" := ⟨_, gS, rfl⟩
   have il := PySem.F.called_set.init.lookup
   have ib := PySem.F.called_set.init.bind (.ref s.heap.objs.size)
   repeat (any_goals (first | assumption | wp_step))
   refine codeAny_mono (codeAny_call_builtin (R := wants (fun r s2 => r = .none ∧ ∃ h2 tk, s2 = { s with heap := h2, toks := tk } ∧ zuE prog w h2 s.heap.objs.size keys items.size ∧ (∀ b u, s.heap.get? b = some u → h2.get? b = some u)) E) PySem.F.called_set.init.plain PySem.F.entry_set_init (check_set_init_1 tS ?_)) fun r2 s2 hr2 => ?_
   ·obtain ⟨⟨c1, c2, c3, c4⟩, gl, cl, nl, dl⟩ := hl
    simp only at cl dl
    subst cl dl
    have gl1 : (s.heap.push (zev led)).get? l = some { cls := .type "list", dict := c2, data := .seq items nl, slots := c4 } := Heap.get?_push_of_some _ gl
    have ls := PySem.F.sub_list_set
    have lf := PySem.F.sub_list_frozenset
    have nd : (Value.type "list" == Value.type "dict") = false := by decide
    have il1 : (s.heap.push (zev led)).IsList l items := ⟨_, gl1, rfl, nl, rfl⟩
    unfold Builtin.«set.__init__» noKeywords Builtin.Frozenset.updateFrom
    generalize hPI : pyIter = PI
    wp_walk
    subst hPI
    refine wpAny_pyIter_list il1 ?_
    refine wpAny_bind (wpAny_runValue ?_)
    have lS : l < s.heap.objs.size := Heap.lt_size gl
    refine zoz (A := A.in1.in1) (it := (s.heap.push (zev led)).objs.size) (l := l) (z := s.heap.objs.size) (items := items) hh ?_ ?_ ?_ hu keys h4 items.size 0 _ (by omega) (Nat.zero_le _) ⟨⟨_, Heap.get?_push_size _ rfl, rfl, rfl⟩, il1.push _⟩ (zp7 (led := led) (Heap.get?_push_of_some _ gS)) ?_ ?_
    ·rw [Heap.size_push]; exact Nat.ne_of_lt (Nat.lt_succ_of_lt lS)
    ·rw [Heap.size_push]; exact Nat.ne_of_lt (Nat.lt_succ_self _)
    ·exact Nat.ne_of_gt lS
    ·intro j hj
     obtain ⟨b, b1, b2⟩ := ht j hj
     obtain ⟨ob, its, m, g1, g2, g3, g4⟩ := b2
     exact ⟨b, b1, ob, its, m, Heap.get?_push_of_some _ (Heap.get?_push_of_some _ g1), g2, g3, g4⟩
    ·intro h2 tk kp S2
     show wpAny _ _ _ _ _ _
     refine wpAny_pure ?_
     show wpAny _ _ (ret Value.none) _ _ _
     refine wpAny_pure ⟨rfl, h2, tk, rfl, S2, fun b u e => ?_⟩
     have lb := Heap.lt_size e
     refine kp b u (Nat.ne_of_lt lb) ?_ (Heap.get?_push_of_some _ (Heap.get?_push_of_some _ e))
     rw [Heap.size_push]; exact Nat.ne_of_lt (Nat.lt_succ_of_lt lb)
   ·cases r2 with
    | error e => exact hr2
    | ok fl2 =>
     cases fl2 with
     | ret r =>
      obtain ⟨rfl, h2, tk, rfl, S2, k2⟩ := hr2
      repeat (any_goals (first | assumption | wp_step))
      exact q _ _ S2 k2
     | _ => exact hr2.elim
  | _ => exact hr.elim
end
end DL
namespace DL
open PySem L2 PyProof.Rows
section
variable {X : Cx} {E : XK}
def zg5 (kss : List (List Int)) : List (List Int) := zgx (fun j => kss.getD j []) kss.length
def zv1 (K : PySem.W.Frag) : List V → Hp → VK → Prop := fun xs H Q => ∃ (p : Addr) (ys : List V) (kss : List (List Int)), xs = [.ref p] ∧ SqL K H p ys ∧ zc6 K H ys kss ∧ (zg5 kss).length ≤ 18 ∧ ∀ a, H a = none → Q (.ref a) (upd H a (.ext (zu0 a (zg5 kss).length)))
theorem zoB {k : Nat} (hc : X.calm = true) (r : zhw k X.A) : zde X (.type "set") (zv1 X.K) := by
 intro pins s σ H xs us Q I rs h
 obtain ⟨p, ys, kss, rfl, hq, ht, h4, q⟩ := h
 obtain ⟨u, rfl, rx⟩ := ziv rs
 cases rx
 obtain ⟨its, rv, pl, hz⟩ := I.list hq
 have hlen : its.length = kss.length := by rw [← rv.length, ht.length]
 have hsz : its.toArray.size = kss.length := by rw [List.size_toArray, hlen]
 refine zoA (I.ok.hd hc) pl.isList (by have := r.un; omega) (fun j => kss.getD j []) (by rw [hsz]; exact h4) (fun j hj => ?_) fun h2 tk S2 kp => ?_
 ·rw [List.size_toArray] at hj
  obtain ⟨b, b1, b2⟩ := zou I ht rv j hj
  exact ⟨b, by rw [List.getElem?_toArray]; exact b1, b2⟩
 ·obtain ⟨o, es, ep, t, S⟩ := S2
  have hn : es.size = (zg5 kss).length := by rw [S.n, hsz]; rfl
  refine ⟨.ref s.heap.objs.size, _, I.laid (t' := tk) (h' := h2) kp (Nat.le_refl _) (show zd0 X.prog X.w _ h2 _ (.ext (zu0 s.heap.objs.size (zg5 kss).length)) from ⟨⟨o, es, ep, t, S.get, S.ex, S.dat, S.fits, hn⟩, ⟨o, S.get⟩, ?_⟩), rfl, q _ (I.hok.fresh (Nat.le_refl _))⟩
  rintro h1 h3 ⟨o, es, ep, t, g, r1⟩ kk
  exact ⟨o, es, ep, t, kk o g, r1⟩
def zew : D → R D
 | .lst ds => match zb3 ds with
  | some kss => bif Nat.ble (zg5 kss).length 18 then .ok (.int (zg5 kss).length) else .bad
  | none => .bad
 | _ => .bad
def ziT (f : DSt → R D) : DSt → R D := fun σ => (f σ).bind zew
theorem zmz {k : Nat} (C : XC X E k) (hm1 : X.mg "len" = none) (hm2 : X.mg "set" = none) {e : Expr} {fe : DSt → R D} {p1 p2 pos pos2 : Pos} (hfe : DE X E e fe) (hg1 : Gl X "len" := by rfl) (hg2 : Gl X "set" := by rfl)
  (he1 : starEach [.Call (.Name "set" p2) [e] [] pos2] X.env = (false, eval (.Call (.Name "set" p2) [e] [] pos2) X.env) :: starEach [] X.env := by rfl) (hpl1 : (backTo pos (starEach [] X.env)).any (·.1) = false := by rfl)
  (he2 : starEach [e] X.env = (false, eval e X.env) :: starEach [] X.env := by rfl) (hpl2 : (backTo pos2 (starEach [] X.env)).any (·.1) = false := by rfl) :
  DE X E (.Call (.Name "len" p1) [.Call (.Name "set" p2) [e] [] pos2] [] pos) (ziT fe) := by
 refine PE.mono' (zkS zov hg1 hm1 PySem.boot_len (zmW (zgC (zoB C.calm C.room) hg2 hm2 (by rfl) (zad hfe zai he2) (by decide) (by decide) he2 hpl2) zqq he1) (by decide) (by decide) he1 hpl1) fun σ H Q ⟨G, σd, ok, q⟩ => ?_
 refine ⟨G, σd, ok, (show RW ((zaf fe zaz) σd) _ _ from ?_)⟩
 unfold zaf
 have q2 := q.of_bind
 cases hf : fe σd with
 | bad => rw [hf] at q2; exact q2.elim
 | err x => rw [hf] at q2; exact (show za0 X.K X.mg E G H x from q2)
 | ok d =>
  rw [hf] at q2
  have q3 : RW (zew d) (zaD X.K X.mg Q G H) (za0 X.K X.mg E G H) := q2
  rintro ws G2 H2 s2 ⟨v, _, e1, r3, r4⟩
  subst e1
  cases r4
  cases d with
  | lst ds =>
   obtain ⟨b, vs, rfl, hb, hv⟩ := r3
   cases hs' : zb3 ds with
   | none => simp only [zew, hs'] at q3; exact q3.elim
   | some kss =>
    cases hC : Nat.ble (zg5 kss).length 18 with
    | false => simp only [zew, hs', hC, cond_false] at q3; exact q3.elim
    | true =>
     simp only [zew, hs', hC, cond_true] at q3
     rw [Nat.ble_eq] at hC
     refine ⟨b, vs, kss, rfl, s2.e.seq hb, (zjZ hs' hv).mono s2.e, hC, fun a ha => ?_⟩
     have q4 : zaD X.K X.mg Q G H (.int (zg5 kss).length) := q3
     exact ⟨a, (zg5 kss).length, rfl, zaA, by omega, q4 _ G2 _ (s2.trans (.hid s2.e ha)) rfl⟩
  | _ => exact (show False from q3).elim
end
end DL
end
section
set_option Elab.async false
set_option linter.all false
set_option maxRecDepth 100000
namespace DL
open PySem L2 PyProof.Rows
section
variable {K : PySem.W.Frag} {mg : Str → Option Value} {G G' H H' : Hp}
end
section
variable {X : Cx} {E : XK} {k : Nat} {x : Str} {m : List D → R (List D)} {p pos : Pos} {e : Expr} {es : List Expr} {fs : DSt → R (List D)}
end
section
variable {P : Program} {w : World} {K : PySem.W.Frag} {mg : Str → Option Value} {base : Heap}
end
section
variable {X : Cx} {E : XK} {own own' ol : List Nat} {pos p : Pos}
end
end DL
end
section
set_option Elab.async false
set_option linter.all false
set_option maxRecDepth 100000
namespace L2
open PySem PyProof.Rows
def zv2 (K : PySem.W.Frag) (a b : Addr) : It :=
 ⟨fun i H => ∃ xs ys x y, SqL K H a xs ∧ SqL K H b ys ∧ xs[i]? = some x ∧ ys[i]? = some y,
  fun i H v H' => ∃ T x y, v = .ref T ∧ H T = none ∧ H' = upd H T (.tup [x, y]) ∧ (∀ xs, SqL K H a xs → xs[i]? = some x) ∧ ∀ ys, SqL K H b ys → ys[i]? = some y,
  fun i H => ∃ xs ys, SqL K H a xs ∧ SqL K H b ys ∧ xs.length ≤ i⟩
structure ZL (z TI TO i1 i2 a b : Addr) (k : Nat) (h : Heap) : Prop where
 z : IsZip h z TI TO .none
 ti : IsPair h TI (.ref i1) (.ref i2)
 to : ∃ u v, IsPair h TO u v
 i1 : h.IsListIter i1 a k
 i2 : h.IsListIter i2 b k
theorem zoC {P : Program} {w : World} {K : PySem.W.Frag} {es : List Expr} {ct : Nat} {ps : Pos} {z TI TO i1 i2 a b : Addr} (D : ZipApart z TI TO i1 i2 a b) : zrI P w K (.Tuple es ct ps) (zv2 K a b) [z, TI, TO, i1, i2] z (ZL z TI TO i1 i2 a b) where
 mem := by simp
 obj := fun i h st c hc => by
  simp only [List.mem_cons, List.not_mem_nil, or_false] at hc
  rcases hc with rfl | rfl | rfl | rfl | rfl
  ·exact ⟨_, st.z, fun v q => by cases q⟩
  ·exact ⟨_, st.ti, fun v q => by cases q⟩
  ·obtain ⟨u, v, e⟩ := st.to
   exact ⟨_, e, fun v q => by cases q⟩
  ·obtain ⟨o, e, c, d⟩ := st.i1
   exact ⟨o, e, fun v q => by rw [d] at q; cases q⟩
  ·obtain ⟨o, e, c, d⟩ := st.i2
   exact ⟨o, e, fun v q => by rw [d] at q; cases q⟩
 keep := fun i h h' st k => by
  obtain ⟨u, v, e⟩ := st.to
  exact ⟨k _ (by simp) _ st.z, k _ (by simp) _ st.ti, ⟨u, v, k _ (by simp) _ e⟩, st.i1.at fun o e => k _ (by simp) o e, st.i2.at fun o e => k _ (by simp) o e⟩
 item := by
  intro X hP hw hK hc i pins s σ H E I hf st hg
  subst hP hw hK
  obtain ⟨xs, ys, x, y, h1, h2, hx, hy⟩ := hg
  obtain ⟨its, rv, p, _⟩ := I.list h1
  obtain ⟨jts, rw', p', _⟩ := I.list h2
  obtain ⟨u, hu, ru⟩ := rv.get hx
  obtain ⟨v, hv, rr⟩ := rw'.get hy
  obtain ⟨ta, tb, hTO⟩ := st.to
  refine wpAny_pyNext_zip_item D st.z st.ti hTO st.i1 st.i2 p.isList p'.isList (x := u) (y := v) (by simpa using hu) (by simpa using hv) fun g Zz Zto Zi1 Zi2 pg sg kg => ⟨_, rfl, ?_⟩
  refine wpAny_letOwnedTupleGo_zip Zz fun g' zg sb => ?_
  have lz : z < s.heap.objs.size := Heap.lt_size st.z
  have I1 : Inv X pins σ (upd H s.heap.objs.size (.tup [x, y])) { s with heap := s.heap.push (tp2 u v), toks := s.toks } :=
   I.laid (fun _ _ q => Heap.get?_push_of_some _ q) (Nat.le_refl _) ⟨by show 2 ≤ sizeLine; decide, [u, v], .cons ru (.cons rr .nil), ⟨_, Heap.get?_push_size _ rfl, rfl, 0, rfl⟩⟩
  have fr : ∀ c ∈ [z, TI, TO, i1, i2], c ≠ s.heap.objs.size := fun c hc e => by
   simp only [List.mem_cons, List.not_mem_nil, or_false] at hc
   obtain ⟨o1, q1, _⟩ := st.i1
   obtain ⟨o2, q2, _⟩ := st.i2
   rcases hc with rfl | rfl | rfl | rfl | rfl
   ·exact Nat.ne_of_lt lz e
   ·exact Nat.ne_of_lt (Heap.lt_size st.ti) e
   ·exact Nat.ne_of_lt (Heap.lt_size hTO) e
   ·exact Nat.ne_of_lt (Heap.lt_size q1) e
   ·exact Nat.ne_of_lt (Heap.lt_size q2) e
  have I2 : Inv X pins σ (upd H s.heap.objs.size (.tup [x, y])) { s with heap := g', toks := s.toks } := by
   refine Inv.turnedL (s := { s with heap := s.heap.push (tp2 u v), toks := s.toks }) (h' := g') (t' := s.toks) (ch := [z, TI, TO, i1, i2]) I1 (fun c o hc e => ?_) fun c hc => ?_
   ·have cz : c ≠ z := fun q => hc (by simp [q])
    rcases Heap.get?_push_cases e with ⟨rfl, rfl⟩ | e
    ·exact sb.extBut _ _ cz pg
    ·exact sb.extBut _ _ cz (kg c o cz (fun q => hc (by simp [q])) (fun q => hc (by simp [q])) (fun q => hc (by simp [q])) e)
   ·exact ⟨by rw [zay (fr c hc)]; exact (hf c hc).1, (hf c hc).2⟩
  refine ⟨.ref s.heap.objs.size, _, I2, rfl, ⟨_, x, y, rfl, I.fresh, rfl, fun zs hz => by rw [I.list_inj hz h1]; exact hx, fun zs hz => by rw [I.list_inj hz h2]; exact hy⟩, ⟨zg, sb.extBut _ _ D.TIz (kg _ _ D.TIz D.TITO D.TIi1 D.TIi2 st.ti), ⟨_, _, sb.extBut _ _ D.TOz Zto⟩, Zi1.at fun o e => sb.extBut _ _ D.i1z e, Zi2.at fun o e => sb.extBut _ _ D.i2z e⟩, fun c hc => by rw [zay (fr c hc)]; exact (hf c hc).1⟩
 done := by
  intro X hP hw hK hc i pins s σ H E I hf st hg
  subst hP hw hK
  obtain ⟨xs, ys, h1, h2, hx⟩ := hg
  obtain ⟨its, rv, p, _⟩ := I.list h1
  obtain ⟨jts, rw', p', _⟩ := I.list h2
  obtain ⟨ta, tb, hTO⟩ := st.to
  have hl := rv.length
  refine wpAny_pyNext_zip_end (I.ok.hd hc) D st.z st.ti hTO st.i1 st.i2 p.isList p'.isList (.inl (by simp; omega)) fun g kg => ⟨rfl, I.turnedL (t' := s.toks) (ch := [z, TI, TO, i1, i2]) (fun c o hc e => ?_) hf⟩
  exact kg c o (fun q => hc (by simp [q])) (fun q => hc (by simp [q])) (fun q => hc (by simp [q])) (fun q => hc (by simp [q])) e
 self := fun _ _ _ _ _ st h => wpAny_pyIter_zip st.z h
end L2
namespace DL
open PySem L2 PyProof.Rows
section
variable {X : Cx} {E : XK}
def zv3 (K : PySem.W.Frag) (ta : TA) : TI := fun σ H R => ta σ H fun vs H1 => ∃ a b, vs = [.ref a, .ref b] ∧ (((∃ xs, SqT K H1 a xs) ∧ (∃ ys, SqT K H1 b ys) ∧ R (Itz K a b) H1) ∨ ((∃ xs, SqL K H1 a xs) ∧ (∃ ys, SqL K H1 b ys) ∧ R (zv2 K a b) H1))
theorem zsF {a b : Expr} {ta : TA} {p pos ps : Pos} {es : List Expr} {ct : Nat} (hg : Gl X "zip") (hm : X.mg "zip" = none) (ha : PA X [a, b] ta) (hs : starEach [a, b] X.env = [(false, eval a X.env), (false, eval b X.env)] := by rfl) (hs2 : starEach [b] X.env = [(false, eval b X.env)] := by rfl) :
  PI X (.Tuple es ct ps) (.Call (.Name "zip" p) [a, b] [] pos) (zv3 X.K ta) := by
 intro pins s σ H R I h
 refine Call_ (zi7 I hg hm boot_zip (PyProof.Rows.callWith_type1 (thn (ha pos pins s σ H _ I h) fun us s1 ⟨vs, H1, I1, r1, q1⟩ => ?_) (by rw [hs, hs2]) (by rw [hs2]; rfl)))
 obtain ⟨a, b, e, q⟩ := q1
 subst e
 cases r1 with
 | cons r rr =>
  cases rr with
  | cons r' rr =>
   cases rr
   cases r
   cases r'
   have fp : ∀ c ∈ [s1.heap.objs.size + 4, s1.heap.objs.size + 2, s1.heap.objs.size + 3, s1.heap.objs.size, s1.heap.objs.size + 1], zmf X pins H1 c := fun c hc => by
    have hc : s1.heap.objs.size ≤ c := by
     simp only [List.mem_cons, List.not_mem_nil, or_false] at hc
     rcases hc with rfl | rfl | rfl | rfl | rfl
     ·exact Nat.le_add_right _ _
     ·exact Nat.le_add_right _ _
     ·exact Nat.le_add_right _ _
     ·exact Nat.le_refl _
     ·exact Nat.le_add_right _ _
    exact I1.fpOk hc (I1.hok.fresh hc)
   rcases q with ⟨⟨xs, hx⟩, ⟨ys, hy⟩, q⟩ | ⟨⟨xs, hx⟩, ⟨ys, hy⟩, q⟩
   ·obtain ⟨its, _, p1, _⟩ := I1.tuple hx
    obtain ⟨jts, _, p2, _⟩ := I1.tuple hy
    have l1 : a < s1.heap.objs.size := by obtain ⟨o, e, _⟩ := p1; exact Heap.lt_size e
    have l2 : b < s1.heap.objs.size := by obtain ⟨o, e, _⟩ := p2; exact Heap.lt_size e
    refine zow p1 p2 fun g Z kg => ?_
    refine wpAny_pyIter_zip Z.z ?_
    exact ⟨_, [s1.heap.objs.size + 4, s1.heap.objs.size + 2, s1.heap.objs.size + 3, s1.heap.objs.size, s1.heap.objs.size + 1], _, _, H1, rfl, I1.kept (t' := s1.toks) kg, zp4 (zipApart_new l1 l2), ⟨Z.z, Z.ti, Z.to, Z.i1, Z.i2⟩, fp, q⟩
   ·obtain ⟨its, _, p1, _⟩ := I1.list hx
    obtain ⟨jts, _, p2, _⟩ := I1.list hy
    have l1 : a < s1.heap.objs.size := by obtain ⟨o, e, _⟩ := p1.isList; exact Heap.lt_size e
    have l2 : b < s1.heap.objs.size := by obtain ⟨o, e, _⟩ := p2.isList; exact Heap.lt_size e
    refine call_zip_2 p1.isList p2.isList fun g zz zti zto zi1 zi2 _ kg => ?_
    refine wpAny_pyIter_zip zz ?_
    exact ⟨_, [s1.heap.objs.size + 4, s1.heap.objs.size + 2, s1.heap.objs.size + 3, s1.heap.objs.size, s1.heap.objs.size + 1], _, _, H1, rfl, I1.kept (t' := s1.toks) kg, zoC (zipApart_new l1 l2), ⟨zz, zti, ⟨_, _, zto⟩, zi1, zi2⟩, fp, q⟩
def ziU : List D → R (List D)
 | [.tup xs, .tup ys] => bif xs.length == ys.length then .ok (zo8 xs ys) else .bad
 | [.lst xs, .lst ys] => bif xs.length == ys.length then .ok (zo8 xs ys) else .bad
 | _ => .bad
theorem zf1.zipL {K : PySem.W.Frag} {mg : Str → Option Value} {G : Hp} {a b : Addr} {vs us : List V} {xs ys : List D} (h : SqL K G a vs) (h' : SqL K G b us) (r : Reps K mg G xs vs) (r' : Reps K mg G ys us) (hl : xs.length = ys.length) : zf1 K mg (zv2 K a b) G (zo8 xs ys) := by
 have ln : (zo8 xs ys).length = vs.length := by unfold zo8; rw [List.length_zipWith, ← hl, Nat.min_self, r.length]
 refine ⟨fun H e => ⟨vs, us, e.seq h, e.seq h', by rw [ln]; exact Nat.le_refl _⟩, fun H i d e hd => ?_⟩
 obtain ⟨x, y, hx, hy, rfl⟩ : ∃ x y, xs[i]? = some x ∧ ys[i]? = some y ∧ d = .tup [x, y] := by
  unfold zo8 at hd
  rw [List.getElem?_zipWith] at hd
  cases ex : xs[i]? with
  | none => rw [ex] at hd; cases hd
  | some x =>
   cases ey : ys[i]? with
   | none => rw [ex, ey] at hd; cases hd
   | some y => rw [ex, ey] at hd; exact ⟨x, y, rfl, rfl, (Option.some.inj hd).symm⟩
 obtain ⟨v, hv, rv⟩ := r.get hx
 obtain ⟨u, hu, ru⟩ := r'.get hy
 refine ⟨⟨vs, us, v, u, e.seq h, e.seq h', hv, hu⟩, ?_⟩
 rintro _ H' ⟨T, v', u', rfl, hn, rfl, q1, q2⟩ G1 e1 e2
 have z1 := q1 _ (e.seq h)
 have z2 := q2 _ (e.seq h')
 rw [hv] at z1; cases z1
 rw [hu] at z2; cases z2
 have st := zbV.pub (o := .tup [v, u]) e2 hn
 exact ⟨upd G1 T (.tup [v, u]), st, T, [v, u], rfl, SqT.of zaA, .cons (rv.mono (e1.trans st.g)) (.cons (ru.mono (e1.trans st.g)) rfl)⟩
theorem zoD {a b : Expr} {fs : DSt → R (List D)} {p pos ps : Pos} {es : List Expr} {ct : Nat} (hm : X.mg "zip" = none) (ha : DA X E [a, b] fs) (hg : Gl X "zip" := by rfl) (hs : starEach [a, b] X.env = [(false, eval a X.env), (false, eval b X.env)] := by rfl) (hs2 : starEach [b] X.env = [(false, eval b X.env)] := by rfl) :
  DI X E (.Tuple es ct ps) (.Call (.Name "zip" p) [a, b] [] pos) (zeq ziU fs) := by
 refine PI.mono' (zsF hg hm ha hs hs2) fun σ H R ⟨G, σd, ok, q⟩ => ?_
 refine ⟨G, σd, ok, q.of_bind.mono (fun ds _ z vs G' H' s r => ?_) fun _ z => z⟩
 match ds, z, r with
 | [.tup xs, .tup ys], z, r =>
  obtain ⟨v, r1, rfl, ⟨a, as, rfl, h1, k1⟩, r2⟩ := r
  obtain ⟨v', r3, rfl, ⟨b, bs, rfl, h2, k2⟩, r4⟩ := r2
  cases r4
  cases hl : (xs.length == ys.length) with
  | false => simp only [ziU, hl, cond_false] at z; exact z.elim
  | true =>
   simp only [ziU, hl, cond_true] at z
   exact ⟨a, b, rfl, .inl ⟨⟨as, zaP.sqT s.e h1⟩, ⟨bs, zaP.sqT s.e h2⟩, z _ G' H' s (.zip h1 h2 k1 k2 (by simpa using hl))⟩⟩
 | [.lst xs, .lst ys], z, r =>
  obtain ⟨v, r1, rfl, ⟨a, as, rfl, h1, k1⟩, r2⟩ := r
  obtain ⟨v', r3, rfl, ⟨b, bs, rfl, h2, k2⟩, r4⟩ := r2
  cases r4
  cases hl : (xs.length == ys.length) with
  | false => simp only [ziU, hl, cond_false] at z; exact z.elim
  | true =>
   simp only [ziU, hl, cond_true] at z
   exact ⟨a, b, rfl, .inr ⟨⟨as, s.e.seq h1⟩, ⟨bs, s.e.seq h2⟩, z _ G' H' s (.zipL h1 h2 k1 k2 (by simpa using hl))⟩⟩
end
end DL
end
section
set_option Elab.async false
set_option linter.all false
set_option maxRecDepth 100000
namespace DL
open PySem L2 PyProof.Rows
def zeT : List D → Option (List Str)
 | [] => some []
 | .cls c :: ds => (zeT ds).map (c :: ·)
 | _ => none
def zj0 (c : Str) : List Str → Option Bool
 | [] => some false
 | d :: ds => match zju c d with
  | some true => some true
  | some false => zj0 c ds
  | none => none
def zsG : D → D → R D
 | .exc c [], .tup ts => match zeT ts with
  | some cs => match zj0 c cs with
   | some b => .ok (.bl b)
   | none => .bad
  | none => .bad
 | _, _ => .bad
section
variable {X : Cx} {E : XK} {K : PySem.W.Frag} {mg : Str → Option Value} {G H : Hp}
variable {x : Str} {p pos : Pos} {e : Expr} {es : List Expr} {fs : DSt → R (List D)}
theorem Reps.clss : ∀ {ds : List D} {cs : List Str} {vs : List V}, zeT ds = some cs → Reps K mg G ds vs → ∃ Ds : List Addr, vs = Ds.map V.ref ∧ cs.map mg = Ds.map fun a => some (.ref a)
 | [], _, _, h, r => by cases h; cases r; exact ⟨[], rfl, rfl⟩
 | .cls c :: ds, _, _, h, ⟨v, t, e1, r1, r2⟩ => by
  subst e1
  cases hd : zeT ds with
  | none => simp [zeT, hd] at h
  | some cs' =>
   simp [zeT, hd] at h
   subst h
   obtain ⟨Ds, rfl, e2⟩ := Reps.clss hd r2
   obtain ⟨C, rfl, hC⟩ := r1
   exact ⟨C :: Ds, rfl, by rw [List.map_cons, List.map_cons, hC, e2]⟩
 | .non :: _, _, _, h, _ => by simp [zeT] at h
 | .bl _ :: _, _, _, h, _ => by simp [zeT] at h
 | .int _ :: _, _, _, h, _ => by simp [zeT] at h
 | .str _ :: _, _, _, h, _ => by simp [zeT] at h
 | .ty _ :: _, _, _, h, _ => by simp [zeT] at h
 | .tup _ :: _, _, _, h, _ => by simp [zeT] at h
 | .lst _ :: _, _, _, h, _ => by simp [zeT] at h
 | .dct _ _ :: _, _, _, h, _ => by simp [zeT] at h
 | .exc _ _ :: _, _, _, h, _ => by simp [zeT] at h
theorem zj1 : ∀ {Ds : List Addr} {us : List Value}, zca (Ds.map V.ref) us → us = Ds.map Value.ref
 | [], _, h => by cases h; rfl
 | T :: Ts, _, h => by
  cases h with
  | cons q t =>
   rw [zj1 t]
   rw [show _ = Value.ref T from q]; rfl
theorem zl5 {c : Str} {C : Addr} (hx : zno K mg c C) : ∀ {cs : List Str} {Ds : List Addr} {b : Bool}, zj0 c cs = some b → (cs.map mg = Ds.map fun a => some (.ref a)) → PySem.W.kitAny K (.ref C) (Ds.map Value.ref) = some b
 | [], [], _, h, _ => h
 | [], _ :: _, _, _, h => by cases h
 | _ :: _, [], _, _, h => by cases h
 | d :: cs, a :: Ds, b, h, he => by
  rw [List.map_cons, List.map_cons, List.cons.injEq] at he
  rw [List.map_cons]
  unfold PySem.W.kitAny
  unfold zj0 at h
  cases hs : zju c d with
  | none => rw [hs] at h; cases h
  | some v =>
   rw [hs] at h
   rw [hx.isi d a v hs he.1]
   cases v with
   | true => exact h
   | false => exact zl5 hx h he.2
def zuF (K : PySem.W.Frag) : List V → Hp → VK → Prop := fun xs H Q => ∃ (a C q : Addr) (Ds : List Addr) (b : Bool), xs = [.ref a, .ref q] ∧ H a = some (zo6 a C none) ∧ zr2 K C ∧ SqT K H q (Ds.map V.ref) ∧ PySem.W.kitAny K (.ref C) (Ds.map Value.ref) = some b ∧ Q (.bl b) H
theorem zoE : zde X (.builtin "isinstance") (zuF X.K) := by
 intro pins s σ H xs us Q I r h
 obtain ⟨a, C, q, Ds, b, rfl, ha, ec, hq, hk, z⟩ := h
 obtain ⟨u, w', rfl, ru, rw'⟩ := zpg r
 cases (show u = Value.ref a from ru)
 cases (show w' = Value.ref q from rw')
 obtain ⟨its, rv, ⟨⟨oc, od, odt, osl⟩, ho, hc, n, hdt⟩, _⟩ := I.tuple hq
 simp only at hc hdt
 subst hc hdt
 have ei := zj1 rv
 subst ei
 obtain ⟨⟨o, e1, e2, e3, e4⟩, _, _⟩ := I.hok a _ ha
 have hI : PySem.W.InstAt s.heap a o C none := ⟨e1, e2, e4, by rw [e3]; trivial⟩
 exact PySem.W.kia_tup (zkV ec) I.kIn ⟨o, none, hI⟩ ho hk (fun z => nomatch z) fun tk => ⟨.bl b, H, I.tok tk, rfl, z⟩
theorem zsH : zgn K mg (zuF K) (g2 zsG) := cd2 fun G H d d' v v' Q e r r' q => by
 cases d with
 | exc c as =>
  cases as with
  | cons b bs => cases d' <;> exact (show False from q).elim
  | nil =>
   cases d' with
   | tup ts =>
    obtain ⟨a, C, dct, vs, rfl, h2, h3, h4, h5⟩ := r
    cases h5
    rcases h4 with ⟨rfl, _⟩ | ⟨dx, w, _, z, _⟩
    ·obtain ⟨q', ws, rfl, k1, k2⟩ := r'
     cases hs : zeT ts with
     | none => simp only [zsG, hs] at q; exact q.elim
     | some cs =>
      cases hb : zj0 c cs with
      | none => simp only [zsG, hs, hb] at q; exact q.elim
      | some b =>
       simp only [zsG, hs, hb] at q
       obtain ⟨Ds, rfl, e2⟩ := Reps.clss hs k2
       exact ⟨a, C, q', Ds, b, rfl, e _ _ h2, h3.exc, zaP.sqT e k1, zl5 h3 hb e2, zaD.now q e rfl⟩
    ·cases z
   | _ => exact (show False from q).elim
 | _ => cases d' <;> exact (show False from q).elim
theorem zsI (hm : X.mg "isinstance" = none) (ha : DA X E (e :: es) fs) (hg : Gl X "isinstance" := by rfl) (he : starEach (e :: es) X.env = (false, eval e X.env) :: starEach es X.env := by rfl) (hpl : (backTo pos (starEach es X.env)).any (·.1) = false := by rfl) : DE X E (.Call (.Name "isinstance" p) (e :: es) [] pos) (zdg (g2 zsG) fs) :=
 zgL zoE zsH hm zlc ha hg (by decide) (by decide) he hpl
end
section
variable {K : PySem.W.Frag} {mg : Str → Option Value}
end
end DL
end
section
set_option Elab.async false
set_option linter.all false
set_option maxRecDepth 100000
namespace Mir
open PySem L2 DL
noncomputable def zdN : DSt → R Out := (zcK (zqB (zdg (g2 zfr) (zaf (zaj 0) (zaf (eC (.ty "int")) zaz))) (zuR (zdg (g2 zfr) (zaf (zaj 0) (zaf (eC (.ty "bool")) zaz))))))
noncomputable def zcp : List D → R D := fnM 1 1 zdN
theorem zfy (a0 : D) : zcp [a0] = fin (zdN [some a0]) := zaU (b := zdN) rfl rfl
noncomputable def zch : DSt → R Out := (zcK (zqB (zdg zsm (zaf (zdF (eLC 1 [0] (zgN (zaj 0)) zaI zbW (zaN zcp (zaf (zaj 0) zaz)))) zaz)) (eOp gNe (zaj 0) (zhy (zaf (eC (.int 0)) (zaf (eC (.int 0)) (zaf (eC (.int 0)) zaz)))))))
noncomputable def zbn : List D → R D := fnM 1 1 zch
theorem zed (a0 : D) : zbn [a0] = fin (zch [some a0]) := zaU (b := zch) rfl rfl
noncomputable def zdk : DSt → R Bool := (zaO (eOp gNe (zaj 1) (eC (.int 0))))
noncomputable def ze0 : DSt → R Out := (zaK 1 (zaj 2))
noncomputable def ze1 : DSt → R Out := (za2 (zaK 0 (zaj 1)) ze0)
noncomputable def zex : DSt → R Out := (za2 (zaK 2 (eOp zfq (zaj 0) (zaj 1))) ze1)
noncomputable def zg6 : DSt → R Out := (zcK (zaj 0))
noncomputable def zg7 : DSt → R Out := (za2 (zbE zdk zex) zg6)
noncomputable def zg8 : DSt → R Out := (za2 (zaK 1 (zdg zpO (zaf (zaj 1) zaz))) zg7)
noncomputable def zfz : DSt → R Out := (za2 (zaK 0 (zdg zpO (zaf (zaj 0) zaz))) zg8)
noncomputable def zbK : List D → R D := fnM 2 3 zfz
theorem zj2 (a0 : D) (a1 : D) : zbK [a0, a1] = fin (zfz [some a0, some a1, none]) := zaU (b := zfz) rfl rfl
noncomputable def zg9 : DSt → R Out := (zcK (zhy (zaf (eOp zfi (eOp gIx (zaj 0) (eC (.int 0))) (zaj 1)) (zaf (eOp zfi (eOp gIx (zaj 0) (eC (.int 1))) (zaj 1)) (zaf (eOp zfi (eOp gIx (zaj 0) (eC (.int 2))) (zaj 1)) zaz)))))
noncomputable def zha : DSt → R Out := (za2 (sIf (zaO (eOp gLt (zaj 2) (eC (.int 0)))) (zaK 1 (eUn zqH (zaj 1))) zcD) zg9)
noncomputable def zhb : DSt → R Out := (za2 (zaK 2 (eOp gIx (zdF (eLC 1 [0] (zgN (zaj 0)) zaI (zaO (eOp gNe (zaj 0) (eC (.int 0)))) (zaj 0))) (eUn zqH (eC (.int 1))))) zha)
noncomputable def zfA : DSt → R Out := (za2 (zaK 1 (zaN zbK (zaf (zaN zbK (zaf (eOp gIx (zaj 0) (eC (.int 0))) (zaf (eOp gIx (zaj 0) (eC (.int 1))) zaz))) (zaf (eOp gIx (zaj 0) (eC (.int 2))) zaz)))) zhb)
noncomputable def zci : List D → R D := fnM 1 3 zfA
theorem zj3 (a0 : D) : zci [a0] = fin (zfA [some a0, none, none]) := zaU (b := zfA) rfl rfl
noncomputable def zcE : DSt → R Out := (zcK (eOp gEq (zaN zci (zaf (zaj 0) zaz)) (zaj 0)))
noncomputable def zcF : DSt → R Out := (za2 (sIf (zks (zaO (zaN zbn (zaf (zaj 0) zaz)))) (zcK (eC (.bl false))) zcD) zcE)
noncomputable def zby : DSt → R Out := (za2 (sIf (eOr (zks (zaO (zdg (g2 zfr) (zaf (zaj 0) (zaf (eC (.ty "tuple")) zaz))))) (zaO (eOp gNe (zdg zi6 (zaf (zaj 0) zaz)) (eC (.int 3))))) (zcK (eC (.bl false))) zcD) zcF)
noncomputable def zav : List D → R D := fnM 1 1 zby
theorem zbo (a0 : D) : zav [a0] = fin (zby [some a0]) := zaU (b := zby) rfl rfl
noncomputable def zp8 : DSt → R Out := (zcK (eOp zc2 (eOp zc2 (eOp zbj (eOp gIx (zaj 0) (eC (.int 0))) (eOp gIx (zaj 1) (eC (.int 0)))) (eOp zbj (eOp gIx (zaj 0) (eC (.int 1))) (eOp gIx (zaj 1) (eC (.int 1))))) (eOp zbj (eOp gIx (zaj 0) (eC (.int 2))) (eOp gIx (zaj 1) (eC (.int 2))))))
noncomputable def zhc : List D → R D := fnM 2 2 zp8
theorem zp9 (a0 : D) (a1 : D) : zhc [a0, a1] = fin (zp8 [some a0, some a1]) := zaU (b := zp8) rfl rfl
noncomputable def zfB : DSt → R Out := (zcK (eOp gEq (zaN zhc (zaf (zaj 0) (zaf (zaj 1) zaz))) (eC (.int 0))))
noncomputable def zdO : List D → R D := fnM 2 2 zfB
theorem zj4 (a0 : D) (a1 : D) : zdO [a0, a1] = fin (zfB [some a0, some a1]) := zaU (b := zfB) rfl rfl
noncomputable def zj5 : DSt → R Out := (zcK (zhy (zaf (zaj 2) (zaf (zaj 3) (zaf (zaj 4) zaz)))))
noncomputable def zj6 : DSt → R Out := (za2 (zaK 4 (eOp gSub (eOp zbj (eOp gIx (zaj 0) (eC (.int 0))) (eOp gIx (zaj 1) (eC (.int 1)))) (eOp zbj (eOp gIx (zaj 0) (eC (.int 1))) (eOp gIx (zaj 1) (eC (.int 0)))))) zj5)
noncomputable def zj7 : DSt → R Out := (za2 (zaK 3 (eOp gSub (eOp zbj (eOp gIx (zaj 0) (eC (.int 2))) (eOp gIx (zaj 1) (eC (.int 0)))) (eOp zbj (eOp gIx (zaj 0) (eC (.int 0))) (eOp gIx (zaj 1) (eC (.int 2)))))) zj6)
noncomputable def ziV : DSt → R Out := (za2 (zaK 2 (eOp gSub (eOp zbj (eOp gIx (zaj 0) (eC (.int 1))) (eOp gIx (zaj 1) (eC (.int 2)))) (eOp zbj (eOp gIx (zaj 0) (eC (.int 2))) (eOp gIx (zaj 1) (eC (.int 1)))))) zj7)
noncomputable def zf2 : List D → R D := fnM 2 5 ziV
theorem zmA (a0 : D) (a1 : D) : zf2 [a0, a1] = fin (ziV [some a0, some a1, none, none, none]) := zaU (b := ziV) rfl rfl
noncomputable def zdl : DSt → R Out := (zcK (zaN zci (zaf (zaN zf2 (zaf (zaj 0) (zaf (zaj 1) zaz))) zaz)))
noncomputable def zbY : DSt → R Out := (za2 (sIf (zaO (eOp gEq (zaj 0) (zaj 1))) eBad zcD) zdl)
noncomputable def za5 : List D → R D := fnM 2 2 zbY
theorem zfl (a0 : D) (a1 : D) : za5 [a0, a1] = fin (zbY [some a0, some a1]) := zaU (b := zbY) rfl rfl
noncomputable def zdm : DSt → R Out := (zcK (zaN za5 (zaf (zaj 0) (zaf (zaj 1) zaz))))
noncomputable def zaS : List D → R D := fnM 2 2 zdm
theorem zhd (a0 : D) (a1 : D) : zaS [a0, a1] = fin (zdm [some a0, some a1]) := zaU (b := zdm) rfl rfl
noncomputable def zfC : DSt → R Out := (zcK (zdg zsm (zaf (zdF (eLC 1 [0] (zgN (zaj 1)) zaI zbW (zaN zdO (zaf (zaj 0) (zaf (zaj 3) zaz))))) zaz)))
noncomputable def zfD : DSt → R Out := (za2 (zaK 2 (zaN zaS (zaf (eOp gIx (zaj 0) (eC (.int 0))) (zaf (eOp gIx (zaj 1) (eC (.int 0))) zaz)))) zfC)
noncomputable def zfE : DSt → R Out := (za2 (sIf (zaO (eOp gEq (zdg zi6 (zaf (zaj 1) zaz)) (eC (.int 0)))) (zcK (eC (.bl true))) zcD) zfD)
noncomputable def zd5 : DSt → R Out := (za2 (zkl [] 1 (zdF (eLC 1 [0] (zgN (zaj 0)) zaI (zaO (eOp gNe (zaj 0) (eOp gIx (zaj 1) (eC (.int 0))))) (zaj 0)))) zfE)
noncomputable def zbL : List D → R D := fnM 1 3 zd5
theorem zhB (a0 : D) : zbL [a0] = fin (zd5 [some a0, none, none]) := zaU (b := zd5) rfl rfl
def zc7 : D := .int 12
noncomputable def zey : DSt → R Out := (zcK (eOp gEq (ziT (zaj 0)) (zdg zi6 (zaf (zaj 0) zaz))))
noncomputable def zc8 : DSt → R Out := (za2 (sIf (zks (zaO (zdg zsm (zaf (zdF (eLC 1 [0] (zgN (zaj 0)) zaI zbW (zaN zav (zaf (zaj 0) zaz)))) zaz)))) (zcK (eC (.bl false))) zcD) zey)
noncomputable def zbS : DSt → R Out := (za2 (sIf (eOr (zks (zaO (zdg (g2 zfr) (zaf (zaj 0) (zaf (eC (.ty "list")) zaz))))) (zks (zaO (zjv gLe gLe (eC (.int 1)) (zdg zi6 (zaf (zaj 0) zaz)) (eC zc7))))) (zcK (eC (.bl false))) zcD) zc8)
noncomputable def zaG : List D → R D := fnM 1 1 zbS
theorem zcM (a0 : D) : zaG [a0] = fin (zbS [some a0]) := zaU (b := zbS) rfl rfl
noncomputable def zhe : DSt → R Out := (zaK 1 (zaN zbK (zaf (zaj 1) (zaf (zaj 2) zaz))))
noncomputable def zh8 : DSt → R Out := (zcK (zdg zjE (zaf (zdF (eLC 1 [0] (zgN (zaj 0)) zaI zbW (eOp zfi (zaj 0) (zaj 2)))) zaz)))
noncomputable def zh9 : DSt → R Out := (za2 (sIf (zaO (eOp gLt (eOp gIx (zdF (eLC 1 [0] (zgN (zaj 0)) zaI (zaO (eOp gNe (zaj 0) (eC (.int 0)))) (zaj 0))) (eC (.int 0))) (eC (.int 0)))) (zaK 1 (eUn zqH (zaj 1))) zcD) zh8)
noncomputable def zia : DSt → R Out := (za2 (zkm [] [2] zaI (zgN (zaj 0)) zhe) zh9)
noncomputable def zgy : DSt → R Out := (za2 (zaK 1 (eC (.int 0))) zia)
noncomputable def zeP : List D → R D := fnM 1 3 zgy
theorem zkE (a0 : D) : zeP [a0] = fin (zgy [some a0, none, none]) := zaU (b := zgy) rfl rfl
noncomputable def za7 : DSt → R Out := (sIf (zaO (zaN zbL (zaf (zdF (zgm (zaf (eOp gIx (zaj 0) (zaj 3)) (zaf (eOp gIx (zaj 0) (zaj 2)) (zaf (eOp gIx (zaj 0) (zaj 1)) zaz))))) zaz))) (zcK (eC (.bl true))) zcD)
noncomputable def zbe : DSt → R Out := (zkm [] [3] zaI (zeq zgO (zaf (zaj 2) zaz)) za7)
noncomputable def zbp : DSt → R Out := (zkm [] [2] zaI (zeq zgO (zaf (zaj 1) zaz)) zbe)
noncomputable def zcP : DSt → R Out := (zcK (eC (.bl false)))
noncomputable def zbF : DSt → R Out := (za2 (zkm [] [1] zaI (zeq zgO (zaf (zdg zi6 (zaf (zaj 0) zaz)) zaz)) zbp) zcP)
noncomputable def zaV : List D → R D := fnM 1 4 zbF
theorem zez (a0 : D) : zaV [a0] = fin (zbF [some a0, none, none, none]) := zaU (b := zbF) rfl rfl
noncomputable def zbz : DSt → R Out := (sIf (eOr (zks (zaO (zaN zaG (zaf (zaj 0) zaz)))) (eOr (zaO (eOp gNe (zdg zi6 (zaf (zaj 0) zaz)) (zaj 1))) (zaO (zaN zaV (zaf (zaj 0) zaz))))) (zkz "NoBow") zcD)
noncomputable def zaQ : List D → R D := fnM 2 2 zbz
theorem zcq (a0 : D) (a1 : D) : zaQ [a0, a1] = fin (zbz [some a0, some a1]) := zaU (b := zbz) rfl rfl
noncomputable def zeA : DSt → R Out := (zcK (eOp zc2 (zaj 3) (zaj 4)))
noncomputable def zeB : DSt → R Out := (za2 (zkl [] 4 (zdF (eLC 2 [0, 1] (zgN (zhy (zaf (zhy (zaf (eC (.int 0)) (zaf (eC (.int 1)) zaz))) (zaf (zhy (zaf (eC (.int 0)) (zaf (eC (.int 2)) zaz))) (zaf (zhy (zaf (eC (.int 1)) (zaf (eC (.int 2)) zaz))) zaz))))) (zdE 2) zbW (eOp zc2 (eOp zbj (eOp gIx (zaj 3) (zaj 0)) (eOp gIx (zaj 4) (zaj 1))) (eOp zbj (eOp gIx (zaj 3) (zaj 1)) (eOp gIx (zaj 4) (zaj 0))))))) zeA)
noncomputable def zeC : DSt → R Out := (za2 (zkl [] 3 (zdF (eLC 1 [0] (zeq zgO (zaf (eC (.int 3)) zaz)) zaI zbW (eOp zbj (eOp gIx (zaj 2) (zaj 0)) (eOp gIx (zaj 3) (zaj 0)))))) zeB)
noncomputable def zeD : DSt → R Out := (za2 (zaK 2 (eOp gIx (zaj 0) (eC (.int 1)))) zeC)
noncomputable def zcT : DSt → R Out := (za2 (zaK 1 (eOp gIx (zaj 0) (eC (.int 0)))) zeD)
noncomputable def zbq : List D → R D := fnM 1 5 zcT
theorem zgr (a0 : D) : zbq [a0] = fin (zcT [some a0, none, none, none, none]) := zaU (b := zcT) rfl rfl
noncomputable def zib : DSt → R Out := (zcK (zaN zeP (zaf (zdF (eLC 2 [0, 1] (zeq ziU (zaf (eOp gIx (zaj 5) (eC (.int 0))) (zaf (eOp gIx (zaj 5) (eC (.int 1))) zaz))) (zdE 2) zbW (eOp gSub (eOp zbj (zaj 5) (zaj 0)) (eOp zbj (zaj 6) (zaj 1))))) zaz)))
noncomputable def zic : DSt → R Out := (za2 (zaK 5 (zhy (zaf (zaN zbq (zaf (zaj 1) zaz)) (zaf (zaN zbq (zaf (zaj 2) zaz)) zaz)))) zib)
noncomputable def zid : DSt → R Out := (za2 (zaK 4 (eOp zbj (zaN zhc (zaf (eOp gIx (zaj 1) (eC (.int 0))) (zaf (eOp gIx (zaj 0) (eC (.int 4))) zaz))) (zaN zhc (zaf (eOp gIx (zaj 1) (eC (.int 1))) (zaf (eOp gIx (zaj 0) (eC (.int 4))) zaz))))) zic)
noncomputable def zie : DSt → R Out := (za2 (zaK 3 (eOp zbj (zaN zhc (zaf (eOp gIx (zaj 2) (eC (.int 0))) (zaf (eOp gIx (zaj 0) (eC (.int 4))) zaz))) (zaN zhc (zaf (eOp gIx (zaj 2) (eC (.int 1))) (zaf (eOp gIx (zaj 0) (eC (.int 4))) zaz))))) zid)
noncomputable def zif : DSt → R Out := (za2 (zaK 2 (zhy (zaf (zaN zaS (zaf (eOp gIx (zaj 0) (eC (.int 0))) (zaf (eOp gIx (zaj 0) (eC (.int 2))) zaz))) (zaf (zaN zaS (zaf (eOp gIx (zaj 0) (eC (.int 1))) (zaf (eOp gIx (zaj 0) (eC (.int 3))) zaz))) zaz)))) zie)
noncomputable def zig : DSt → R Out := (za2 (zaK 1 (zhy (zaf (zaN zaS (zaf (eOp gIx (zaj 0) (eC (.int 0))) (zaf (eOp gIx (zaj 0) (eC (.int 1))) zaz))) (zaf (zaN zaS (zaf (eOp gIx (zaj 0) (eC (.int 2))) (zaf (eOp gIx (zaj 0) (eC (.int 3))) zaz))) zaz)))) zif)
noncomputable def zfF : DSt → R Out := (za2 (znx (zaN zaQ (zaf (zaj 0) (zaf (eC (.int 5)) zaz)))) zig)
noncomputable def zbG : List D → R D := fnM 1 6 zfF
theorem zhf (a0 : D) : zbG [a0] = fin (zfF [some a0, none, none, none, none, none]) := zaU (b := zfF) rfl rfl
noncomputable def zih : DSt → R Out := (zcK (eOp gEq (zdg zuW (zaf (zdF (eLC 2 [0, 1] (zeq ziU (zaf (zaj 0) (zaf (zaj 5) zaz))) (zdE 2) zbW (eOp zbj (zaj 0) (zaj 1)))) zaz)) (eC (.int 0))))
noncomputable def zii : DSt → R Out := (za2 (zaK 5 (zhy (zaf (eOp zbj (zaj 2) (zaj 2)) (zaf (eOp zbj (zaj 3) (zaj 3)) (zaf (eOp zbj (zaj 4) (zaj 4)) (zaf (eOp zbj (zaj 2) (zaj 3)) (zaf (eOp zbj (zaj 2) (zaj 4)) (zaf (eOp zbj (zaj 3) (zaj 4)) zaz)))))))) zih)
noncomputable def zij : DSt → R Out := (za2 (zaK 4 (eOp gIx (zaj 1) (eC (.int 2)))) zii)
noncomputable def zik : DSt → R Out := (za2 (zaK 3 (eOp gIx (zaj 1) (eC (.int 1)))) zij)
noncomputable def zgz : DSt → R Out := (za2 (zaK 2 (eOp gIx (zaj 1) (eC (.int 0)))) zik)
noncomputable def zeQ : List D → R D := fnM 2 6 zgz
theorem zkF (a0 : D) (a1 : D) : zeQ [a0, a1] = fin (zgz [some a0, some a1, none, none, none, none]) := zaU (b := zgz) rfl rfl
noncomputable def zcm : DSt → R Out := (zkl [4] 3 (eOp zfi (zaj 3) (eOp zsk (eC (.int 10)) (eC (.int 6)))))
noncomputable def zcQ : DSt → R Out := (za2 (zsV [4] 4 (eOp zfq (zaj 3) (eOp zsk (eC (.int 10)) (eC (.int 6))))) zcm)
noncomputable def zcn : DSt → R Out := (zsV [4] 4 (eOp zfq (eOp zbj (eOp zfq (eOp zbj (zaj 6) (zaj 6)) (eC (.int 2147483629))) (eC (.int 48271))) (eC (.int 2147483647))))
noncomputable def zbf : DSt → R Out := (za2 (zkl [4] 6 (eOp zfq (eOp zbj (eOp zfq (eOp zc2 (eOp zc2 (zaj 2) (eOp zbj (eOp zbj (eC (.int 101)) (zaj 5)) (zaj 5))) (zaj 5)) (eC (.int 2147483647))) (eC (.int 48271))) (eC (.int 2147483647)))) zcn)
noncomputable def za4 : DSt → R Out := (sIf (zsT (zaO (eOp gGe (zaj 2) (eOp zsk (eC (.int 10)) (eC (.int 18))))) (zaO (eOp gGt (zaj 3) (eC (.int 0))))) zcQ zbf)
noncomputable def zdn : DSt → R Out := (zcK (zaj 4))
noncomputable def zdo : DSt → R Out := (za2 (zkm [4] [5] zaI (zeq zgO (zaf (zaj 1) zaz)) za4) zdn)
noncomputable def zdp : DSt → R Out := (za2 (zsU [] 4 (zgm zaz)) zdo)
noncomputable def zdq : DSt → R Out := (za2 (zaK 3 (zaj 2)) zdp)
noncomputable def zbZ : DSt → R Out := (za2 (zaK 2 (zdg zuV (zaf (zaj 0) (zaf (eOp gSub (eUn zqH (eC (.int 1))) (zaj 0)) zaz)))) zdq)
noncomputable def zaX : List D → R D := fnM 2 7 zbZ
theorem zfm (a0 : D) (a1 : D) : zaX [a0, a1] = fin (zbZ [some a0, some a1, none, none, none, none, none]) := zaU (b := zbZ) rfl rfl
noncomputable def zd6 : DSt → R Out := (zcK (zqB (zdg (g2 zfr) (zaf (zaj 0) (zaf (eC (.ty "int")) zaz))) (zuR (zdg (g2 zfr) (zaf (zaj 0) (zaf (eC (.ty "bool")) zaz))))))
noncomputable def zcr : List D → R D := fnM 1 1 zd6
theorem zhC (a0 : D) : zcr [a0] = fin (zd6 [some a0]) := zaU (b := zd6) rfl rfl
noncomputable def zbr : DSt → R Bool := (zaO (eOp gNe (zaj 4) (eC (.int 0))))
noncomputable def zb2 : DSt → R Out := (zuS [] 3 4 (zaf (zaj 4) (zaf (eOp zfq (zaj 3) (zaj 4)) zaz)))
noncomputable def zdr : DSt → R Out := (zbE zbr zb2)
noncomputable def zcs : DSt → R Out := (zcK (zhy (zaf (eOp zfi (zaj 0) (zaj 3)) (zaf (eOp zfi (zaj 1) (zaj 3)) (zaf (eOp zfi (zaj 2) (zaj 3)) zaz)))))
noncomputable def zdP : DSt → R Out := (za2 (sIf (zaO (eOp gLt (zaj 5) (eC (.int 0)))) (zaK 3 (eOp gSub (eC (.int 0)) (zaj 3))) zcD) zcs)
noncomputable def zdQ : DSt → R Out := (za2 (zaK 5 (eOp gIx (zdF (eLC 1 [0] (zgN (zdF (zgm (zaf (zaj 0) (zaf (zaj 1) (zaf (zaj 2) zaz)))))) zaI (zaO (eOp gNe (zaj 0) (eC (.int 0)))) (zaj 0))) (eUn zqH (eC (.int 1))))) zdP)
noncomputable def zdR : DSt → R Out := (za2 (zkm [] [4] zaI (zgN (zdF (zgm (zaf (zdg zpO (zaf (zaj 1) zaz)) (zaf (zdg zpO (zaf (zaj 2) zaz)) zaz))))) zdr) zdQ)
noncomputable def zcj : DSt → R Out := (za2 (zaK 3 (zdg zpO (zaf (zaj 0) zaz))) zdR)
noncomputable def zaL : List D → R D := fnM 3 6 zcj
theorem zfG (a0 : D) (a1 : D) (a2 : D) : zaL [a0, a1, a2] = fin (zcj [some a0, some a1, some a2, none, none, none]) := zaU (b := zcj) rfl rfl
noncomputable def zcN : DSt → R Out := (zcK (zaN zaL (zaf (zaj 2) (zaf (zaj 3) (zaf (zaj 4) zaz)))))
noncomputable def zee : DSt → R Out := (za2 (sIf (zsT (zaO (eOp gEq (zaj 2) (eC (.int 0)))) (zsT (zaO (eOp gEq (zaj 3) (eC (.int 0)))) (zaO (eOp gEq (zaj 4) (eC (.int 0)))))) (zaK 4 (eC (.int 1))) zcD) zcN)
noncomputable def zef : DSt → R Out := (za2 (zaK 4 (eOp gSub (eOp zfq (eOp gIx (zaj 0) (eC (.int 2))) (eOp zc2 (eOp zbj (eC (.int 2)) (zaj 1)) (eC (.int 1)))) (zaj 1))) zee)
noncomputable def zeg : DSt → R Out := (za2 (zaK 3 (eOp gSub (eOp zfq (eOp gIx (zaj 0) (eC (.int 1))) (eOp zc2 (eOp zbj (eC (.int 2)) (zaj 1)) (eC (.int 1)))) (zaj 1))) zef)
noncomputable def zeh : DSt → R Out := (za2 (zaK 2 (eOp gSub (eOp zfq (eOp gIx (zaj 0) (eC (.int 0))) (eOp zc2 (eOp zbj (eC (.int 2)) (zaj 1)) (eC (.int 1)))) (zaj 1))) zeg)
noncomputable def zcy : DSt → R Out := (za2 (zaK 1 (eOp gIx (zdF (zgm (zaf (eC (.int 2)) (zaf (eC (.int 5)) (zaf (eC (.int 1000)) zaz))))) (eOp zfq (eOp gIx (zaj 0) (eC (.int 3))) (eC (.int 3))))) zeh)
noncomputable def za1 : List D → R D := fnM 1 5 zcy
theorem zf3 (a0 : D) : za1 [a0] = fin (zcy [some a0, none, none, none, none]) := zaU (b := zcy) rfl rfl
noncomputable def zfH : DSt → R Out := (zcK (eOp zc2 (eOp zc2 (eOp zbj (eOp gIx (zaj 0) (eC (.int 0))) (eOp gIx (zaj 1) (eC (.int 0)))) (eOp zbj (eOp gIx (zaj 0) (eC (.int 1))) (eOp gIx (zaj 1) (eC (.int 1))))) (eOp zbj (eOp gIx (zaj 0) (eC (.int 2))) (eOp gIx (zaj 1) (eC (.int 2))))))
noncomputable def zcG : List D → R D := fnM 2 2 zfH
theorem zj8 (a0 : D) (a1 : D) : zcG [a0, a1] = fin (zfH [some a0, some a1]) := zaU (b := zfH) rfl rfl
noncomputable def zdH : DSt → R Out := (zcK (eOp zc2 (eOp gSub (zaj 9) (zaj 10)) (eOp zbj (eOp gIx (zaj 0) (eC (.int 2))) (eOp gSub (eOp zbj (zaj 3) (zaj 7)) (eOp zbj (zaj 4) (zaj 6))))))
noncomputable def zdI : DSt → R Out := (za2 (zaK 10 (eOp zbj (eOp gIx (zaj 0) (eC (.int 1))) (eOp gSub (eOp zbj (zaj 3) (zaj 8)) (eOp zbj (zaj 5) (zaj 6))))) zdH)
noncomputable def zdJ : DSt → R Out := (za2 (zaK 9 (eOp zbj (eOp gIx (zaj 0) (eC (.int 0))) (eOp gSub (eOp zbj (zaj 4) (zaj 8)) (eOp zbj (zaj 5) (zaj 7))))) zdI)
noncomputable def zdK : DSt → R Out := (za2 (ztX [] [6, 7, 8] (zdE 3) (zaj 2)) zdJ)
noncomputable def zcH : DSt → R Out := (za2 (ztX [] [3, 4, 5] (zdE 3) (zaj 1)) zdK)
noncomputable def zbk : List D → R D := fnM 3 11 zcH
theorem zhg (a0 : D) (a1 : D) (a2 : D) : zbk [a0, a1, a2] = fin (zcH [some a0, some a1, some a2, none, none, none, none, none, none, none, none]) := zaU (b := zcH) rfl rfl
noncomputable def zdS : DSt → R Out := (zsV [2] 2 (zdF (eLC 1 [0] (zgN (zaj 4)) zaI zbW (eOp gSub (eOp zfq (zaj 0) (eOp zc2 (eOp zbj (eC (.int 2)) (zaj 2)) (eC (.int 1)))) (zaj 2)))))
noncomputable def zc9 : DSt → R Out := (za2 (zkl [2] 4 (zdF (eLC 1 [0] (zeq zgO (zaf (eC (.int 3)) zaz)) zaI zbW (eOp gIx (zaj 1) (eOp zc2 (eOp zbj (eC (.int 3)) (zaj 4)) (zaj 0)))))) zdS)
noncomputable def ze2 : DSt → R Out := (zcK (zaj 2))
noncomputable def ze3 : DSt → R Out := (za2 (sIf (zaO (eOp gEq (zaN zbk (zaf (eOp gIx (zaj 2) (eC (.int 0))) (zaf (eOp gIx (zaj 2) (eC (.int 1))) (zaf (eOp gIx (zaj 2) (eC (.int 2))) zaz)))) (eC (.int 0)))) (zcK (zdF (zgm (zaf (zdF (zgm (zaf (eC (.int 1)) (zaf (eOp zfq (eOp gIx (zaj 0) (eC (.int 0))) (eC (.int 7))) (zaf (eOp zfq (eOp gIx (zaj 0) (eC (.int 1))) (eC (.int 5))) zaz))))) (zaf (zdF (zgm (zaf (eC (.int 0)) (zaf (eC (.int 1)) (zaf (eOp zfq (eOp gIx (zaj 0) (eC (.int 2))) (eC (.int 9))) zaz))))) (zaf (zdF (zgm (zaf (eC (.int 0)) (zaf (eC (.int 0)) (zaf (eOp zc2 (eC (.int 1)) (eOp zfq (eOp gIx (zaj 0) (eC (.int 4))) (eC (.int 4)))) zaz))))) zaz)))))) zcD) ze2)
noncomputable def ze4 : DSt → R Out := (za2 (zkm [2] [3] zaI (zeq zgO (zaf (eC (.int 3)) zaz)) zc9) ze3)
noncomputable def ze5 : DSt → R Out := (za2 (zsU [] 2 (zgm zaz)) ze4)
noncomputable def zds : DSt → R Out := (za2 (zaK 1 (eOp gIx (zdF (zgm (zaf (eC (.int 1)) (zaf (eC (.int 2)) (zaf (eC (.int 30)) zaz))))) (eOp zfq (eOp gIx (zaj 0) (eC (.int 9))) (eC (.int 3))))) ze5)
noncomputable def zbM : List D → R D := fnM 1 5 zds
theorem zhh (a0 : D) : zbM [a0] = fin (zds [some a0, none, none, none, none]) := zaU (b := zds) rfl rfl
noncomputable def zdt : DSt → R Out := (zcK (zaN zaL (zaf (zaN zcG (zaf (eOp gIx (zaj 0) (eC (.int 0))) (zaf (zaj 1) zaz))) (zaf (zaN zcG (zaf (eOp gIx (zaj 0) (eC (.int 1))) (zaf (zaj 1) zaz))) (zaf (zaN zcG (zaf (eOp gIx (zaj 0) (eC (.int 2))) (zaf (zaj 1) zaz))) zaz)))))
noncomputable def zbN : List D → R D := fnM 2 2 zdt
theorem zhi (a0 : D) (a1 : D) : zbN [a0, a1] = fin (zdt [some a0, some a1]) := zaU (b := zdt) rfl rfl
noncomputable def zb0 : DSt → R Out := (zsV [2] 2 (zaN zbN (zaf (zaj 1) (zaf (zhy (zaf (eOp zbj (zaj 4) (zaj 4)) (zaf (eOp zbj (zaj 4) (zaj 5)) (zaf (eOp zbj (zaj 5) (zaj 5)) zaz)))) zaz))))
noncomputable def zei : DSt → R Out := (za2 (sIf (zsT (zaO (eOp gEq (zaj 4) (eC (.int 0)))) (zaO (eOp gEq (zaj 5) (eC (.int 0))))) (zkl [2] 5 (eC (.int 1))) zcD) zb0)
noncomputable def zej : DSt → R Out := (za2 (zkl [2] 5 (eOp zfq (eOp gIx (zaj 0) (eOp zc2 (eOp zbj (eC (.int 2)) (zaj 3)) (eC (.int 1)))) (eC (.int 4)))) zei)
noncomputable def zbX : DSt → R Out := (za2 (zkl [2] 4 (eOp gSub (eOp zfq (eOp gIx (zaj 0) (eOp zbj (eC (.int 2)) (zaj 3))) (eC (.int 13))) (eC (.int 6)))) zej)
noncomputable def zfI : DSt → R Out := (zcK (zaj 2))
noncomputable def zfJ : DSt → R Out := (za2 (zkm [2] [3] zaI (zeq zgO (zaf (eOp zfi (zdg zi6 (zaf (zaj 0) zaz)) (eC (.int 2))) zaz)) zbX) zfI)
noncomputable def zd7 : DSt → R Out := (za2 (zsU [] 2 (zgm zaz)) zfJ)
noncomputable def zct : List D → R D := fnM 2 6 zd7
theorem zhD (a0 : D) (a1 : D) : zct [a0, a1] = fin (zd7 [some a0, some a1, none, none, none, none]) := zaU (b := zd7) rfl rfl
noncomputable def zcz : DSt → R Out := (sIf (zaO (eOp gEq (zaN zbk (zaf (eOp gIx (zaj 0) (zaj 1)) (zaf (eOp gIx (zaj 0) (zaj 2)) (zaf (eOp gIx (zaj 0) (zaj 3)) zaz)))) (eC (.int 0)))) (zcK (eC (.bl true))) zcD)
noncomputable def zcU : DSt → R Out := (zkm [] [3] zaI (zeq zgO (zaf (zaj 2) zaz)) zcz)
noncomputable def zdu : DSt → R Out := (zkm [] [2] zaI (zeq zgO (zaf (zaj 1) zaz)) zcU)
noncomputable def zfK : DSt → R Out := (zcK (eC (.bl false)))
noncomputable def zd8 : DSt → R Out := (za2 (zkm [] [1] zaI (zeq zgO (zaf (zdg zi6 (zaf (zaj 0) zaz)) zaz)) zdu) zfK)
noncomputable def zcu : List D → R D := fnM 1 4 zd8
theorem zhE (a0 : D) : zcu [a0] = fin (zd8 [some a0, none, none, none]) := zaU (b := zd8) rfl rfl
noncomputable def zfL : DSt → R Out := (zcK (eOp zc2 (eOp zc2 (eOp zc2 (zaj 5) (eOp zbj (eOp zbj (eOp gIx (zaj 0) (eC (.int 3))) (zaj 2)) (zaj 3))) (eOp zbj (eOp zbj (eOp gIx (zaj 0) (eC (.int 4))) (zaj 2)) (zaj 4))) (eOp zbj (eOp zbj (eOp gIx (zaj 0) (eC (.int 5))) (zaj 3)) (zaj 4))))
noncomputable def zfM : DSt → R Out := (za2 (zaK 5 (eOp zc2 (eOp zc2 (eOp zbj (eOp zbj (eOp gIx (zaj 0) (eC (.int 0))) (zaj 2)) (zaj 2)) (eOp zbj (eOp zbj (eOp gIx (zaj 0) (eC (.int 1))) (zaj 3)) (zaj 3))) (eOp zbj (eOp zbj (eOp gIx (zaj 0) (eC (.int 2))) (zaj 4)) (zaj 4)))) zfL)
noncomputable def zd9 : DSt → R Out := (za2 (ztX [] [2, 3, 4] (zdE 3) (zaj 1)) zfM)
noncomputable def zbO : List D → R D := fnM 2 6 zd9
theorem zhF (a0 : D) (a1 : D) : zbO [a0, a1] = fin (zd9 [some a0, some a1, none, none, none, none]) := zaU (b := zd9) rfl rfl
noncomputable def za8 : DSt → R Bool := (zaO (eOp gNe (zaj 3) (eC (.int 0))))
noncomputable def zbP : DSt → R Out := (zuS [] 1 3 (zaf (zaj 3) (zaf (eOp zfq (zaj 1) (zaj 3)) zaz)))
noncomputable def zcR : DSt → R Out := (zbE za8 zbP)
noncomputable def za9 : DSt → R Out := (za2 (zaK 3 (zdg zpO (zaf (zaj 2) zaz))) zcR)
noncomputable def zdT : DSt → R Out := (zcK (zqB (eOp gEq (zaj 1) (eC (.int 1))) (eOp gGt (eOp gIx (zdF (eLC 1 [0] (zgN (zaj 0)) zaI (zaO (eOp gNe (zaj 0) (eC (.int 0)))) (zaj 0))) (eC (.int 0))) (eC (.int 0)))))
noncomputable def zdU : DSt → R Out := (za2 (zkm [] [2] zaI (zgN (zaj 0)) za9) zdT)
noncomputable def zck : DSt → R Out := (za2 (zaK 1 (eC (.int 0))) zdU)
noncomputable def zbi : List D → R D := fnM 1 4 zck
theorem zfN (a0 : D) : zbi [a0] = fin (zck [some a0, none, none, none]) := zaU (b := zck) rfl rfl
noncomputable def ze6 : DSt → R Out := (zcK (eOp gEq (zdF (eLC 1 [0] (zgN (zaj 1)) zaI (zaO (eOp gNe (zaN zbO (zaf (zaj 1) (zaf (zaj 0) zaz))) (eC (.int 0)))) (zaj 0))) (zdF (zgm zaz))))
noncomputable def ze7 : DSt → R Out := (za2 (sIf (eOr (zaO (eOp gEq (zaj 0) (zhy (zaf (eC (.int 0)) (zaf (eC (.int 0)) (zaf (eC (.int 0)) (zaf (eC (.int 0)) (zaf (eC (.int 0)) (zaf (eC (.int 0)) zaz))))))))) (zks (zaO (zaN zbi (zaf (zaj 0) zaz))))) (zcK (eC (.bl false))) zcD) ze6)
noncomputable def zdv : DSt → R Out := (za2 (sIf (eOr (zks (zaO (zdg (g2 zfr) (zaf (zaj 0) (zaf (eC (.ty "tuple")) zaz))))) (eOr (zaO (eOp gNe (zdg zi6 (zaf (zaj 0) zaz)) (eC (.int 6)))) (zaO (eOp gNe (zdF (eLC 1 [0] (zgN (zaj 0)) zaI (zks (zaO (zaN zcr (zaf (zaj 0) zaz)))) (zaj 0))) (zdF (zgm zaz)))))) (zcK (eC (.bl false))) zcD) ze7)
noncomputable def zb4 : List D → R D := fnM 2 2 zdv
theorem zhj (a0 : D) (a1 : D) : zb4 [a0, a1] = fin (zdv [some a0, some a1]) := zaU (b := zdv) rfl rfl
noncomputable def zdw : DSt → R Out := (zcK (zqB (zdg (g2 zfr) (zaf (zaj 1) (zaf (eC (.cls "NoBow")) zaz))) (zdg (g2 zfr) (zaf (zaj 1) (zaf (eC (.ty "ValueError")) zaz)))))
noncomputable def zdx : DSt → R Out := (za2 (sIf (zaO (zdg (g2 zsG) (zaf (zaj 1) (zaf (zhy (zaf (eC (.cls "NoPlace")) (zaf (eC (.cls "NoRatio")) (zaf (eC (.cls "Same")) zaz)))) zaz)))) (zcK (eC (.bl false))) zcD) zdw)
noncomputable def zdy : DSt → R Out := (za2 (zuY 2 "ChalkError" (znx (zlg zbG (zaf (zaj 0) zaz))) (zaK 1 (zaj 2))) zdx)
noncomputable def zb1 : DSt → R Out := (za2 (zaK 1 (eC .non)) zdy)
noncomputable def zaM : List D → R D := fnM 1 3 zb1
theorem zfn (a0 : D) : zaM [a0] = fin (zb1 [some a0, none, none]) := zaU (b := zb1) rfl rfl
noncomputable def zda : DSt → R Out := (sIf (eOr (zks (zaO (zdg (g2 zfr) (zaf (zaj 6) (zaf (eC (.ty "bool")) zaz))))) (zaO (eOp gNe (zaj 6) (eOp gEq (zaN zbO (zaf (zaj 4) (zaf (zaj 5) zaz))) (eC (.int 0)))))) (zcK (eC (.bl false))) zcD)
noncomputable def zcv : DSt → R Out := (za2 (zaK 6 (zaN zeQ (zaf (zaj 4) (zaf (zaj 5) zaz)))) zda)
noncomputable def zek : DSt → R Out := (zcK (eOp gEq (zaN zbG (zaf (zdF (eLC 1 [0] (zeq zgO (zaf (eC (.int 5)) zaz)) zaI zbW (eOp gIx (zaj 1) (eOp zfq (eOp zc2 (eOp zbj (zaj 3) (zaj 0)) (eC (.int 1))) (eC (.int 5)))))) zaz)) (zaj 4)))
noncomputable def zel : DSt → R Out := (za2 (zkm [] [5] zaI (zgN (zaj 1)) zcv) zek)
noncomputable def zem : DSt → R Out := (za2 (sIf (eOr (zaO (eOp gNe (zaj 3) (zaj 0))) (zks (zaO (zaN zb4 (zaf (zaj 4) (zaf (zaj 0) zaz)))))) (zcK (eC (.bl false))) zcD) zel)
noncomputable def zen : DSt → R Out := (za2 (zaK 4 (zaN zbG (zaf (zaj 3) zaz))) zem)
noncomputable def zeo : DSt → R Out := (za2 (sIf (zaO (zaN zcu (zaf (zaj 0) zaz))) (zcK (zqB (zaN zaM (zaf (zaj 3) zaz)) (eOp gEq (zaj 3) (zaj 0)))) zcD) zen)
noncomputable def zcA : DSt → R Out := (za2 (zaK 3 (zdF (zpQ zpR (zaf (zaj 0) zaz)))) zeo)
noncomputable def zbA : List D → R D := fnM 3 7 zcA
theorem zf4 (a0 : D) (a1 : D) (a2 : D) : zbA [a0, a1, a2] = fin (zcA [some a0, some a1, some a2, none, none, none, none]) := zaU (b := zcA) rfl rfl
noncomputable def zgc : DSt → R Out := (sIf (zks (zaO (zaN zaM (zaf (zaj 8) zaz)))) (zcK (eC (.bl false))) zcD)
noncomputable def zgd : DSt → R Out := (za2 (zaK 8 (eOp gIx (zdF (zgm (zaf (eSl (zaj 6) zgq (zdG (eC (.int 4)))) (zaf (eOp zc2 (zaj 6) (zdF (zgm (zaf (eOp gIx (zaj 4) (eC (.int 5))) zaz)))) (zaf (zdg zjE (zaf (zaj 6) zaz)) (zaf (eC .non) (zaf (zdF (zgm zaz)) (zaf (eOp zc2 (eSl (zaj 6) zgq (zdG (eC (.int 4)))) (zdF (zgm (zaf (zaj 7) zaz)))) (zaf (eOp zc2 (zdF (zgm (zaf (zaj 7) zaz))) (eSl (zaj 6) (zdG (eC (.int 1))) zgq)) zaz))))))))) (eOp zfq (eOp gIx (zaj 2) (eC (.int 50))) (eC (.int 7))))) zgc)
noncomputable def zge : DSt → R Out := (za2 (zaK 7 (eOp gIx (zdF (zgm (zaf (eC .non) (zaf (eC (.str "a")) (zaf (zhy (zaf (eC (.int 0)) (zaf (eC (.int 0)) (zaf (eC (.int 0)) zaz)))) (zaf (zhy (zaf (eC (.int 2)) (zaf (eC (.int 0)) (zaf (eC (.int 2)) zaz)))) (zaf (zhy (zaf (eC (.int 1)) (zaf (eC (.int 0)) zaz))) (zaf (zdF (zgm (zaf (eC (.int 1)) (zaf (eC (.int 0)) (zaf (eC (.int 1)) zaz))))) (zaf (zhy (zaf (eC (.bl true)) (zaf (eC (.int 0)) (zaf (eC (.int 1)) zaz)))) zaz))))))))) (eOp zfq (eOp gIx (zaj 2) (eC (.int 51))) (eC (.int 7))))) zgd)
noncomputable def zdz : DSt → R Out := (za2 (sIf (zks (zaO (zaN zbA (zaf (zaj 6) (zaf (zdF (zgm (zaf (eOp gIx (zaj 4) (eC (.int 5))) (zaf (eOp gIx (zaj 5) (eC (.int 5))) zaz)))) (zaf (eOp zc2 (eC (.int 1)) (eOp zfq (eOp gIx (zaj 2) (eC (.int 23))) (eC (.int 4)))) zaz)))))) (zcK (eC (.bl false))) zcD) zge)
noncomputable def zgf : DSt → R Out := (za2 (sIf (zaO (eOp gEq (eOp zfq (eOp gIx (zaj 2) (eC (.int 22))) (eC (.int 4))) (eC (.int 1)))) (zaK 6 (eSl (zaj 5) zgq (zdG (eC (.int 5))))) zcD) zdz)
noncomputable def zgg : DSt → R Out := (za2 (zaK 6 (eSl (zaj 4) zgq (zdG (eC (.int 5))))) zgf)
noncomputable def zgh : DSt → R Out := (za2 (zkl [] 5 (zdF (eLC 1 [0] (zeq zgO (zaf (eC (.int 6)) zaz)) zaI zbW (zaN za1 (zaf (eSl (zaj 3) (zdG (eOp zc2 (eC (.int 24)) (eOp zbj (eC (.int 4)) (zaj 0)))) (zdG (eOp zc2 (eC (.int 28)) (eOp zbj (eC (.int 4)) (zaj 0))))) zaz))))) zgg)
noncomputable def zgi : DSt → R Out := (za2 (zaK 4 (zaN zct (zaf (eSl (zaj 2) (zdG (eC (.int 10))) (zdG (eC (.int 22)))) (zaf (zaj 3) zaz)))) zgh)
noncomputable def zgj : DSt → R Out := (za2 (zaK 3 (zaN zbM (zaf (eSl (zaj 2) zgq (zdG (eC (.int 10)))) zaz))) zgi)
noncomputable def zcw : DSt → R Out := (za2 (zaK 2 (zaN zaX (zaf (zaj 1) (zaf (eC (.int 60)) zaz)))) zgj)
noncomputable def zhk : DSt → R Out := (zcK (eC (.bl true)))
noncomputable def zfO : DSt → R Out := (za2 (zkm [] [1] zaI (zgN (eSl (eOp zc2 (zdF (zgm (zaf (eC (.int 0)) zaz))) (zaj 0)) zgq (zdG (eC (.int 24))))) zcw) zhk)
noncomputable def zfP : List D → R D := fnM 1 9 zfO
theorem zj9 (a0 : D) : zfP [a0] = fin (zfO [some a0, none, none, none, none, none, none, none, none]) := zaU (b := zfO) rfl rfl
end Mir
end
section
set_option Elab.async false
set_option linter.all false
set_option maxRecDepth 100000
open PySem L2 DL Mir
local macro_rules | `(tactic| walk_at "ev") => `(tactic| simp only [zlh, znO, znP, znQ, znR, zli, zjF, zjG, zjH, zqL, znS, znT, znU, zqM, zgT, zlj, zjI, zhZ, zjJ, zlk, znV, zjK, zll, zjL, zlm, zgU, zln, zjM, zlo, zqO, zqP, zqQ, zqR, zqS, zqT, zqU, zqV, zlp, zqW, zqX, zqY, zqZ, zq0, zq1, zq2, zlq, zlr, zjN, zls, zlt, zq3, zq4, znW, zuq, zur, zlu, znX, zlv, znY, znZ, zn0, zq5, zq6, zlw, zlx, zn1, zq7, zq8, zn2, zut, zuu, zh0, zh1, zly, zjO, zh2, zh3, zlA, zn3, zlB, zjP, zlC, zjQ, zjR, zlD, zn4, zlE, zlF, zn6, zlG, zn7, zn8, zn9, zoa, zlH, zob, zh4, zlI, zgW, zlJ, zoc, zlK, zrb, zrc, zod, zoe, zof, zrd, zre, zrf, zrg, zrh, zri, zrj, zrk, zrl, zrm, zrn, zro, zrp, zog, zoh, zlM, zmv, zlN, zlO, zlP, zlQ, zlR, zlS, zrq, zoi, zoj, zok, zol, zom, eq_self, decide_true, decide_false, Int.reduceEq, Int.reduceLT, Int.reduceLE, Int.reduceNeg, Int.reduceToNat, zrr, zon, zoo, zrs, zgY, zgb, zgZ, zh6, zg0, zg1, zg2, zg3, zlT, zjU, zlU, zlV, zop, zoq, zlW, zor, zd4, zl0, ziP, zlX, zlY, zlZ, zjV, zos, zgu, mask, zgo, List.contains_cons, List.contains_nil, Bool.or_false, Bool.false_or, Bool.true_or, Bool.or_true, Nat.reduceBEq, Nat.reduceAdd, Nat.zero_add, cond_true, cond_false, List.set_cons_zero, List.set_cons_succ, Bool.not_true, Bool.not_false, Bool.not_not, Bool.true_and, Bool.false_and, Bool.and_true, Bool.and_false])
local macro_rules | `(tactic| walk_at "side") => `(tactic| first | assumption | decide | omega | (refine zsu ?_ ?_ <;> omega) | (refine zsv ?_ ?_ ?_ <;> omega) | (refine zru ?_ ?_ <;> omega) | (simp only [List.length_cons, List.length_nil, List.length_append, List.length_map]; omega))
local macro_rules | `(tactic| walk_at "evd") => `(tactic| simp (disch := walk_at "side") only [zlh, znO, znP, znQ, znR, zli, zjF, zjG, zjH, zqL, znS, znT, znU, zqM, zgT, zlj, zjI, zhZ, zjJ, zlk, znV, zjK, zll, zjL, zlm, zgU, zln, zjM, zlo, zqO, zqP, zqQ, zqR, zqS, zqT, zqU, zqV, zlp, zqW, zqX, zqY, zqZ, zq0, zq1, zq2, zlq, zlr, zjN, zls, zlt, zq3, zq4, znW, zuq, zur, zlu, znX, zlv, znY, znZ, zn0, zq5, zq6, zlw, zlx, zn1, zq7, zq8, zn2, zut, zuu, zh0, zh1, zly, zjO, zh2, zh3, zlA, zn3, zlB, zjP, zlC, zjQ, zjR, zlD, zn4, zlE, zlF, zn6, zlG, zn7, zn8, zn9, zoa, zlH, zob, zh4, zlI, zgW, zlJ, zoc, zlK, zrb, zrc, zod, zoe, zof, zrd, zre, zrf, zrg, zrh, zri, zrj, zrk, zrl, zrm, zrn, zro, zrp, zog, zoh, zlM, zmv, zlN, zlO, zlP, zlQ, zlR, zlS, zrq, zoi, zoj, zok, zol, zom, eq_self, decide_true, decide_false, Int.reduceEq, Int.reduceLT, Int.reduceLE, Int.reduceNeg, Int.reduceToNat, zrr, zon, zoo, zrs, zgY, zgb, zgZ, zh6, zg0, zg1, zg2, zg3, zlT, zjU, zlU, zlV, zop, zoq, zlW, zor, zd4, zl0, ziP, zlX, zlY, zlZ, zjV, zos, zgu, mask, zgo, List.contains_cons, List.contains_nil, Bool.or_false, Bool.false_or, Bool.true_or, Bool.or_true, Nat.reduceBEq, Nat.reduceAdd, Nat.zero_add, cond_true, cond_false, List.set_cons_zero, List.set_cons_succ, Bool.not_true, Bool.not_false, Bool.not_not, Bool.true_and, Bool.false_and, Bool.and_true, Bool.and_false, zap, zjS, zaF, zsx, zsy, zrt, zsA, zgV, zpZ, zp1, zn5])
namespace LmP
open Mth
theorem zu1 {n : Nat} {i : Int} (h : B n i) : i.natAbs ≤ 2 ^ n - 1 := by unfold B at h; omega
theorem zl6 {n : Nat} {x y z : Int} (hx : B n x) (hy : B n y) (hz : B n z) (h : NZ x y z) (hn : n ≤ 9000) : znF (zer x y z) = true := by
 refine zkx (n := n) ?_ (zc1 h).ne hn
 have := zr4 (zu1 hx) (zu1 hy) (zu1 hz)
 have p : 0 < 2 ^ n := Nat.pow_pos (by decide)
 unfold B; omega
theorem zf5 (a b : Int) : zbK [.int a, .int b] = .ok (.int ((Nat.gcd a.natAbs b.natAbs : Nat) : Int)) := by
 rw [zj2]
 unfold zfz zg8 zg7 zg6
 walk_at "ev"
 have loop : ∀ (n m : Nat) (z : Option D), ∃ z', zbE zdk zex [some (.int (m : Int)), some (.int (n : Int)), z] = .ok (.nx [some (.int ((Nat.gcd m n : Nat) : Int)), some (.int 0), z']) := by
  intro n
  induction n using Nat.strongRecOn with
  | _ n ih =>
   intro m z
   by_cases hn : n = 0
   ·subst hn
    refine ⟨z, ?_⟩
    rw [ziR (by unfold zdk; walk_at "ev"; rfl), Nat.gcd_zero_right]; rfl
   ·have hlt : m % n < n := Nat.mod_lt _ (by omega)
    obtain ⟨z', h⟩ := ih (m % n) hlt n (some (.int ((m % n : Nat) : Int)))
    refine ⟨z', ?_⟩
    rw [ziQ (σ' := [some (.int (n : Int)), some (.int ((m % n : Nat) : Int)), some (.int ((m % n : Nat) : Int))]) ?_ ?_, h, Mth.gcd_step]
    ·unfold zdk; walk_at "ev"
     simp [hn]
    ·unfold zex ze1 ze0; walk_at "ev"
     rw [zaF _ _ (by omega)]
     walk_at "ev"
     rfl
 obtain ⟨z', h⟩ := loop b.natAbs a.natAbs none
 rw [h]
 walk_at "ev"
theorem zmB (i : Int) : zcp [.int i] = .ok (.bl true) := by
 rw [zfy]; unfold zdN; walk_at "ev"
theorem zuG (x y z : Int) : (!decide (x = 0 ∧ y = 0 ∧ z = 0)) = decide (NZ x y z) := by
 unfold NZ; by_cases h : x = 0 ∧ y = 0 ∧ z = 0 <;> simp [h]
theorem zfQ (x y z : Int) : zbn [t3 x y z] = .ok (.bl (decide (NZ x y z))) := by
 rw [zed]; unfold zch; walk_at "ev"
 rw [zjW (g := fun _ => .bl true) (by simp) (fun d hd => ?_)]
 ·walk_at "ev"
  rw [show zsm [.lst ([D.int x, D.int y, D.int z].map fun _ => D.bl true)] = .ok (.bl true) from rfl]
  walk_at "ev"
  rw [zuG]
 ·simp only [List.mem_cons, List.not_mem_nil, or_false] at hd
  rcases hd with rfl | rfl | rfl <;> (walk_at "ev"; exact zmB _)
theorem zoF (x y z : Int) (h : NZ x y z) (σ : DSt) : opK gIx (zss (lcK 1 [0] (.ok [.int x, .int y, .int z]) zaI (zaO (eOp gNe (zaj 0) (eC (.int 0)))) (zaj 0) σ)) (.ok (.int (-1))) = .ok (.int (zaR x y z)) := by
 rw [zeu (p := fun d => !eqD d (.int 0)) (g := id) (by simp) (fun d hd => ?_) (fun d hd _ => ?_)]
 ·walk_at "ev"
  unfold zaR
  by_cases hz : z = 0
  ·by_cases hy : y = 0
   ·have hx : x ≠ 0 := fun e => h ⟨e, hy, hz⟩
    subst hz; subst hy
    simp only [List.filter_cons, List.filter_nil, zet, hx, decide_false, decide_true, Bool.not_false, Bool.not_true, if_true, Bool.false_eq_true, if_false, List.map_cons, List.map_nil, id, ne_eq, not_true_eq_false]
    rfl
   ·subst hz
    by_cases hx : x = 0
    ·subst hx
     simp only [List.filter_cons, List.filter_nil, zet, hy, decide_false, decide_true, Bool.not_false, Bool.not_true, if_true, Bool.false_eq_true, if_false, List.map_cons, List.map_nil, id, ne_eq, not_true_eq_false, not_false_eq_true]
     rfl
    ·simp only [List.filter_cons, List.filter_nil, zet, hx, hy, decide_false, decide_true, Bool.not_false, Bool.not_true, if_true, Bool.false_eq_true, if_false, List.map_cons, List.map_nil, id, ne_eq, not_true_eq_false, not_false_eq_true]
     rfl
  ·have e : List.map id (List.filter (fun d => !eqD d (.int 0)) [.int x, .int y, .int z]) = List.map id (List.filter (fun d => !eqD d (.int 0)) [.int x, .int y]) ++ [D.int z] := by
    rw [show ([.int x, .int y, .int z] : List D) = [.int x, .int y] ++ [.int z] from rfl, List.filter_append, List.map_append]
    congr 1
    simp [zet, hz]
   rw [e, zp3]
   simp [hz]
 ·simp only [List.mem_cons, List.not_mem_nil, or_false] at hd
  rcases hd with rfl | rfl | rfl <;> (walk_at "ev"; rw [zet])
 ·simp only [List.mem_cons, List.not_mem_nil, or_false] at hd
  rcases hd with rfl | rfl | rfl <;> (walk_at "ev"; rfl)
abbrev lowD (x y z : Int) : D := t3 (x.fdiv (zer x y z)) (y.fdiv (zer x y z)) (z.fdiv (zer x y z))
theorem zil (x y z : Int) : (zaR x y z < 0 ∧ zer x y z = -((g3 x y z : Nat) : Int)) ∨ (¬ zaR x y z < 0 ∧ zer x y z = ((g3 x y z : Nat) : Int)) := by
 unfold zer
 by_cases h : zaR x y z < 0
 ·left; rw [if_pos h]; exact ⟨h, by omega⟩
 ·right; rw [if_neg h]; exact ⟨h, rfl⟩
theorem zka {n : Nat} {x y z : Int} (hx : B n x) (hy : B n y) (hz : B n z) (h : NZ x y z) (hn : n ≤ 9000) : zci [t3 x y z] = .ok (lowD x y z) := by
 have hd := zl6 hx hy hz h hn
 rw [zj3]; unfold zfA zhb zha zg9; walk_at "ev"
 rw [zf5]; walk_at "ev"
 rw [zf5]; walk_at "ev"
 rw [zoF x y z h]; walk_at "ev"
 rw [Int.natAbs_natCast]
 rcases zil x y z with ⟨hl, hs⟩ | ⟨hl, hs⟩
 ·rw [decide_eq_true hl]; walk_at "ev"
  rw [show -(((Nat.gcd (Nat.gcd x.natAbs y.natAbs) z.natAbs : Nat)) : Int) = zer x y z from hs.symm, zbR _ _ hd, zbR _ _ hd, zbR _ _ hd]
  walk_at "ev"
 ·rw [decide_eq_false hl]; walk_at "ev"
  rw [show (((Nat.gcd (Nat.gcd x.natAbs y.natAbs) z.natAbs : Nat)) : Int) = zer x y z from hs.symm, zbR _ _ hd, zbR _ _ hd, zbR _ _ hd]
  walk_at "ev"
theorem zim {n : Nat} {x y z : Int} (hx : B n x) (hy : B n y) (hz : B n z) (h : NZ x y z) (hn : n ≤ 9000) : zav [t3 x y z] = .ok (.bl (decide (x.fdiv (zer x y z) = x ∧ y.fdiv (zer x y z) = y ∧ z.fdiv (zer x y z) = z))) := by
 rw [zbo]; unfold zby zcF zcE; walk_at "ev"
 rw [zfQ, decide_eq_true h]; walk_at "ev"
 rw [zka hx hy hz h hn]; walk_at "ev"
theorem zmC : zav [t3 0 0 0] = .ok (.bl false) := by
 rw [zbo]; unfold zby zcF zcE; walk_at "ev"
 rw [zfQ]; rfl
end LmP
set_option Elab.async false
set_option linter.all false
set_option maxRecDepth 100000
open PySem L2 DL Mir
namespace LmA
open Mth LmP
theorem zkG (i : Int) : zcr [.int i] = .ok (.bl true) := by
 rw [zhC]; unfold zd6; walk_at "ev"
end LmA
set_option Elab.async false
set_option linter.all false
set_option maxRecDepth 100000
open PySem L2 DL Mir
namespace LmD
open Mth LmP LmA
abbrev ptD (p : P3) : D := t3 p.1 p.2.1 p.2.2
structure BP (n : Nat) (p : P3) : Prop where
 x : B n p.1
 y : B n p.2.1
 z : B n p.2.2
theorem BP.mono {m n : Nat} {p : P3} (h : BP m p) (hn : m ≤ n) : BP n p := ⟨h.x.mono hn, h.y.mono hn, h.z.mono hn⟩
theorem BP.crs {m n : Nat} {p q : P3} (hp : BP m p) (hq : BP n q) : BP (m + n + 1) (Mth.crs p q) :=
 ⟨((hp.y.mul hq.z).sub (hp.z.mul hq.y)).mono (by omega), ((hp.z.mul hq.x).sub (hp.x.mul hq.z)).mono (by omega), ((hp.x.mul hq.y).sub (hp.y.mul hq.x)).mono (by omega)⟩
theorem BP.dot {m n : Nat} {p q : P3} (hp : BP m p) (hq : BP n q) : B (m + n + 2) (Mth.dot p q) :=
 (((hp.x.mul hq.x).add (hp.y.mul hq.y)).add (hp.z.mul hq.z)).mono (by omega)
theorem BP.low {n : Nat} {p : P3} (h : BP n p) (hz : Nz p) : BP n (Mth.low p) := by
 obtain ⟨a, b, c⟩ := zr5 hz
 exact ⟨Nat.lt_of_le_of_lt a h.x, Nat.lt_of_le_of_lt b h.y, Nat.lt_of_le_of_lt c h.z⟩
theorem zat {n : Nat} {i : Int} (h : B n i) (hn : n ≤ 10000) : zhA i = true := znE h (by omega)
theorem eqP (p q : P3) : (p.1 = q.1 ∧ p.2.1 = q.2.1 ∧ p.2.2 = q.2.2) ↔ p = q := ⟨fun ⟨a, b, c⟩ => Prod.ext a (Prod.ext b c), fun h => by subst h; exact ⟨rfl, rfl, rfl⟩⟩
theorem zuH (p q : P3) : eqD (ptD p) (ptD q) = decide (p = q) := by
 rw [zjT, decide_eq_decide.mpr (eqP p q)]
theorem zqa (d : D) (ds : List D) : gIx (.lst (d :: ds)) (.int 0) = .ok d := zkA (j := 0) rfl
theorem zkb {m n : Nat} {p q : P3} (hp : BP m p) (hq : BP n q) (hm : m ≤ 10000) (hn : n ≤ 10000) : zhc [ptD p, ptD q] = .ok (.int (dot p q)) := by
 rw [zp9]; unfold zp8; walk_at "ev"
 rw [zap _ _ (zat hp.x hm) (zat hq.x hn), zap _ _ (zat hp.y hm) (zat hq.y hn), zap _ _ (zat hp.z hm) (zat hq.z hn)]; walk_at "ev"
 rfl
theorem zqb {m n : Nat} {p q : P3} (hp : BP m p) (hq : BP n q) (hm : m ≤ 10000) (hn : n ≤ 10000) : zf2 [ptD p, ptD q] = .ok (ptD (crs p q)) := by
 rw [zmA]; unfold ziV zj7 zj6 zj5; walk_at "ev"
 rw [zap _ _ (zat hp.y hm) (zat hq.z hn), zap _ _ (zat hp.z hm) (zat hq.y hn)]; walk_at "ev"
 rw [zap _ _ (zat hp.z hm) (zat hq.x hn), zap _ _ (zat hp.x hm) (zat hq.z hn)]; walk_at "ev"
 rw [zap _ _ (zat hp.x hm) (zat hq.y hn), zap _ _ (zat hp.y hm) (zat hq.x hn)]; walk_at "ev"
 rfl
structure BM (n : Nat) (m : M3) : Prop where
 a : BP n m.1
 b : BP n m.2.1
 c : BP n m.2.2
theorem BM.mul {k n : Nat} {m : M3} {p : P3} (h : BM k m) (hp : BP n p) : BP (k + n + 2) (Mth.mul m p) := ⟨h.a.dot hp, h.b.dot hp, h.c.dot hp⟩
theorem ziW : ∀ {ns : List Int}, zaE ns ≠ 0 → gIx (.lst (((ns.map D.int).filter fun d => !eqD d (.int 0)).map id)) (.int 0) = .ok (.int (zaE ns))
 | [], h => absurd rfl h
 | n :: ns, h => by
  unfold zaE at h ⊢
  rw [List.map_cons, List.filter_cons, zet]
  by_cases e : n = 0
  ·rw [if_pos e] at h ⊢
   rw [decide_eq_true e]
   exact ziW h
  ·rw [if_neg e, decide_eq_false e]
   exact zqa _ _
theorem zoG {ns : List Int} {s : Int} {σ : DSt} (hl : ns.length ≤ 1000) (h : znF s = true) {j : Nat} (hj : zaj j σ = .ok (.int s)) : lcK 1 [0] (.ok (ns.map D.int)) zaI zbW (eOp zfi (zaj 0) (zaj (j + 1))) σ = .ok ((ns.map fun n => n.fdiv s).map .int) := by
 rw [zjW (g := fun d => match d with | .int n => .int (n.fdiv s) | d => d) (by rw [List.length_map]; omega) (fun d hd => ?_)]
 ·rw [List.map_map, List.map_map]; rfl
 ·obtain ⟨n, _, rfl⟩ := List.mem_map.mp hd
  walk_at "ev"
  rw [hj]; walk_at "ev"
  exact zbR _ _ h
theorem zsJ {k n : Nat} {ns : List Int} (hb : ∀ i ∈ ns, B n i) (h : zaE ns ≠ 0) (hn : n ≤ 9000) : znF (zdZ ns) = true := by
 refine zkx (n := n) ?_ (zes h) hn
 have := zr7 (ns := ns) (k := 2 ^ n - 1) fun i hi => zu1 (hb i hi)
 have p : 0 < 2 ^ n := Nat.pow_pos (by decide)
 unfold B; omega
end LmD
set_option Elab.async false
set_option linter.all false
set_option maxRecDepth 100000
open PySem L2 DL Mir
namespace LmE
open Mth LmP LmA LmD
abbrev ptL (p : P3) : D := l3 p.1 p.2.1 p.2.2
end LmE
set_option Elab.async false
set_option linter.all false
set_option maxRecDepth 100000
open PySem L2 DL Mir
namespace Lk42
open Mth LmP LmA LmD LmE
theorem eSl_to (fe f : DSt → R D) (σ : DSt) (ds : List D) (n : Nat) (h1 : fe σ = .ok (.lst ds)) (h2 : f σ = .ok (.int (n : Int))) : eSl fe zgq (zdG f) σ = .ok (.lst (ds.take n)) := by
 unfold eSl zgq zdG
 rw [h1, h2]
 show R.ok (D.lst (zmL ds none (some (n : Int)))) = _
 unfold zmL
 rw [HT.sIx_none, HT.sIx_nat, List.drop_zero, Nat.sub_zero, ← List.take_eq_take_min]
theorem gAdd_ll {xs ys : List D} (h : xs.length + ys.length ≤ 1000000) : zc2 (.lst xs) (.lst ys) = .ok (.lst (xs ++ ys)) := by
 show (bif znG (xs.length + ys.length) then _ else _) = _
 rw [show znG (xs.length + ys.length) = true from decide_eq_true (Nat.le_trans h (by decide))]; rfl
end Lk42
set_option Elab.async false
set_option linter.all false
set_option maxRecDepth 100000
open PySem L2 DL Mir
namespace LmB
open Mth LmP LmA LmD
theorem zmD {n : Nat} {p : P3} (h : BP n p) (hz : Nz p) (hn : n ≤ 9000) : zci [t3 p.1 p.2.1 p.2.2] = .ok (ptD (low p)) := zka h.x h.y h.z hz hn
theorem zmE {n : Nat} {p q : P3} (hp : BP n p) (hq : BP n q) (hn : n ≤ 4000) (hne : p ≠ q) (hL : Nz (crs p q)) : za5 [ptD p, ptD q] = .ok (ptD (low (crs p q))) := by
 rw [zfl]; unfold zbY zdl; walk_at "ev"
 rw [decide_eq_false (fun h => hne ((eqP p q).mp h))]; walk_at "ev"
 rw [zqb hp hq (by omega) (by omega)]; walk_at "ev"
 rw [zmD (hp.crs hq) hL (by omega)]; walk_at "ev"
theorem zdV {n : Nat} {p q : P3} (hp : BP n p) (hq : BP n q) (hn : n ≤ 4000) (hne : p ≠ q) (hL : Nz (crs p q)) : zaS [ptD p, ptD q] = .ok (ptD (low (crs p q))) := by
 rw [zhd]; unfold zdm; walk_at "ev"
 rw [zmE hp hq hn hne hL]; walk_at "ev"
theorem zsK {m n : Nat} {p q : P3} (hp : BP m p) (hq : BP n q) (hm : m ≤ 10000) (hn : n ≤ 10000) : zdO [ptD p, ptD q] = .ok (.bl (decide (dot p q = 0))) := by
 rw [zj4]; unfold zfB; walk_at "ev"
 rw [zkb hp hq hm hn]; walk_at "ev"
theorem zgA (bs : List Bool) : zsm [.lst (bs.map D.bl)] = .ok (.bl (bs.all id)) := by
 show zqJ (.lst (bs.map D.bl)) = _
 simp only [zqJ, zjD]
theorem zoH {α : Type} {xs : List α} {f : α → D} {e : DSt → R D} {σ : DSt} {g : α → D} (hl : xs.length ≤ 1000000) (h : ∀ a ∈ xs, e (some (f a) :: σ) = .ok (g a)) : lcK 1 [0] (.ok (xs.map f)) zaI zbW e σ = .ok (xs.map g) := by
 have go : ∀ xs : List α, (∀ a ∈ xs, e (some (f a) :: σ) = .ok (g a)) → lcD [0] zaI zbW e (List.replicate 1 none ++ σ) (xs.map f) = .ok (xs.map g) := by
  intro xs
  induction xs with
  | nil => intro _; rfl
  | cons d ds ih =>
   intro h
   show (e (some (f d) :: σ)).bind (fun y => (lcD [0] zaI zbW e (List.replicate 1 none ++ σ) (ds.map f)).bind fun ys => .ok (y :: ys)) = _
   rw [h d List.mem_cons_self, ih fun d' hd => h d' (List.mem_cons_of_mem _ hd)]; rfl
 show (bif most (xs.map f).length then _ else _) = _
 rw [zkC (by rw [List.length_map]; exact hl), go xs h]; rfl
structure Pts (n : Nat) (ps : List P3) : Prop where
 nrm : ∀ p ∈ ps, Nrm p
 bd : ∀ p ∈ ps, BP n p
theorem zoI {n : Nat} {ps : List P3} (h : Pts n ps) (hn : n ≤ 4000) (hl : ps.length ≤ 100000) : ∃ b, zbL [.lst (ps.map ptD)] = .ok (.bl b) ∧ (b = true ↔ Col ps) := by
 rw [zhB]; unfold zd5; walk_at "ev"
 cases ps with
 | nil =>
  refine ⟨true, ?_, fun _ => Col.same (p0 := (0, 0, 0)) (by simp), fun _ => rfl⟩
  rfl
 | cons p0 ps =>
  rw [zeu (p := fun d => !eqD d (ptD p0)) (g := id) (by rw [List.length_map]; omega) (fun d hd => ?_) (fun d hd _ => ?_)]
  ·rw [List.map_id]
   have hf : ((p0 :: ps).map ptD).filter (fun d => !eqD d (ptD p0)) = ((p0 :: ps).filter fun p => !decide (p = p0)).map ptD := by
    rw [List.filter_map]
    congr 1
    apply List.filter_congr
    intro p _
    exact congrArg _ (zuH p p0)
   rw [hf]; walk_at "ev"
   unfold zfE; walk_at "ev"
   cases ho : (p0 :: ps).filter (fun p => !decide (p = p0)) with
   | nil =>
    refine ⟨true, by rfl, fun _ => Col.same (p0 := p0) fun p hp => ?_, fun _ => rfl⟩
    by_cases e : p = p0
    ·exact e
    ·have : p ∈ (p0 :: ps).filter (fun p => !decide (p = p0)) := List.mem_filter.mpr ⟨hp, by simp [e]⟩
     rw [ho] at this; cases this
   | cons o os =>
    have mo : o ∈ p0 :: ps ∧ o ≠ p0 := by
     have : o ∈ (p0 :: ps).filter (fun p => !decide (p = p0)) := by rw [ho]; exact List.mem_cons_self
     rw [List.mem_filter] at this
     exact ⟨this.1, by simpa using this.2⟩
    have m0 : p0 ∈ p0 :: ps := List.mem_cons_self
    have hL : Nz (crs p0 o) := zpx (h.nrm _ m0) (h.nrm _ mo.1) fun e => mo.2 e.symm
    have hthru := zdV (h.bd _ m0) (h.bd _ mo.1) hn (fun e => mo.2 e.symm) hL
    rw [decide_eq_false (by simp; omega)]; walk_at "ev"
    simp only [List.map_cons]
    unfold zfD; walk_at "ev"
    rw [zqa, zqa]; walk_at "ev"
    rw [hthru]; walk_at "ev"
    unfold zfC; walk_at "ev"
    have hos : ∀ p ∈ o :: os, p ∈ p0 :: ps := fun p hp => by
     rw [← ho] at hp; exact (List.mem_filter.mp hp).1
    have hle : (o :: os).length ≤ 100000 := by
     rw [← ho]; exact Nat.le_trans (List.length_filter_le _ _) hl
    rw [← List.map_cons (f := ptD), zoH (g := fun p => .bl (decide (dot p (low (crs p0 o)) = 0))) (by omega) (fun p hp => ?_)]
    ·walk_at "ev"
     rw [show (o :: os).map (fun p => D.bl (decide (dot p (low (crs p0 o)) = 0))) = ((o :: os).map fun p => decide (dot p (low (crs p0 o)) = 0)).map D.bl by rw [List.map_map]; rfl, zgA]; walk_at "ev"
     refine ⟨_, rfl, ?_⟩
     rw [Col.iff m0 mo.1 hL, List.all_map, List.all_eq_true]
     constructor
     ·intro q p hp
      by_cases e : p = p0
      ·subst e; unfold dot crs; grind
      ·have : p ∈ o :: os := by rw [← ho]; exact List.mem_filter.mpr ⟨hp, by simp [e]⟩
       exact (zkp hL).mp (of_decide_eq_true (q p this))
     ·intro q p hp
      exact decide_eq_true ((zkp hL).mpr (q p (hos p hp)))
    ·walk_at "ev"
     rw [zsK (h.bd _ (hos p hp)) (((h.bd _ m0).crs (h.bd _ mo.1)).low hL) (by omega) (by omega)]
  ·obtain ⟨p, _, rfl⟩ := List.mem_map.mp hd
   walk_at "ev"
   rw [List.map_cons, zqa]; walk_at "ev"
   rw [zjT]
  ·rfl
end LmB
set_option Elab.async false
set_option linter.all false
set_option maxRecDepth 100000
open PySem L2 DL Mir
namespace LmF
open Mth LmP LmA LmD LmE
theorem zoJ : ∀ (ns : List Int) (g : Nat) (s a : Option D), ∃ a', zhz [2] zaI (zaK 1 (zaN zbK (zaf (zaj 1) (zaf (zaj 2) zaz)))) (ns.map .int) [s, some (.int (g : Int)), a] = .ok (.nx [s, some (.int ((ns.foldl (fun g n => Nat.gcd g n.natAbs) g : Nat) : Int)), a'])
 | [], g, s, a => ⟨a, rfl⟩
 | n :: ns, g, s, a => by
  obtain ⟨a', h⟩ := zoJ ns (Nat.gcd g n.natAbs) s (some (.int n))
  refine ⟨a', ?_⟩
  rw [List.map_cons, zd4]; walk_at "ev"
  rw [zf5, Int.natAbs_natCast]; walk_at "ev"
  exact h
theorem zqc (ns : List Int) (s a : Option D) : ∃ a', zhz [2] zaI (zaK 1 (zaN zbK (zaf (zaj 1) (zaf (zaj 2) zaz)))) (ns.map .int) [s, some (.int 0), a] = .ok (.nx [s, some (.int ((ns.foldl (fun g n => Nat.gcd g n.natAbs) 0 : Nat) : Int)), a']) := zoJ ns 0 s a
theorem zv4 {a b c x y z : D} {e : DSt → R D} {σ : DSt} (ha : e (some a :: σ) = .ok x) (hb : e (some b :: σ) = .ok y) (hc : e (some c :: σ) = .ok z) : lcK 1 [0] (.ok [a, b, c]) zaI zbW e σ = .ok [x, y, z] := by
 have t : lcD [0] zaI zbW e (List.replicate 1 none ++ σ) [a, b, c] = (e (some a :: σ)).bind (fun y => ((e (some b :: σ)).bind fun y' => ((e (some c :: σ)).bind fun y'' => (R.ok ([] : List D)).bind fun ys => .ok (y'' :: ys)).bind fun ys => .ok (y' :: ys)).bind fun ys => .ok (y :: ys)) := rfl
 show (bif most 3 then (lcD [0] zaI zbW e (List.replicate 1 none ++ σ) [a, b, c]).noerr else .bad) = _
 rw [t, ha, hb, hc]; rfl
end LmF
set_option Elab.async false
set_option linter.all false
set_option maxRecDepth 100000
open PySem L2 DL Mir
namespace LmH
open Mth LmP LmA LmD LmB LmE LmF
theorem zgk {n : Nat} {p : P3} (hp : BP n p) (h : Nrm p) (hn : n ≤ 9000) : zav [ptD p] = .ok (.bl true) := by
 rw [zim hp.x hp.y hp.z h.nz hn, show zer p.1 p.2.1 p.2.2 = 1 from h.one, ziA, ziA, ziA]
 simp
def key (p : P3) : List Int := [p.1, p.2.1, p.2.2]
theorem zsL {p q : P3} (h : key p = key q) : p = q := by
 simp only [key, List.cons.injEq, and_true] at h
 exact Prod.ext h.1 (Prod.ext h.2.1 h.2.2)
theorem zl7 : ∀ ps : List P3, zb3 (ps.map ptD) = some (ps.map key)
 | [] => rfl
 | p :: ps => by
  have ih := zl7 ps
  rw [List.map_cons, List.map_cons]
  unfold zb3
  rw [ih]; rfl
end LmH
set_option Elab.async false
set_option linter.all false
set_option maxRecDepth 100000
open PySem L2 DL Mir
namespace LmI
open Mth LmP LmA LmD LmB LmE LmF LmH
theorem zv5 {a b c d f g x y z : D} {e : DSt → R D} {σ : DSt} (h1 : e (some a :: some b :: σ) = .ok x) (h2 : e (some c :: some d :: σ) = .ok y) (h3 : e (some f :: some g :: σ) = .ok z) : lcK 2 [0, 1] (.ok [.tup [a, b], .tup [c, d], .tup [f, g]]) (zdE 2) zbW e σ = .ok [x, y, z] := by
 have t : lcD [0, 1] (zdE 2) zbW e (List.replicate 2 none ++ σ) [.tup [a, b], .tup [c, d], .tup [f, g]] = (e (some a :: some b :: σ)).bind (fun y1 => ((e (some c :: some d :: σ)).bind fun y2 => ((e (some f :: some g :: σ)).bind fun y3 => (R.ok ([] : List D)).bind fun ys => .ok (y3 :: ys)).bind fun ys => .ok (y2 :: ys)).bind fun ys => .ok (y1 :: ys)) := rfl
 show (bif most 3 then (lcD [0, 1] (zdE 2) zbW e (List.replicate 2 none ++ σ) [.tup [a, b], .tup [c, d], .tup [f, g]]).noerr else .bad) = _
 rw [t, h1, h2, h3]; rfl
theorem Pts.snoc {n : Nat} {ps : List P3} {r : P3} (h : Pts n ps) (hr : Nrm r) (br : BP n r) : Pts n (ps ++ [r]) :=
 ⟨fun p hp => (List.mem_append.mp hp).elim (h.nrm p) fun z => by rw [List.mem_singleton.mp z]; exact hr, fun p hp => (List.mem_append.mp hp).elim (h.bd p) fun z => by rw [List.mem_singleton.mp z]; exact br⟩
end LmI
set_option Elab.async false
set_option linter.all false
set_option maxRecDepth 100000
open PySem L2 DL Mir
namespace LmJ
open Mth LmP LmA LmD LmB LmE LmF LmH LmI
def rg (lo m : Nat) : List Nat := (List.range (m - lo)).map (lo + ·)
theorem zdb {lo m k : Nat} : k ∈ rg lo m ↔ lo ≤ k ∧ k < m := by
 unfold rg
 rw [List.mem_map]
 constructor
 ·rintro ⟨i, hi, rfl⟩
  have := List.mem_range.mp hi
  omega
 ·rintro ⟨h1, h2⟩
  exact ⟨k - lo, List.mem_range.mpr (by omega), by omega⟩
theorem zsM (lo m : Nat) : znw (lo : Int) ((m : Int) - (lo : Int)).toNat = (rg lo m).map fun k : Nat => D.int (k : Int) := by
 unfold znw rg
 rw [List.map_map, show ((m : Int) - (lo : Int)).toNat = m - lo by omega]
 congr 1
theorem zfo {i : Nat} {fb : DSt → R Out} (I : DSt → Prop) (g : Nat → Option D) : ∀ (ks : List Nat), (∀ k ∈ ks, ∀ σ, I σ → (∃ v, g k = some v ∧ fb (σ.set i (some (.int (k : Int)))) = .ok (.rt v)) ∨ (g k = none ∧ ∃ σ', fb (σ.set i (some (.int (k : Int)))) = .ok (.nx σ') ∧ I σ')) → ∀ σ, I σ →
  (∃ v, ks.findSome? g = some v ∧ zhz [i] zaI fb (ks.map fun k : Nat => .int (k : Int)) σ = .ok (.rt v)) ∨ (ks.findSome? g = none ∧ ∃ σ', zhz [i] zaI fb (ks.map fun k : Nat => .int (k : Int)) σ = .ok (.nx σ') ∧ I σ')
 | [], _, σ, h => .inr ⟨rfl, σ, rfl, h⟩
 | k :: ks, hs, σ, h => by
  rw [List.map_cons, zd4, List.findSome?_cons]
  rcases hs k (by simp) σ h with ⟨v, e1, e2⟩ | ⟨e1, σ', e2, h'⟩
  ·rw [e1, e2]; exact .inl ⟨v, rfl, rfl⟩
  ·rw [e1, e2, ziP]
   exact zfo I g ks (fun k hk => hs k (by simp [hk])) σ' h'
structure Fl (ps : List P3) : Prop where
 pts : Pts 24 ps
 nd : ps.Nodup
 one : 1 ≤ ps.length
 most : ps.length ≤ 12
def pk (ps : List P3) (k : Nat) : P3 := ps.getD k (0, 0, 1)
theorem zfR {ps : List P3} {k : Nat} (h : k < ps.length) : ps[k]? = some (pk ps k) := by simp [pk, h]
theorem zcI {ps : List P3} {k : Nat} (h : k < ps.length) : pk ps k ∈ ps := List.mem_of_getElem? (zfR h)
theorem Fl.ix {ps : List P3} {k : Nat} (h : k < ps.length) : gIx (.lst (ps.map ptD)) (.int (k : Int)) = .ok (ptD (pk ps k)) := zkA (by rw [List.getElem?_map, zfR h]; rfl)
end LmJ
set_option Elab.async false
set_option linter.all false
set_option maxRecDepth 100000
open PySem L2 DL Mir
namespace Lk43
open Mth LmP LmA LmD LmE LmF
end Lk43
set_option Elab.async false
set_option linter.all false
set_option maxRecDepth 100000
open PySem L2 DL Mir
namespace Lk44
open Mth LmP LmA LmD LmB LmE LmF LmH Lk43
end Lk44
set_option Elab.async false
set_option linter.all false
set_option maxRecDepth 100000
open PySem L2 DL Mir
namespace LmK
open Mth LmP LmA LmD LmB LmE LmF LmH LmI LmJ
end LmK
set_option Elab.async false
set_option linter.all false
set_option maxRecDepth 100000
open PySem L2 DL Mir
namespace Lk12
open Mth LmP LmA LmD LmB LmE LmF LmH LmI LmJ LmK
theorem ne_same {d : D} (h : zeL 9 d = true) : gNe d d = .ok (.bl false) := by
 rw [zlL (by unfold zmu; rw [h]; rfl), zgv 9 _ h]; rfl
end Lk12
set_option Elab.async false
set_option linter.all false
set_option maxRecDepth 100000
open PySem L2 DL Mir
namespace LmL
open Mth LmP LmA LmD LmB LmE LmF LmH LmI LmJ LmK
end LmL
set_option Elab.async false
set_option linter.all false
set_option maxRecDepth 100000
open PySem L2 DL Mir
namespace LmC
open Mth LmP LmA LmD LmB
end LmC
set_option Elab.async false
set_option linter.all false
set_option maxRecDepth 100000
open PySem L2 DL Mir
namespace LmM
open Mth LmP LmA LmD LmB LmE LmF LmH LmI LmJ LmK LmL
theorem pow6 : zsk (.int 10) (.int 6) = .ok (.int 1000000) := rfl
theorem zv6 : zsk (.int 10) (.int 18) = .ok (.int 1000000000000000000) := rfl
theorem mod6 (x : Int) : zfq (.int x) (.int 1000000) = .ok (.int (x % 1000000)) := zaF x 1000000 (by decide)
theorem gcd_w (n m : Nat) (x y z l : Option D) : zbE zbr zb2 [x, y, z, some (.int (m : Int)), some (.int (n : Int)), l] = .ok (.nx [x, y, z, some (.int ((Nat.gcd m n : Nat) : Int)), some (.int 0), l]) := by
 induction n using Nat.strongRecOn generalizing m with
 | _ n ih =>
  by_cases hn : n = 0
  ·subst hn
   rw [ziR (by unfold zbr; walk_at "ev"; rfl), Nat.gcd_zero_right]; rfl
  ·have hlt : m % n < n := Nat.mod_lt _ (by omega)
   have h := ih (m % n) hlt n
   rw [ziQ (σ' := [x, y, z, some (.int (n : Int)), some (.int ((m % n : Nat) : Int)), l]) ?_ ?_, h, Mth.gcd_step]
   ·unfold zbr; walk_at "ev"
    rw [decide_eq_false (by omega)]; rfl
   ·unfold zb2; walk_at "ev"
    rw [zaF _ _ (by omega)]
    walk_at "ev"
    rfl
theorem low3 {n : Nat} {p : P3} (h : BP n p) (hz : Nz p) (hn : n ≤ 9000) : zaL [.int p.1, .int p.2.1, .int p.2.2] = .ok (ptD (low p)) := by
 have hd := zl6 h.x h.y h.z hz hn
 show _ = R.ok (lowD p.1 p.2.1 p.2.2)
 rw [zfG]; unfold zcj; walk_at "ev"
 unfold zdR; walk_at "ev"
 unfold zdr
 rw [gcd_w]; walk_at "ev"
 rw [gcd_w]; walk_at "ev"
 unfold zdQ; walk_at "ev"
 rw [zoF p.1 p.2.1 p.2.2 hz]; walk_at "ev"
 unfold zdP; walk_at "ev"
 rcases zil p.1 p.2.1 p.2.2 with ⟨hl, hs⟩ | ⟨hl, hs⟩
 ·rw [decide_eq_true hl]; walk_at "ev"
  unfold zcs; walk_at "ev"
  rw [show 0 - (((Nat.gcd (Nat.gcd p.1.natAbs p.2.1.natAbs) p.2.2.natAbs : Nat)) : Int) = zer p.1 p.2.1 p.2.2 from by rw [hs, Int.zero_sub]; rfl, zbR _ _ hd, zbR _ _ hd, zbR _ _ hd]
  walk_at "ev"
 ·rw [decide_eq_false hl]; walk_at "ev"
  unfold zcs; walk_at "ev"
  rw [show (((Nat.gcd (Nat.gcd p.1.natAbs p.2.1.natAbs) p.2.2.natAbs : Nat)) : Int) = zer p.1 p.2.1 p.2.2 from hs.symm, zbR _ _ hd, zbR _ _ hd, zbR _ _ hd]
  walk_at "ev"
end LmM
set_option Elab.async false
set_option linter.all false
set_option maxRecDepth 100000
open PySem L2 DL Mir
namespace Lk02
open Mth LmP LmA LmD LmB LmC
def wh : D → Bool
 | .int _ => true
 | _ => false
def Pl (d : D) : Prop := (zlf d).isSome = true
theorem zf6 (d : D) (h : Pl d) : zcp [d] = .ok (.bl (wh d)) := by
 rw [zfy]; unfold zdN
 cases d with
 | cls c => cases h
 | ty c => cases h
 | exc c as => cases h
 | _ => rfl
structure Odd3 (a b c : D) : Prop where
 pa : Pl a
 pb : Pl b
 pc : Pl c
 no : (wh a && wh b && wh c) = false
theorem zoK {a b c : D} (h : Odd3 a b c) : zbn [.tup [a, b, c]] = .ok (.bl false) := by
 rw [zed]; unfold zch; walk_at "ev"
 rw [zjW (g := fun d => .bl (wh d)) (by simp) (fun d hd => ?_)]
 ·walk_at "ev"
  rw [show [a, b, c].map (fun d => D.bl (wh d)) = ([wh a, wh b, wh c] : List Bool).map D.bl from rfl, zgA, show ([wh a, wh b, wh c] : List Bool).all id = (wh a && wh b && wh c) by simp [Bool.and_assoc], h.no]; walk_at "ev"
 ·simp only [List.mem_cons, List.not_mem_nil, or_false] at hd
  rcases hd with rfl | rfl | rfl <;> walk_at "ev"
  ·exact zf6 _ h.pa
  ·exact zf6 _ h.pb
  ·exact zf6 _ h.pc
theorem is_place_odd {a b c : D} (h : Odd3 a b c) : zav [.tup [a, b, c]] = .ok (.bl false) := by
 rw [zbo]; unfold zby zcF zcE; walk_at "ev"
 rw [zoK h]; walk_at "ev"
theorem list_no (ds : List D) : zav [.lst ds] = .ok (.bl false) := by
 rw [zbo]; unfold zby zcF zcE; walk_at "ev"
end Lk02
set_option Elab.async false
set_option linter.all false
set_option maxRecDepth 100000
open PySem L2 DL Mir
namespace LmQ
open Mth LmP LmA LmD LmB LmE LmF LmH LmI LmJ LmK
theorem zkH (keys : Nat → List Int) : ∀ (n : Nat) (ks : List Int), ks ∈ zgx keys n ↔ ∃ j, j < n ∧ keys j = ks
 | 0, ks => ⟨(fun h => by cases h), (fun ⟨j, h, _⟩ => absurd h (by omega))⟩
 | n + 1, ks => by
  show ks ∈ ziS (zgx keys n) (keys n) ↔ _
  have ih := zkH keys n
  have e : ks ∈ ziS (zgx keys n) (keys n) ↔ ks ∈ zgx keys n ∨ ks = keys n := by
   unfold ziS
   split
   ·rename_i hin
    exact ⟨.inl, fun h => h.elim id fun z => by rw [z]; exact hin⟩
   ·rw [List.mem_cons]; exact ⟨fun h => h.elim .inr .inl, fun h => h.elim .inr .inl⟩
  rw [e, ih]
  constructor
  ·rintro (⟨j, h1, h2⟩ | h)
   ·exact ⟨j, by omega, h2⟩
   ·exact ⟨n, by omega, h.symm⟩
  ·rintro ⟨j, h1, h2⟩
   by_cases z : j = n
   ·subst z; exact .inr h2.symm
   ·exact .inl ⟨j, by omega, h2⟩
theorem zoL (keys : Nat → List Int) : ∀ n : Nat, (zgx keys n).length ≤ n
 | 0 => Nat.le_refl _
 | n + 1 => by
  have := zoL keys n
  show (ziS (zgx keys n) (keys n)).length ≤ _
  unfold ziS; split
  ·omega
  ·rw [List.length_cons]; omega
theorem zoM (keys : Nat → List Int) : ∀ n : Nat, (∀ i j, i < j → j < n → keys i ≠ keys j) → (zgx keys n).length = n
 | 0, _ => rfl
 | n + 1, h => by
  have ih := zoM keys n fun i j h1 h2 => h i j h1 (by omega)
  show (ziS (zgx keys n) (keys n)).length = _
  unfold ziS
  rw [if_neg, List.length_cons, ih]
  rw [zkH]
  rintro ⟨j, h1, h2⟩
  exact h j n h1 (by omega) h2
theorem zoN (keys : Nat → List Int) : ∀ (n i j : Nat), i < j → j < n → keys i = keys j → (zgx keys n).length < n
 | 0, i, j, _, h, _ => absurd h (by omega)
 | n + 1, i, j, h1, h2, h3 => by
  have l := zoL keys n
  show (ziS (zgx keys n) (keys n)).length < _
  by_cases z : j = n
  ·subst z
   unfold ziS
   rw [if_pos ((zkH keys j _).mpr ⟨i, h1, h3⟩)]; omega
  ·have := zoN keys n i j h1 (by omega) h3
   unfold ziS; split
   ·omega
   ·rw [List.length_cons]; omega
theorem zqd {ps : List P3} {k : Nat} (h : k < ps.length) : (ps.map key).getD k [] = key (pk ps k) := by
 rw [List.getD_eq_getElem?_getD, List.getElem?_map, zfR h]; rfl
theorem zsN {ps : List P3} (nd : ps.Nodup) : (zg5 (ps.map key)).length = ps.length := by
 unfold zg5
 rw [zoM, List.length_map]
 intro i j h1 h2
 rw [List.length_map] at h2
 rw [zqd (by omega), zqd h2]
 intro e
 have e := zsL e
 have a1 := zfR (ps := ps) (k := i) (by omega)
 have a2 := zfR h2
 rw [e, ← a2] at a1
 exact absurd ((List.getElem?_inj (by omega) nd).mp a1) (by omega)
theorem zqe {ps : List P3} {i j : Nat} (h1 : i < j) (h2 : j < ps.length) (e : pk ps i = pk ps j) : (zg5 (ps.map key)).length < ps.length := by
 unfold zg5
 rw [List.length_map]
 exact zoN _ _ i j h1 h2 (by rw [zqd (by omega), zqd h2, e])
theorem zkc (f : DSt → R D) (σ : DSt) : ziT f σ = (f σ).bind zew := rfl
theorem zmF {ps : List P3} (h4 : (zg5 (ps.map key)).length ≤ 18) : zew (.lst (ps.map ptD)) = .ok (.int (zg5 (ps.map key)).length) := by
 show (match zb3 (ps.map ptD) with | some kss => (bif Nat.ble (zg5 kss).length 18 then R.ok (D.int (zg5 kss).length) else .bad) | none => .bad) = _
 rw [zl7]
 show (bif Nat.ble (zg5 (ps.map key)).length 18 then R.ok (D.int (zg5 (ps.map key)).length) else .bad) = _
 rw [show Nat.ble (zg5 (ps.map key)).length 18 = true from by rw [Nat.ble_eq]; omega]; rfl
theorem zsO (kss : List (List Int)) : (zg5 kss).length ≤ kss.length := zoL _ _
theorem zin {n : Nat} {ps : List P3} (h : Pts n ps) (hn : n ≤ 100) (h1 : 1 ≤ ps.length) (h12 : ps.length ≤ 12) : zaG [.lst (ps.map ptD)] = .ok (.bl (decide (((zg5 (ps.map key)).length : Int) = (ps.length : Int)))) := by
 rw [zcM]; unfold zbS; walk_at "ev"
 rw [show zc7 = .int 12 from rfl]; walk_at "ev"
 rw [List.length_map, show (decide (1 ≤ (ps.length : Int)) && decide ((ps.length : Int) ≤ 12)) = true from by rw [decide_eq_true (by omega), decide_eq_true (by omega)]; rfl]; walk_at "ev"
 unfold zc8; walk_at "ev"
 rw [zoH (g := fun _ => .bl true) (by omega) (fun p hp => ?_)]
 ·walk_at "ev"
  rw [show ps.map (fun _ => D.bl true) = (ps.map fun _ => true).map D.bl from by rw [List.map_map]; rfl, zgA, show (ps.map fun _ => true).all id = true from by rw [List.all_map, List.all_eq_true]; intro _ _; rfl]; walk_at "ev"
  unfold zey; walk_at "ev"
  rw [zkc]; walk_at "ev"
  rw [show (R.ok (D.lst (ps.map ptD))).bind zew = .ok (.int (zg5 (ps.map key)).length) from zmF (by have := zsO (ps.map key); rw [List.length_map] at this; omega), List.length_map]; walk_at "ev"
 ·walk_at "ev"
  exact zgk (h.bd p hp) (h.nrm p hp) (by omega)
theorem zoO {ps : List P3} (h : Pts 24 ps) (h5 : ps.length ≤ 12) {i j : Nat} (h1 : i < j) (h2 : j < ps.length) (e : pk ps i = pk ps j) : zaG [.lst (ps.map ptD)] = .ok (.bl false) := by
 have := zqe h1 h2 e
 rw [zin h (by decide) (by omega) (by omega), decide_eq_false (by omega)]
open Classical in
theorem zl8 {ds : List D} (h1 : 1 ≤ ds.length) (h12 : ds.length ≤ 12) (hp : ∀ d ∈ ds, ∃ b, zav [d] = .ok (.bl b)) {w : D} (hw : w ∈ ds) (hn : zav [w] = .ok (.bl false)) : zaG [.lst ds] = .ok (.bl false) := by
 rw [zcM]; unfold zbS; walk_at "ev"
 rw [show zc7 = .int 12 from rfl]; walk_at "ev"
 rw [show (decide (1 ≤ (ds.length : Int)) && decide ((ds.length : Int) ≤ 12)) = true from by rw [decide_eq_true (by omega), decide_eq_true (by omega)]; rfl]; walk_at "ev"
 unfold zc8; walk_at "ev"
 rw [zjW (g := fun d => .bl (decide (zav [d] = .ok (.bl true)))) (by omega) (fun d hd => ?_)]
 ·walk_at "ev"
  rw [show ds.map (fun d => D.bl (decide (zav [d] = .ok (.bl true)))) = (ds.map fun d => decide (zav [d] = .ok (.bl true))).map D.bl from by rw [List.map_map]; rfl, zgA, show (ds.map fun d => decide (zav [d] = .ok (.bl true))).all id = false from ?_]; · walk_at "ev"
  rw [List.all_map]
  refine List.all_eq_false.mpr ⟨w, hw, ?_⟩
  show ¬ (id (decide (zav [w] = .ok (.bl true))) = true)
  rw [hn]; simp
 ·walk_at "ev"
  obtain ⟨b, e⟩ := hp d hd
  rw [e]
  cases b <;> simp
end LmQ
set_option Elab.async false
set_option linter.all false
set_option maxRecDepth 100000
open PySem L2 DL Mir
namespace LmS
open Mth LmP LmA LmD LmB LmE LmF LmH LmI LmJ LmK LmM LmQ
def Dd (ds : List Int) : Prop := ∀ d ∈ ds, 0 ≤ d
theorem Dd.snoc {ds : List Int} {d : Int} (h : Dd ds) (hd : 0 ≤ d) : Dd (ds ++ [d]) := fun e he => by
 rcases List.mem_append.mp he with he | he
 ·exact h e he
 ·rw [List.mem_singleton.mp he]; exact hd
def dg (ds : List Int) (k : Nat) : Int := ds.getD k 0
theorem zuI {ds : List Int} {k : Nat} (h : k < ds.length) : ds[k]? = some (dg ds k) := by simp [dg, h]
theorem ixd {ds : List Int} {k : Nat} (h : k < ds.length) : gIx (.lst (ds.map .int)) (.int (k : Int)) = .ok (.int (dg ds k)) := zkA (by rw [List.getElem?_map, zuI h]; rfl)
theorem zoP (fe f g : DSt → R D) (σ : DSt) (ds : List D) (a b : Nat) (h1 : fe σ = .ok (.lst ds)) (h2 : f σ = .ok (.int (a : Int))) (h3 : g σ = .ok (.int (b : Int))) (hb : b ≤ ds.length) (hab : a ≤ b) : eSl fe (zdG f) (zdG g) σ = .ok (.lst ((ds.drop a).take (b - a))) := by
 unfold eSl zdG
 rw [h1, h2, h3]
 show R.ok (D.lst (zmL ds (some (a : Int)) (some (b : Int)))) = _
 unfold zmL
 rw [HT.sIx_nat, HT.sIx_nat, Nat.min_eq_left hb, Nat.min_eq_left (by omega)]
theorem zqf (fe f : DSt → R D) (σ : DSt) (ds : List D) (n : Nat) (h1 : fe σ = .ok (.lst ds)) (h2 : f σ = .ok (.int (n : Int))) : eSl fe (zdG f) zgq σ = .ok (.lst (ds.drop n)) := by
 unfold eSl zgq zdG
 rw [h1, h2]
 show R.ok (D.lst (zmL ds (some (n : Int)) none)) = _
 unfold zmL
 rw [HT.sIx_none, HT.sIx_nat]
 congr 2
 by_cases h : n ≤ ds.length
 ·rw [Nat.min_eq_left h, List.take_of_length_le (by rw [List.length_drop]; omega)]
 ·rw [Nat.min_eq_right (by omega), List.drop_of_length_le (by omega), List.drop_of_length_le (by omega)]; simp
theorem zoQ (ds : List Int) (a n : Nat) : ((ds.map D.int).drop a).take n = ((ds.drop a).take n).map D.int := by rw [List.map_take, List.map_drop]
theorem zfS (n : Nat) (hn : n ≤ 1000) : zgO [.int (n : Int)] = .ok ((rg 0 n).map fun k : Nat => D.int (k : Int)) := by
 rw [zrt _ (zru (by omega) (by omega)), show znw 0 (n : Int).toNat = (rg 0 n).map fun k : Nat => D.int (k : Int) from by have := zsM 0 n; simpa using this]
theorem zmG (c : Int) (many : Nat) (hm : many ≤ 100) : ∃ ds : List Int, zaX [.int c, .int (many : Int)] = .ok (.lst (ds.map .int)) ∧ ds.length = many ∧ Dd ds := by
 rw [zfm]; unfold zbZ; walk_at "ev"
 obtain ⟨N, hN, n0⟩ : ∃ N : Int, max c (-1 - c) = N ∧ 0 ≤ N := ⟨_, rfl, by omega⟩
 rw [hN]
 unfold zdq; walk_at "ev"
 unfold zdp; walk_at "ev"
 unfold zdo; walk_at "ev"
 rw [zfS many (by omega)]; walk_at "ev"
 have turn : ∀ (j : Nat) (d : D) (σ : DSt), ((rg 0 many).map fun k : Nat => D.int (k : Int))[j]? = some d → (∃ es l x y, σ = [some (.int c), some (.int (many : Int)), some (.int N), some (.int l), some (.lst (es.map D.int)), x, y] ∧ es.length = j ∧ Dd es ∧ 0 ≤ l) → ∃ σ', (za4 (σ.set 5 (some d)) = .ok (.nx σ') ∨ za4 (σ.set 5 (some d)) = .ok (.ct σ')) ∧ ∃ es l x y, σ' = [some (.int c), some (.int (many : Int)), some (.int N), some (.int l), some (.lst (es.map D.int)), x, y] ∧ es.length = j + 1 ∧ Dd es ∧ 0 ≤ l := by
  rintro j d σ hd ⟨es, l, x, y, rfl, h1, h2, h3⟩
  obtain ⟨i, hi, rfl⟩ := List.mem_map.mp (List.mem_of_getElem? hd)
  have hi := (zdb.mp hi).2
  have hj : j < many := by
   have := (List.getElem?_eq_some_iff.mp hd).1
   rw [List.length_map] at this
   unfold rg at this
   simpa using this
  rw [show List.set _ 5 _ = [some (.int c), some (.int (many : Int)), some (.int N), some (.int l), some (.lst (es.map D.int)), some (.int (i : Int)), y] from rfl]
  have els : ∃ σ', (zbf [some (.int c), some (.int (many : Int)), some (.int N), some (.int l), some (.lst (es.map D.int)), some (.int (i : Int)), y] = .ok (.nx σ') ∨ zbf [some (.int c), some (.int (many : Int)), some (.int N), some (.int l), some (.lst (es.map D.int)), some (.int (i : Int)), y] = .ok (.ct σ')) ∧ ∃ es l x y, σ' = [some (.int c), some (.int (many : Int)), some (.int N), some (.int l), some (.lst (es.map D.int)), x, y] ∧ es.length = j + 1 ∧ Dd es ∧ 0 ≤ l := by
   have bi : B 7 (i : Int) := B.of (k := 100) (by omega)
   have b101 : B 7 101 := B.of (k := 101) (by decide)
   unfold zbf; walk_at "ev"
   rw [zap 101 _ (by decide) (zat bi (by decide))]; walk_at "ev"
   rw [zap (101 * (i : Int)) _ (zat (b101.mul bi) (by decide)) (zat bi (by decide))]; walk_at "ev"
   rw [zaF _ _ (by decide)]; walk_at "ev"
   have w0 := Int.emod_nonneg (N + 101 * (i : Int) * (i : Int) + (i : Int)) (show (2147483647 : Int) ≠ 0 by decide)
   have w1 := Int.emod_lt_of_pos (N + 101 * (i : Int) * (i : Int) + (i : Int)) (show (0 : Int) < 2147483647 by decide)
   generalize (N + 101 * (i : Int) * (i : Int) + (i : Int)) % 2147483647 = u at w0 w1
   rw [zap u 48271 (zat (n := 31) (B.of (k := 2147483647) (by omega)) (by decide)) (by decide)]; walk_at "ev"
   rw [zaF _ _ (by decide)]; walk_at "ev"
   have v0 := Int.emod_nonneg (u * 48271) (show (2147483647 : Int) ≠ 0 by decide)
   have v1 := Int.emod_lt_of_pos (u * 48271) (show (0 : Int) < 2147483647 by decide)
   generalize (u * 48271) % 2147483647 = v at v0 v1
   have bv : zhA v = true := zat (n := 31) (B.of (k := 2147483647) (by omega)) (by decide)
   unfold zcn; walk_at "ev"
   rw [zap v v bv bv]; walk_at "ev"
   rw [zaF _ _ (by decide)]; walk_at "ev"
   have t0 := Int.emod_nonneg (v * v) (show (2147483629 : Int) ≠ 0 by decide)
   have t1 := Int.emod_lt_of_pos (v * v) (show (0 : Int) < 2147483629 by decide)
   generalize (v * v) % 2147483629 = t at t0 t1
   rw [zap t 48271 (zat (n := 31) (B.of (k := 2147483647) (by omega)) (by decide)) (by decide)]; walk_at "ev"
   rw [zaF _ _ (by decide)]
   rw [zgV _ _ _ _ (by rw [List.length_map]; omega)]; walk_at "ev"
   exact ⟨_, .inl rfl, es ++ [_], l, _, _, by rw [List.map_append]; rfl, by simp; omega, h2.snoc (Int.emod_nonneg _ (by decide)), h3⟩
  unfold za4; walk_at "ev"
  rw [zv6]; walk_at "ev"
  by_cases hN18 : 1000000000000000000 ≤ N
  ·rw [decide_eq_true hN18]; walk_at "ev"
   by_cases hl : 0 < l
   ·rw [decide_eq_true hl]; walk_at "ev"
    unfold zcQ; walk_at "ev"
    rw [pow6]
    rw [znT, mod6]
    rw [zgV _ _ _ _ (by rw [List.length_map]; omega)]; walk_at "ev"
    unfold zcm; walk_at "ev"
    rw [pow6]; walk_at "ev"
    rw [show zfi (.int l) (.int 1000000) = .ok (.int (l / 1000000)) from zjS l 1000000 (by decide) (by decide)]; walk_at "ev"
    exact ⟨_, .inl rfl, es ++ [_], _, _, _, by rw [List.map_append]; rfl, by simp; omega, h2.snoc (Int.emod_nonneg _ (by decide)), Int.ediv_nonneg h3 (by decide)⟩
   ·rw [decide_eq_false hl]; walk_at "ev"
    exact els
  ·rw [decide_eq_false hN18]; walk_at "ev"
   exact els
 obtain ⟨σ', e, es, l, x, y, rfl, h1, h2, _⟩ := zl2 (i := 5) (fb := za4) (fun j σ => ∃ es l x y, σ = [some (.int c), some (.int (many : Int)), some (.int N), some (.int l), some (.lst (es.map D.int)), x, y] ∧ es.length = j ∧ Dd es ∧ 0 ≤ l) _ turn [some (.int c), some (.int (many : Int)), some (.int N), some (.int N), some (.lst []), none, none] ⟨[], N, none, none, rfl, rfl, (fun d hd => by cases hd), n0⟩
 rw [e]; walk_at "ev"
 unfold zdn; walk_at "ev"
 refine ⟨es, rfl, ?_, h2⟩
 rw [h1, List.length_map]; unfold rg; simp
theorem zqg {ds : List Int} (hl : ds.length = 4) : ∃ p, za1 [.lst (ds.map .int)] = .ok (ptD p) ∧ Nrm p ∧ BP 24 p := by
 have go : ∀ (most w : Int), gIx (.lst [.int 2, .int 5, .int 1000]) (.int (dg ds 3 % 3)) = .ok (.int most) → 2 * most + 1 = w → 0 < w → w ≤ 2001 → 0 ≤ most → ∃ p, za1 [.lst (ds.map .int)] = .ok (ptD p) ∧ Nrm p ∧ BP 24 p := by
  intro most w he hw w0 w1 m0
  have mm : zhA most = true := zat (n := 24) (B.of (k := 2001) (by omega)) (by decide)
  rw [zf3]; unfold zcy; walk_at "ev"
  rw [show gIx (.lst (ds.map .int)) (.int 3) = _ from ixd (k := 3) (by omega)]; walk_at "ev"
  rw [zaF _ _ (by decide)]; walk_at "ev"
  rw [he]; walk_at "ev"
  unfold zeh; walk_at "ev"
  rw [show gIx (.lst (ds.map .int)) (.int 0) = _ from ixd (k := 0) (by omega), zap 2 most (by decide) mm]; walk_at "ev"
  rw [hw, zaF _ _ w0]; walk_at "ev"
  unfold zeg; walk_at "ev"
  rw [show gIx (.lst (ds.map .int)) (.int 1) = _ from ixd (k := 1) (by omega), zap 2 most (by decide) mm]; walk_at "ev"
  rw [hw, zaF _ _ w0]; walk_at "ev"
  unfold zef; walk_at "ev"
  rw [show gIx (.lst (ds.map .int)) (.int 2) = _ from ixd (k := 2) (by omega), zap 2 most (by decide) mm]; walk_at "ev"
  rw [hw, zaF _ _ w0]; walk_at "ev"
  have rng : ∀ e : Int, -2001 ≤ e % w - most ∧ e % w - most ≤ 2001 := fun e => by
   have x0 := Int.emod_nonneg e (show w ≠ 0 by omega)
   have x1 := Int.emod_lt_of_pos e w0
   omega
  have hx := rng (dg ds 0)
  have hy := rng (dg ds 1)
  have hz := rng (dg ds 2)
  generalize dg ds 0 % w - most = x at hx
  generalize dg ds 1 % w - most = y at hy
  generalize dg ds 2 % w - most = z at hz
  unfold zee; walk_at "ev"
  have bp : ∀ z : Int, -2001 ≤ z ∧ z ≤ 2001 → BP 24 (x, y, z) := fun z hz => ⟨B.of (k := 2001) (by show x.natAbs ≤ 2001; omega), B.of (k := 2001) (by show y.natAbs ≤ 2001; omega), B.of (k := 2001) (by show z.natAbs ≤ 2001; omega)⟩
  have fin : ∀ z : Int, -2001 ≤ z ∧ z ≤ 2001 → Nz (x, y, z) → ∃ p, fin (zcN [some (.lst (ds.map .int)), some (.int most), some (.int x), some (.int y), some (.int z)]) = .ok (ptD p) ∧ Nrm p ∧ BP 24 p := fun z hz nz => by
   refine ⟨low (x, y, z), ?_, znd nz, (bp z hz).low nz⟩
   unfold zcN; walk_at "ev"
   rw [low3 (p := (x, y, z)) (bp z hz) nz (by decide)]; walk_at "ev"
  by_cases h1 : x = 0
  ·rw [decide_eq_true h1]; walk_at "ev"
   by_cases h2 : y = 0
   ·rw [decide_eq_true h2]; walk_at "ev"
    by_cases h3 : z = 0
    ·rw [decide_eq_true h3]; walk_at "ev"
     exact fin 1 (by omega) (fun q => absurd (show (1 : Int) = 0 from q.2.2) (by decide))
    ·rw [decide_eq_false h3]; walk_at "ev"
     exact fin z hz fun q => h3 q.2.2
   ·rw [decide_eq_false h2]; walk_at "ev"
    exact fin z hz fun q => h2 q.2.1
  ·rw [decide_eq_false h1]; walk_at "ev"
   exact fin z hz fun q => h1 q.1
 rcases (show dg ds 3 % 3 = 0 ∨ dg ds 3 % 3 = 1 ∨ dg ds 3 % 3 = 2 by omega) with z | z | z
 ·exact go 2 5 (by rw [z]; rfl) (by decide) (by decide) (by decide) (by decide)
 ·exact go 5 11 (by rw [z]; rfl) (by decide) (by decide) (by decide) (by decide)
 ·exact go 1000 2001 (by rw [z]; rfl) (by decide) (by decide) (by decide) (by decide)
theorem zhl {m n : Nat} {p q : P3} (hp : BP m p) (hq : BP n q) (hm : m ≤ 4000) (hn : n ≤ 4000) : zcG [ptL p, ptD q] = .ok (.int (dot p q)) := by
 rw [zj8]; unfold zfH; walk_at "ev"
 rw [zap _ _ (zat hp.x (by omega)) (zat hq.x (by omega)), zap _ _ (zat hp.y (by omega)) (zat hq.y (by omega)), zap _ _ (zat hp.z (by omega)) (zat hq.z (by omega))]; walk_at "ev"
 rfl
theorem zrw {n : Nat} {x y z : P3} (hx : BP n x) (hy : BP n y) (hz : BP n z) (hn : n ≤ 3000) {dx dy dz : D} (h : (dx = ptD x ∧ dy = ptD y ∧ dz = ptD z) ∨ (dx = ptL x ∧ dy = ptL y ∧ dz = ptL z)) : zbk [dx, dy, dz] = .ok (.int (zco x y z)) := by
 have m1 : ∀ {i : Int}, B n i → zhA i = true := fun h => zat h (by omega)
 have m2 : ∀ {a b c d : Int}, B n a → B n b → B n c → B n d → zhA (a * b - c * d) = true := fun ha hb hc hd => zat ((ha.mul hb).sub (hc.mul hd)) (by omega)
 have e1 := zap _ _ (m1 hy.y) (m1 hz.z)
 have e2 := zap _ _ (m1 hy.z) (m1 hz.y)
 have e3 := zap _ _ (m1 hy.x) (m1 hz.z)
 have e4 := zap _ _ (m1 hy.z) (m1 hz.x)
 have e5 := zap _ _ (m1 hy.x) (m1 hz.y)
 have e6 := zap _ _ (m1 hy.y) (m1 hz.x)
 have f1 := zap _ _ (m1 hx.x) (m2 hy.y hz.z hy.z hz.y)
 have f2 := zap _ _ (m1 hx.y) (m2 hy.x hz.z hy.z hz.x)
 have f3 := zap _ _ (m1 hx.z) (m2 hy.x hz.y hy.y hz.x)
 have fin : x.1 * (y.2.1 * z.2.2 - y.2.2 * z.2.1) - x.2.1 * (y.1 * z.2.2 - y.2.2 * z.1) + x.2.2 * (y.1 * z.2.1 - y.2.1 * z.1) = zco x y z := by unfold zco dot crs; grind
 rw [zhg]
 rcases h with ⟨rfl, rfl, rfl⟩ | ⟨rfl, rfl, rfl⟩
 ·unfold zcH; walk_at "ev"
  unfold zdK; walk_at "ev"
  unfold zdJ; walk_at "ev"
  rw [e1, e2]; walk_at "ev"
  rw [f1]; walk_at "ev"
  unfold zdI; walk_at "ev"
  rw [e3, e4]; walk_at "ev"
  rw [f2]; walk_at "ev"
  unfold zdH; walk_at "ev"
  rw [e5, e6]; walk_at "ev"
  rw [f3]; walk_at "ev"
  rw [fin]
 ·unfold zcH; walk_at "ev"
  unfold zdK; walk_at "ev"
  unfold zdJ; walk_at "ev"
  rw [e1, e2]; walk_at "ev"
  rw [f1]; walk_at "ev"
  unfold zdI; walk_at "ev"
  rw [e3, e4]; walk_at "ev"
  rw [f2]; walk_at "ev"
  unfold zdH; walk_at "ev"
  rw [e5, e6]; walk_at "ev"
  rw [f3]; walk_at "ev"
  rw [fin]
abbrev zeU (m : M3) : D := .lst [ptL m.1, ptL m.2.1, ptL m.2.2]
theorem zoR {ds : List Int} (hd : Dd ds) (hl : ds.length = 10) : ∃ m, zbM [.lst (ds.map .int)] = .ok (zeU m) ∧ det m ≠ 0 ∧ BM 6 m := by
 have go : ∀ (most w : Int), gIx (.lst [.int 1, .int 2, .int 30]) (.int (dg ds 9 % 3)) = .ok (.int most) → 2 * most + 1 = w → 0 < w → w ≤ 61 → 0 ≤ most → ∃ m, zbM [.lst (ds.map .int)] = .ok (zeU m) ∧ det m ≠ 0 ∧ BM 6 m := by
  intro most w he hw w0 w1 m0
  have mm : zhA most = true := zat (n := 24) (B.of (k := 61) (by omega)) (by decide)
  have b6 : ∀ e : Int, B 6 (e % w - most) := fun e => by
   have x0 := Int.emod_nonneg e (show w ≠ 0 by omega)
   have x1 := Int.emod_lt_of_pos e w0
   exact B.of (k := 61) (by omega)
  have f : ∀ k : Nat, ∃ x, x = dg ds k % w - most := fun k => ⟨_, rfl⟩
  have row : ∀ (j : Nat) (rs : List D) (x : Option D), j < 3 → rs.length ≤ 10 → zc9 [some (.lst (ds.map .int)), some (.int most), some (.lst rs), some (.int (j : Int)), x] = .ok (.nx [some (.lst (ds.map .int)), some (.int most), some (.lst (rs ++ [ptL (dg ds (3 * j) % w - most, dg ds (3 * j + 1) % w - most, dg ds (3 * j + 2) % w - most)])), some (.int (j : Int)), some (.lst [.int (dg ds (3 * j)), .int (dg ds (3 * j + 1)), .int (dg ds (3 * j + 2))])]) := by
   intro j rs x hj hr
   have one : ∀ (k : Nat) (y0 : Option D), k < 3 → (eOp gIx (zaj 1) (eOp zc2 (eOp zbj (eC (.int 3)) (zaj 4)) (zaj 0))) [some (.int (k : Int)), some (.lst (ds.map .int)), some (.int most), y0, some (.int (j : Int)), x] = .ok (.int (dg ds (3 * j + k))) := fun k y0 hk => by
    walk_at "ev"
    rw [zap 3 (j : Int) (by decide) (zat (n := 4) (B.of (k := 3) (by omega)) (by decide))]; walk_at "ev"
    rw [show (3 * (j : Int) + (k : Int)) = ((3 * j + k : Nat) : Int) by omega]
    exact ixd (by omega)
   unfold zc9; walk_at "ev"
   rw [show zgO [.int 3] = .ok [.int ((0 : Nat) : Int), .int ((1 : Nat) : Int), .int ((2 : Nat) : Int)] from rfl, zv4 (one 0 _ (by decide)) (one 1 _ (by decide)) (one 2 _ (by decide))]; walk_at "ev"
   unfold zdS; walk_at "ev"
   have two : ∀ (e : Int) (y0 y1 : Option D), (eOp gSub (eOp zfq (zaj 0) (eOp zc2 (eOp zbj (eC (.int 2)) (zaj 2)) (eC (.int 1)))) (zaj 2)) [some (.int e), some (.lst (ds.map .int)), some (.int most), y0, some (.int (j : Int)), y1] = .ok (.int (e % w - most)) := fun e y0 y1 => by
    walk_at "ev"
    rw [zap 2 most (by decide) mm]; walk_at "ev"
    rw [hw, zaF _ _ w0]; walk_at "ev"
   rw [zv4 (two _ _ _) (two _ _ _) (two _ _ _)]; walk_at "ev"
   rw [zgV _ _ _ _ (by omega)]; walk_at "ev"
   rfl
  rw [zhh]; unfold zds; walk_at "ev"
  rw [show gIx (.lst (ds.map .int)) (.int 9) = _ from ixd (k := 9) (by omega)]; walk_at "ev"
  rw [zaF _ _ (by decide)]; walk_at "ev"
  rw [he]; walk_at "ev"
  unfold ze5; walk_at "ev"
  unfold ze4; walk_at "ev"
  rw [show zgO [.int 3] = .ok [.int ((0 : Nat) : Int), .int ((1 : Nat) : Int), .int ((2 : Nat) : Int)] from rfl]; walk_at "ev"
  rw [row 0 _ _ (by decide) (by simp)]; walk_at "ev"
  rw [row 1 _ _ (by decide) (by simp)]; walk_at "ev"
  rw [row 2 _ _ (by decide) (by simp)]; walk_at "ev"
  unfold ze3
  obtain ⟨m, hm⟩ : ∃ m : M3, m = ((dg ds (3 * 0) % w - most, dg ds (3 * 0 + 1) % w - most, dg ds (3 * 0 + 2) % w - most), (dg ds (3 * 1) % w - most, dg ds (3 * 1 + 1) % w - most, dg ds (3 * 1 + 2) % w - most), (dg ds (3 * 2) % w - most, dg ds (3 * 2 + 1) % w - most, dg ds (3 * 2 + 2) % w - most)) := ⟨_, rfl⟩
  have bm : BM 6 m := by rw [hm]; exact ⟨⟨b6 _, b6 _, b6 _⟩, ⟨b6 _, b6 _, b6 _⟩, ⟨b6 _, b6 _, b6 _⟩⟩
  rw [show ([] ++ [ptL (dg ds (3 * 0) % w - most, dg ds (3 * 0 + 1) % w - most, dg ds (3 * 0 + 2) % w - most)] ++ [ptL (dg ds (3 * 1) % w - most, dg ds (3 * 1 + 1) % w - most, dg ds (3 * 1 + 2) % w - most)] ++ [ptL (dg ds (3 * 2) % w - most, dg ds (3 * 2 + 1) % w - most, dg ds (3 * 2 + 2) % w - most)]) = [ptL m.1, ptL m.2.1, ptL m.2.2] from by rw [hm]; rfl]
  walk_at "ev"
  rw [zrw bm.a bm.b bm.c (by decide) (.inr ⟨rfl, rfl, rfl⟩)]; walk_at "ev"
  by_cases hz : zco m.1 m.2.1 m.2.2 = 0
  ·rw [decide_eq_true hz]; walk_at "ev"
   rw [show gIx (.lst (ds.map .int)) (.int 0) = _ from ixd (k := 0) (by omega), show gIx (.lst (ds.map .int)) (.int 1) = _ from ixd (k := 1) (by omega), show gIx (.lst (ds.map .int)) (.int 2) = _ from ixd (k := 2) (by omega), show gIx (.lst (ds.map .int)) (.int 4) = _ from ixd (k := 4) (by omega)]; walk_at "ev"
   rw [zaF _ _ (by decide), zaF _ _ (by decide), zaF _ _ (by decide), zaF _ _ (by decide)]; walk_at "ev"
   refine ⟨((1, dg ds 0 % 7, dg ds 1 % 5), (0, 1, dg ds 2 % 9), (0, 0, 1 + dg ds 4 % 4)), rfl, ?_, ⟨B.of (k := 61) (by show (1 : Int).natAbs ≤ 61; decide), B.of (k := 61) (by show (dg ds 0 % 7).natAbs ≤ 61; omega), B.of (k := 61) (by show (dg ds 1 % 5).natAbs ≤ 61; omega)⟩, ⟨B.of (k := 61) (by show (0 : Int).natAbs ≤ 61; decide), B.of (k := 61) (by show (1 : Int).natAbs ≤ 61; decide), B.of (k := 61) (by show (dg ds 2 % 9).natAbs ≤ 61; omega)⟩, ⟨B.of (k := 61) (by show (0 : Int).natAbs ≤ 61; decide), B.of (k := 61) (by show (0 : Int).natAbs ≤ 61; decide), B.of (k := 61) (by show (1 + dg ds 4 % 4).natAbs ≤ 61; omega)⟩⟩
   unfold det dot crs
   simp only [Int.one_mul, Int.zero_mul, Int.mul_zero, Int.sub_zero, Int.add_zero]
   omega
  ·rw [decide_eq_false hz]; walk_at "ev"
   unfold ze2; walk_at "ev"
   exact ⟨m, rfl, hz, bm⟩
 rcases (show dg ds 9 % 3 = 0 ∨ dg ds 9 % 3 = 1 ∨ dg ds 9 % 3 = 2 by omega) with z | z | z
 ·exact go 1 3 (by rw [z]; rfl) (by decide) (by decide) (by decide) (by decide)
 ·exact go 2 5 (by rw [z]; rfl) (by decide) (by decide) (by decide) (by decide)
 ·exact go 30 61 (by rw [z]; rfl) (by decide) (by decide) (by decide) (by decide)
theorem zv7 {n : Nat} {m : M3} {p : P3} (hm : BM 6 m) (hp : BP n p) (hn : n ≤ 3000) (hd : det m ≠ 0) (hz : Nz p) : zbN [zeU m, ptD p] = .ok (ptD (low (mul m p))) := by
 have nz := zqt hd hz
 have bm := hm.mul hp
 rw [zhi]; unfold zdt; walk_at "ev"
 rw [zhl hm.a hp (by decide) (by omega), zhl hm.b hp (by decide) (by omega), zhl hm.c hp (by decide) (by omega)]; walk_at "ev"
 rw [show zaL [.int (dot m.1 p), .int (dot m.2.1 p), .int (dot m.2.2 p)] = _ from low3 (p := mul m p) bm nz (by omega)]; walk_at "ev"
theorem zqh {ds : List Int} {m : M3} (hl : ds.length = 12) (hm : BM 6 m) (hd : det m ≠ 0) : ∃ ps, zct [.lst (ds.map .int), zeU m] = .ok (.lst (ps.map ptD)) ∧ Pts 24 ps ∧ ps.length = 6 := by
 have turn : ∀ (j : Nat) (d : D) (σ : DSt), ((rg 0 6).map fun k : Nat => D.int (k : Int))[j]? = some d → (∃ ps x y z, σ = [some (.lst (ds.map .int)), some (zeU m), some (.lst (ps.map ptD)), x, y, z] ∧ ps.length = j ∧ Pts 24 ps) → ∃ σ', (zbX (σ.set 3 (some d)) = .ok (.nx σ') ∨ zbX (σ.set 3 (some d)) = .ok (.ct σ')) ∧ ∃ ps x y z, σ' = [some (.lst (ds.map .int)), some (zeU m), some (.lst (ps.map ptD)), x, y, z] ∧ ps.length = j + 1 ∧ Pts 24 ps := by
  rintro j d σ hk ⟨ps, x, y, z, rfl, h1, h2⟩
  obtain ⟨i, hi, rfl⟩ := List.mem_map.mp (List.mem_of_getElem? hk)
  have hi := (zdb.mp hi).2
  have hj : j < 6 := by
   have := (List.getElem?_eq_some_iff.mp hk).1
   rw [List.length_map] at this
   exact this
  have bi : zhA (i : Int) = true := zat (n := 4) (B.of (k := 6) (by omega)) (by decide)
  rw [show List.set _ 3 _ = [some (.lst (ds.map .int)), some (zeU m), some (.lst (ps.map ptD)), some (.int (i : Int)), y, z] from rfl]
  have last : ∀ t s : Int, -6 ≤ t ∧ t ≤ 6 → 0 ≤ s ∧ s ≤ 3 → ¬ (t = 0 ∧ s = 0) → ∃ σ', (zb0 [some (.lst (ds.map .int)), some (zeU m), some (.lst (ps.map ptD)), some (.int (i : Int)), some (.int t), some (.int s)] = .ok (.nx σ') ∨ zb0 [some (.lst (ds.map .int)), some (zeU m), some (.lst (ps.map ptD)), some (.int (i : Int)), some (.int t), some (.int s)] = .ok (.ct σ')) ∧ ∃ ps x y z, σ' = [some (.lst (ds.map .int)), some (zeU m), some (.lst (ps.map ptD)), x, y, z] ∧ ps.length = j + 1 ∧ Pts 24 ps := by
   intro t s ht hs hne
   have bt : B 3 t := B.of (k := 6) (by omega)
   have bs : B 3 s := B.of (k := 6) (by omega)
   have mt := zat bt (by decide)
   have ms := zat bs (by decide)
   have bp : BP 6 (t * t, t * s, s * s) := ⟨bt.mul bt, bt.mul bs, bs.mul bs⟩
   have nz : Nz (t * t, t * s, s * s) := fun q => hne ⟨(Int.mul_eq_zero.mp q.1).elim id id, (Int.mul_eq_zero.mp q.2.2).elim id id⟩
   have n2 := zqt hd nz
   unfold zb0; walk_at "ev"
   rw [zap t t mt mt, zap t s mt ms, zap s s ms ms]; walk_at "ev"
   rw [show zbN [zeU m, .tup [.int (t * t), .int (t * s), .int (s * s)]] = _ from zv7 (p := (t * t, t * s, s * s)) hm bp (by decide) hd nz]
   rw [zgV _ _ _ _ (by rw [List.length_map]; omega)]
   exact ⟨_, .inl rfl, ps ++ [_], _, _, _, by rw [List.map_append]; rfl, by simp; omega, Pts.snoc h2 (znd n2) (((hm.mul bp).low n2).mono (by decide))⟩
  unfold zbX; walk_at "ev"
  rw [zap 2 _ (by decide) bi]; walk_at "ev"
  rw [show 2 * (i : Int) = ((2 * i : Nat) : Int) by omega, ixd (by omega)]; walk_at "ev"
  rw [zaF _ _ (by decide)]; walk_at "ev"
  unfold zej; walk_at "ev"
  rw [zap 2 _ (by decide) bi]; walk_at "ev"
  rw [show 2 * (i : Int) + 1 = ((2 * i + 1 : Nat) : Int) by omega, ixd (by omega)]; walk_at "ev"
  rw [zaF _ _ (by decide)]; walk_at "ev"
  have ht : -6 ≤ dg ds (2 * i) % 13 - 6 ∧ dg ds (2 * i) % 13 - 6 ≤ 6 := by omega
  have hs : 0 ≤ dg ds (2 * i + 1) % 4 ∧ dg ds (2 * i + 1) % 4 ≤ 3 := by omega
  generalize dg ds (2 * i) % 13 - 6 = t at ht
  generalize dg ds (2 * i + 1) % 4 = s at hs
  unfold zei; walk_at "ev"
  by_cases h0 : t = 0
  ·rw [decide_eq_true h0]; walk_at "ev"
   by_cases s0 : s = 0
   ·rw [decide_eq_true s0]; walk_at "ev"
    exact last t 1 ht (by omega) (by omega)
   ·rw [decide_eq_false s0]; walk_at "ev"
    exact last t s ht hs (by omega)
  ·rw [decide_eq_false h0]; walk_at "ev"
   exact last t s ht hs (by omega)
 rw [zhD]; unfold zd7; walk_at "ev"
 unfold zfJ; walk_at "ev"
 rw [List.length_map, hl, show zfi (.int ((12 : Nat) : Int)) (.int 2) = .ok (.int ((6 : Nat) : Int)) from rfl]; walk_at "ev"
 rw [zfS 6 (by decide)]; walk_at "ev"
 obtain ⟨σ', e, ps, x, y, z, rfl, h1, h2⟩ := zl2 (i := 3) (fb := zbX) (fun j σ => ∃ ps x y z, σ = [some (.lst (ds.map .int)), some (zeU m), some (.lst (ps.map ptD)), x, y, z] ∧ ps.length = j ∧ Pts 24 ps) _ turn [some (.lst (ds.map .int)), some (zeU m), some (.lst []), none, none, none] ⟨[], _, _, _, rfl, rfl, ⟨by simp, by simp⟩⟩
 rw [e]; walk_at "ev"
 unfold zfI; walk_at "ev"
 exact ⟨ps, rfl, h2, by rw [h1]; rfl⟩
theorem zv8 {ds : List D} {e : DSt → R D} {σ : DSt} (P : P3 → Prop) (hl : ds.length ≤ 1000) (h : ∀ d ∈ ds, ∃ p, e (some d :: σ) = .ok (ptD p) ∧ P p) : ∃ ps : List P3, lcK 1 [0] (.ok ds) zaI zbW e σ = .ok (ps.map ptD) ∧ ps.length = ds.length ∧ ∀ p ∈ ps, P p := by
 have : ∃ f : D → P3, ∀ d ∈ ds, e (some d :: σ) = .ok (ptD (f d)) ∧ P (f d) := by
  refine ⟨fun d => open Classical in if h : ∃ p, e (some d :: σ) = .ok (ptD p) ∧ P p then h.choose else (0, 0, 0), fun d hd => ?_⟩
  have hx := h d hd
  simp only [dif_pos hx]
  exact hx.choose_spec
 obtain ⟨f, hf⟩ := this
 refine ⟨ds.map f, ?_, by simp, fun p hp => ?_⟩
 ·rw [zjW (g := fun d => ptD (f d)) (by omega) (fun d hd => (hf d hd).1), List.map_map]; rfl
 ·obtain ⟨d, hd, rfl⟩ := List.mem_map.mp hp
  exact (hf d hd).2
end LmS
set_option Elab.async false
set_option linter.all false
set_option maxRecDepth 100000
open PySem L2 DL Mir
namespace LmT
open Mth LmP LmA LmD LmB LmE LmF LmH LmI LmJ LmK LmM LmQ LmS
theorem Col3 (x y z : P3) : Col [x, y, z] ↔ C3 z y x := by
 constructor
 ·intro h; exact h z (by simp) y (by simp) x (by simp)
 ·intro h p hp q hq r hr
  have h1 := C3.s12 h
  have h2 := C3.s23 h
  have h3 := C3.rot h
  have h4 := C3.rot h3
  have h5 := C3.s12 h2
  have h6 := C3.s12 h3
  have h7 := C3.s12 h4
  show C3 p q r
  simp only [List.mem_cons, List.not_mem_nil, or_false] at hp hq hr
  rcases hp with rfl | rfl | rfl <;> rcases hq with rfl | rfl | rfl <;> rcases hr with rfl | rfl | rfl <;> with_reducible (first | assumption | exact C3.aab _ _ | exact C3.aba _ _ | exact C3.baa _ _)
def tri (ps : List P3) (o m i : Nat) : Option D := if zco (pk ps o) (pk ps m) (pk ps i) = 0 then some (.bl true) else none
def thr (ps : List P3) : Option D := (rg 0 ps.length).findSome? fun o => (rg 0 o).findSome? fun m => (rg 0 m).findSome? fun i => tri ps o m i
def zl9 (ps : List P3) : Prop := ∀ i j k, i < ps.length → j < ps.length → k < ps.length → i ≠ j → i ≠ k → j ≠ k → ¬ C3 (pk ps i) (pk ps j) (pk ps k)
theorem zhm (ps : List P3) : (thr ps = some (.bl true) ∧ ¬ zl9 ps) ∨ (thr ps = none ∧ zl9 ps) := by
 cases h : thr ps with
 | some v =>
  obtain ⟨o, ho, h⟩ := List.exists_of_findSome?_eq_some h
  obtain ⟨m, hm, h⟩ := List.exists_of_findSome?_eq_some h
  obtain ⟨i, hi, h⟩ := List.exists_of_findSome?_eq_some h
  have ho := (zdb.mp ho).2
  have hm := (zdb.mp hm).2
  have hi := (zdb.mp hi).2
  unfold tri at h
  by_cases hz : zco (pk ps o) (pk ps m) (pk ps i) = 0
  ·rw [if_pos hz] at h
   cases h
   exact .inl ⟨rfl, fun b => b o m i ho (by omega) (by omega) (by omega) (by omega) (by omega) hz⟩
  ·rw [if_neg hz] at h; cases h
 | none =>
  refine .inr ⟨rfl, ?_⟩
  have desc : ∀ o m i, o < ps.length → m < o → i < m → ¬ C3 (pk ps o) (pk ps m) (pk ps i) := fun o m i ho hm hi hz => by
   have h1 := List.findSome?_eq_none_iff.mp h o (zdb.mpr ⟨by omega, ho⟩)
   have h2 := List.findSome?_eq_none_iff.mp h1 m (zdb.mpr ⟨by omega, hm⟩)
   have h3 := List.findSome?_eq_none_iff.mp h2 i (zdb.mpr ⟨by omega, hi⟩)
   unfold tri at h3
   rw [if_pos (show zco (pk ps o) (pk ps m) (pk ps i) = 0 from hz)] at h3; cases h3
  intro i j k hi hj hk h1 h2 h3 hc
  have c1 := C3.s12 hc
  have c2 := C3.s23 hc
  have c3 := C3.rot hc
  have c4 := C3.rot c3
  have c5 := C3.s23 c3
  rcases Nat.lt_or_gt_of_ne h1 with a | a <;> rcases Nat.lt_or_gt_of_ne h2 with b | b <;> rcases Nat.lt_or_gt_of_ne h3 with c | c
  ·exact desc k j i hk c a c5
  ·exact desc j k i hj c b c4
  ·omega
  ·exact desc j i k hj a b c1
  ·exact desc k i j hk b a c3
  ·omega
  ·exact desc i k j hi b c c2
  ·exact desc i j k hi a c hc
theorem zl9.nd {ps : List P3} (b : zl9 ps) (h3 : 3 ≤ ps.length) : ps.Nodup := by
 refine List.pairwise_iff_getElem.mpr fun i j hi hj hij e => ?_
 obtain ⟨k, hk, k1, k2⟩ : ∃ k, k < ps.length ∧ k ≠ i ∧ k ≠ j := by
  by_cases c0 : (0 : Nat) ≠ i ∧ (0 : Nat) ≠ j
  ·exact ⟨0, by omega, c0.1, c0.2⟩
  ·by_cases c1 : (1 : Nat) ≠ i ∧ (1 : Nat) ≠ j
   ·exact ⟨1, by omega, c1.1, c1.2⟩
   ·exact ⟨2, by omega, by omega, by omega⟩
 have a1 := zfR hi
 have a2 := zfR hj
 rw [List.getElem?_eq_getElem hi] at a1
 rw [List.getElem?_eq_getElem hj] at a2
 have e2 : pk ps i = pk ps j := by rw [← Option.some.inj a1, ← Option.some.inj a2, e]
 refine b i j k hi hj hk (by omega) (Ne.symm k1) (Ne.symm k2) ?_
 rw [e2]; exact C3.aab _ _
theorem zqi {ps : List P3} (h : Pts 24 ps) (hl : ps.length ≤ 100) : zcu [.lst (ps.map ptD)] = .ok ((thr ps).getD (.bl false)) := by
 have bd : ∀ {k}, k < ps.length → BP 24 (pk ps k) := fun hk => h.bd _ (zcI hk)
 have t3 : ∀ o m : Nat, o < ps.length → m < ps.length → ∀ i ∈ rg 0 m, ∀ σ, (∃ x, σ = [some (.lst (ps.map ptD)), some (.int (o : Int)), some (.int (m : Int)), x]) →
   (∃ v, tri ps o m i = some v ∧ zcz (σ.set 3 (some (.int (i : Int)))) = .ok (.rt v)) ∨ (tri ps o m i = none ∧ ∃ σ', zcz (σ.set 3 (some (.int (i : Int)))) = .ok (.nx σ') ∧ ∃ x, σ' = [some (.lst (ps.map ptD)), some (.int (o : Int)), some (.int (m : Int)), x]) := by
  rintro o m ho hm i hi σ ⟨x, rfl⟩
  have hi := (zdb.mp hi).2
  rw [show List.set _ 3 _ = [some (.lst (ps.map ptD)), some (.int (o : Int)), some (.int (m : Int)), some (.int (i : Int))] from rfl]
  unfold zcz; walk_at "ev"
  rw [Fl.ix ho, Fl.ix hm, Fl.ix (k := i) (by omega)]; walk_at "ev"
  rw [zrw (bd ho) (bd hm) (bd (k := i) (by omega)) (by decide) (.inl ⟨rfl, rfl, rfl⟩)]; walk_at "ev"
  unfold tri
  by_cases hz : zco (pk ps o) (pk ps m) (pk ps i) = 0
  ·rw [decide_eq_true hz, if_pos hz]; walk_at "ev"
   exact .inl ⟨_, rfl, rfl⟩
  ·rw [decide_eq_false hz, if_neg hz]; walk_at "ev"
   exact .inr ⟨trivial, _, rfl, _, rfl⟩
 have t2 : ∀ o : Nat, o < ps.length → ∀ m ∈ rg 0 o, ∀ σ, (∃ x y, σ = [some (.lst (ps.map ptD)), some (.int (o : Int)), x, y]) →
   (∃ v, ((rg 0 m).findSome? fun i => tri ps o m i) = some v ∧ zcU (σ.set 2 (some (.int (m : Int)))) = .ok (.rt v)) ∨ (((rg 0 m).findSome? fun i => tri ps o m i) = none ∧ ∃ σ', zcU (σ.set 2 (some (.int (m : Int)))) = .ok (.nx σ') ∧ ∃ x y, σ' = [some (.lst (ps.map ptD)), some (.int (o : Int)), x, y]) := by
  rintro o ho m hm σ ⟨x, y, rfl⟩
  have hm := (zdb.mp hm).2
  rw [show List.set _ 2 _ = [some (.lst (ps.map ptD)), some (.int (o : Int)), some (.int (m : Int)), y] from rfl]
  unfold zcU; walk_at "ev"
  rw [zfS m (by omega)]; walk_at "ev"
  rcases zfo _ _ _ (t3 o m ho (by omega)) _ ⟨y, rfl⟩ with ⟨v, e1, e2⟩ | ⟨e1, σ', e2, x', rfl⟩
  ·exact .inl ⟨v, e1, e2⟩
  ·exact .inr ⟨e1, _, e2, _, _, rfl⟩
 have t1 : ∀ o ∈ rg 0 ps.length, ∀ σ, (∃ x y z, σ = [some (.lst (ps.map ptD)), x, y, z]) →
   (∃ v, ((rg 0 o).findSome? fun m => (rg 0 m).findSome? fun i => tri ps o m i) = some v ∧ zdu (σ.set 1 (some (.int (o : Int)))) = .ok (.rt v)) ∨ (((rg 0 o).findSome? fun m => (rg 0 m).findSome? fun i => tri ps o m i) = none ∧ ∃ σ', zdu (σ.set 1 (some (.int (o : Int)))) = .ok (.nx σ') ∧ ∃ x y z, σ' = [some (.lst (ps.map ptD)), x, y, z]) := by
  rintro o ho σ ⟨x, y, z, rfl⟩
  have ho := (zdb.mp ho).2
  rw [show List.set _ 1 _ = [some (.lst (ps.map ptD)), some (.int (o : Int)), y, z] from rfl]
  unfold zdu; walk_at "ev"
  rw [zfS o (by omega)]; walk_at "ev"
  rcases zfo _ _ _ (t2 o ho) _ ⟨y, z, rfl⟩ with ⟨v, e1, e2⟩ | ⟨e1, σ', e2, x', y', rfl⟩
  ·exact .inl ⟨v, e1, e2⟩
  ·exact .inr ⟨e1, _, e2, _, _, _, rfl⟩
 rw [zhE]; unfold zd8; walk_at "ev"
 rw [List.length_map, zfS _ (by omega)]; walk_at "ev"
 unfold thr
 rcases zfo _ _ _ t1 _ ⟨none, none, none, rfl⟩ with ⟨v, e1, e2⟩ | ⟨e1, σ', e2, u, x, y, rfl⟩
 ·rw [e1, e2]; walk_at "ev"
  rfl
 ·rw [e1, e2]; walk_at "ev"
  unfold zfK; walk_at "ev"
  rfl
theorem on3 {x y z : P3} (h : Pts 24 [x, y, z]) : zbL [.lst [ptD x, ptD y, ptD z]] = .ok (.bl (decide (zco z y x = 0))) := by
 obtain ⟨b, e, c⟩ := zoI h (by decide) (by simp)
 rw [show zbL [.lst [ptD x, ptD y, ptD z]] = _ from e]
 congr 2
 rw [Bool.eq_iff_iff, c, Col3, decide_eq_true_eq]; rfl
theorem zma {ps : List P3} (h : Pts 24 ps) (hl : ps.length ≤ 100) : zaV [.lst (ps.map ptD)] = .ok ((thr ps).getD (.bl false)) := by
 have bd : ∀ {k}, k < ps.length → BP 24 (pk ps k) := fun hk => h.bd _ (zcI hk)
 have nm : ∀ {k}, k < ps.length → Nrm (pk ps k) := fun hk => h.nrm _ (zcI hk)
 have t3 : ∀ o m : Nat, o < ps.length → m < ps.length → ∀ i ∈ rg 0 m, ∀ σ, (∃ x, σ = [some (.lst (ps.map ptD)), some (.int (o : Int)), some (.int (m : Int)), x]) →
   (∃ v, tri ps o m i = some v ∧ za7 (σ.set 3 (some (.int (i : Int)))) = .ok (.rt v)) ∨ (tri ps o m i = none ∧ ∃ σ', za7 (σ.set 3 (some (.int (i : Int)))) = .ok (.nx σ') ∧ ∃ x, σ' = [some (.lst (ps.map ptD)), some (.int (o : Int)), some (.int (m : Int)), x]) := by
  rintro o m ho hm i hi σ ⟨x, rfl⟩
  have hi := (zdb.mp hi).2
  have hi' : i < ps.length := by omega
  rw [show List.set _ 3 _ = [some (.lst (ps.map ptD)), some (.int (o : Int)), some (.int (m : Int)), some (.int (i : Int))] from rfl]
  unfold za7; walk_at "ev"
  rw [Fl.ix ho, Fl.ix hm, Fl.ix hi']; walk_at "ev"
  rw [on3 ⟨fun p hp => by
   simp only [List.mem_cons, List.not_mem_nil, or_false] at hp
   rcases hp with rfl | rfl | rfl
   ·exact nm hi'
   ·exact nm hm
   ·exact nm ho, fun p hp => by
   simp only [List.mem_cons, List.not_mem_nil, or_false] at hp
   rcases hp with rfl | rfl | rfl
   ·exact bd hi'
   ·exact bd hm
   ·exact bd ho⟩]; walk_at "ev"
  unfold tri
  by_cases hz : zco (pk ps o) (pk ps m) (pk ps i) = 0
  ·rw [decide_eq_true hz, if_pos hz]; walk_at "ev"
   exact .inl ⟨_, rfl, rfl⟩
  ·rw [decide_eq_false hz, if_neg hz]; walk_at "ev"
   exact .inr ⟨trivial, _, rfl, _, rfl⟩
 have t2 : ∀ o : Nat, o < ps.length → ∀ m ∈ rg 0 o, ∀ σ, (∃ x y, σ = [some (.lst (ps.map ptD)), some (.int (o : Int)), x, y]) →
   (∃ v, ((rg 0 m).findSome? fun i => tri ps o m i) = some v ∧ zbe (σ.set 2 (some (.int (m : Int)))) = .ok (.rt v)) ∨ (((rg 0 m).findSome? fun i => tri ps o m i) = none ∧ ∃ σ', zbe (σ.set 2 (some (.int (m : Int)))) = .ok (.nx σ') ∧ ∃ x y, σ' = [some (.lst (ps.map ptD)), some (.int (o : Int)), x, y]) := by
  rintro o ho m hm σ ⟨x, y, rfl⟩
  have hm := (zdb.mp hm).2
  rw [show List.set _ 2 _ = [some (.lst (ps.map ptD)), some (.int (o : Int)), some (.int (m : Int)), y] from rfl]
  unfold zbe; walk_at "ev"
  rw [zfS m (by omega)]; walk_at "ev"
  rcases zfo _ _ _ (t3 o m ho (by omega)) _ ⟨y, rfl⟩ with ⟨v, e1, e2⟩ | ⟨e1, σ', e2, x', rfl⟩
  ·exact .inl ⟨v, e1, e2⟩
  ·exact .inr ⟨e1, _, e2, _, _, rfl⟩
 have t1 : ∀ o ∈ rg 0 ps.length, ∀ σ, (∃ x y z, σ = [some (.lst (ps.map ptD)), x, y, z]) →
   (∃ v, ((rg 0 o).findSome? fun m => (rg 0 m).findSome? fun i => tri ps o m i) = some v ∧ zbp (σ.set 1 (some (.int (o : Int)))) = .ok (.rt v)) ∨ (((rg 0 o).findSome? fun m => (rg 0 m).findSome? fun i => tri ps o m i) = none ∧ ∃ σ', zbp (σ.set 1 (some (.int (o : Int)))) = .ok (.nx σ') ∧ ∃ x y z, σ' = [some (.lst (ps.map ptD)), x, y, z]) := by
  rintro o ho σ ⟨x, y, z, rfl⟩
  have ho := (zdb.mp ho).2
  rw [show List.set _ 1 _ = [some (.lst (ps.map ptD)), some (.int (o : Int)), y, z] from rfl]
  unfold zbp; walk_at "ev"
  rw [zfS o (by omega)]; walk_at "ev"
  rcases zfo _ _ _ (t2 o ho) _ ⟨y, z, rfl⟩ with ⟨v, e1, e2⟩ | ⟨e1, σ', e2, x', y', rfl⟩
  ·exact .inl ⟨v, e1, e2⟩
  ·exact .inr ⟨e1, _, e2, _, _, _, rfl⟩
 rw [zez]; unfold zbF; walk_at "ev"
 rw [List.length_map, zfS _ (by omega)]; walk_at "ev"
 unfold thr
 rcases zfo _ _ _ t1 _ ⟨none, none, none, rfl⟩ with ⟨v, e1, e2⟩ | ⟨e1, σ', e2, u, x, y, rfl⟩
 ·rw [e1, e2]; walk_at "ev"
  rfl
 ·rw [e1, e2]; walk_at "ev"
  unfold zcP; walk_at "ev"
  rfl
theorem zeR {d : D} (h : zaG [d] = .ok (.bl false)) (n : D) : zaQ [d, n] = .err (.exc "NoBow" []) := by
 rw [zcq]; unfold zbz; walk_at "ev"
 rw [h]; walk_at "ev"
theorem zkd {ps : List P3} (h : Pts 24 ps) (h1 : 1 ≤ ps.length) (h12 : ps.length ≤ 12) : zaG [.lst (ps.map ptD)] = .ok (.bl (decide ps.Nodup)) := by
 by_cases nd : ps.Nodup
 ·have e := zsN nd
  rw [zin h (by decide) h1 h12, decide_eq_true (by omega), decide_eq_true nd]
 ·have : ∃ i j, i < j ∧ j < ps.length ∧ pk ps i = pk ps j := by
   apply Classical.byContradiction
   intro z
   apply nd
   refine List.pairwise_iff_getElem.mpr fun i j hi hj hij e => z ⟨i, j, hij, hj, ?_⟩
   have a1 := zfR hi
   have a2 := zfR hj
   rw [List.getElem?_eq_getElem hi] at a1
   rw [List.getElem?_eq_getElem hj] at a2
   rw [← Option.some.inj a1, ← Option.some.inj a2, e]
  obtain ⟨i, j, a, b, c⟩ := this
  rw [zoO h h12 a b c, decide_eq_false nd]
theorem zkI {ps : List P3} (h : Pts 24 ps) (h1 : 1 ≤ ps.length) (h12 : ps.length ≤ 12) {n : Nat} (hb : ps.length ≠ n ∨ ¬ zl9 ps) : zaQ [.lst (ps.map ptD), .int (n : Int)] = .err (.exc "NoBow" []) := by
 have fl := zkd h h1 h12
 by_cases nd : ps.Nodup
 ·rw [decide_eq_true nd] at fl
  rw [zcq]; unfold zbz; walk_at "ev"
  rw [fl]; walk_at "ev"
  rw [List.length_map]
  by_cases hn : ps.length = n
  ·rw [decide_eq_true (by omega)]; walk_at "ev"
   rw [zma h (by omega)]
   rcases zhm ps with ⟨e, _⟩ | ⟨_, b⟩
   ·rw [e, show (some (D.bl true)).getD (.bl false) = .bl true from rfl]; walk_at "ev"
   ·exact absurd b (hb.resolve_left fun z => z hn)
  ·rw [decide_eq_false (by omega)]; walk_at "ev"
 ·rw [decide_eq_false nd] at fl
  exact zeR fl _
theorem zqj {ps : List P3} (h : Pts 24 ps) (h3 : 3 ≤ ps.length) (h12 : ps.length ≤ 12) (hb : zl9 ps) : zaQ [.lst (ps.map ptD), .int (ps.length : Int)] = .ok .non := by
 have fl := zkd h (by omega) h12
 rw [decide_eq_true (hb.nd h3)] at fl
 rw [zcq]; unfold zbz; walk_at "ev"
 rw [fl]; walk_at "ev"
 rw [List.length_map, decide_eq_true rfl]; walk_at "ev"
 rw [zma h (by omega)]
 rcases zhm ps with ⟨_, b⟩ | ⟨e, _⟩
 ·exact absurd hb b
 ·rw [e, show (none : Option D).getD (.bl false) = .bl false from rfl]; walk_at "ev"
abbrev zhx (q : P6) : D := .tup ((zar q).map .int)
def B6 (n : Nat) (q : P6) : Prop := ∀ i ∈ zar q, B n i
theorem zqk {n : Nat} {ns : List Int} (h : ∀ i ∈ ns, B n i) (hz : zaE ns ≠ 0) (hn : n ≤ 9000) (hl : ns.length ≤ 1000) : zeP [.lst (ns.map .int)] = .ok (.tup ((zkj ns).map .int)) := by
 have hd := zsJ (k := 0) h hz hn
 rw [zkE]; unfold zgy zia zhe; walk_at "ev"
 obtain ⟨a', e⟩ := zqc ns (some (.lst (ns.map .int))) none
 rw [e]; walk_at "ev"
 unfold zh9 zh8; walk_at "ev"
 rw [zeu (p := fun d => !eqD d (.int 0)) (g := id) (by rw [List.length_map]; omega) (fun d hd => ?_) (fun d hd _ => rfl)]
 ·walk_at "ev"
  rw [ziW hz]; walk_at "ev"
  have hs : zdZ ns = if zaE ns < 0 then -((zkX ns : Nat) : Int) else ((zkX ns : Nat) : Int) := rfl
  by_cases hf : zaE ns < 0
  ·rw [if_pos hf] at hs
   rw [decide_eq_true hf]; walk_at "ev"
   rw [show -((ns.foldl (fun g n => Nat.gcd g n.natAbs) 0 : Nat) : Int) = zdZ ns from hs.symm, zoG (j := 1) hl hd rfl]; walk_at "ev"
   rfl
  ·rw [if_neg hf] at hs
   rw [decide_eq_false hf]; walk_at "ev"
   rw [show ((ns.foldl (fun g n => Nat.gcd g n.natAbs) 0 : Nat) : Int) = zdZ ns from hs.symm, zoG (j := 1) hl hd rfl]; walk_at "ev"
   rfl
 ·obtain ⟨i, _, rfl⟩ := List.mem_map.mp hd
  walk_at "ev"; rw [zet]
theorem zoS {n : Nat} {l m : P3} (hl : BP n l) (hm : BP n m) (hn : n ≤ 3000) : zbq [.tup [ptD l, ptD m]] = .ok (.lst ((zar (prd l m)).map .int)) := by
 have m1 : ∀ {i : Int}, B n i → zhA i = true := fun h => zat h (by omega)
 rw [zgr]; unfold zcT; walk_at "ev"
 rw [show gIx (.tup [ptD l, ptD m]) (.int 0) = .ok (ptD l) from rfl]; walk_at "ev"
 unfold zeD; walk_at "ev"
 rw [show gIx (.tup [ptD l, ptD m]) (.int 1) = .ok (ptD m) from rfl]; walk_at "ev"
 unfold zeC; walk_at "ev"
 have one : ∀ (k : Int) (a b : Int) (x y z : Option D), gIx (ptD l) (.int k) = .ok (.int a) → gIx (ptD m) (.int k) = .ok (.int b) → B n a → B n b → (eOp zbj (eOp gIx (zaj 2) (zaj 0)) (eOp gIx (zaj 3) (zaj 0))) [some (.int k), x, some (ptD l), some (ptD m), y, z] = .ok (.int (a * b)) := fun k a b x y z e1 e2 ha hb => by
  walk_at "ev"
  rw [e1, e2]; walk_at "ev"
  rw [zap _ _ (m1 ha) (m1 hb)]
 rw [show zgO [.int 3] = .ok [.int 0, .int 1, .int 2] from rfl, zv4 (one 0 _ _ _ _ _ rfl rfl hl.x hm.x) (one 1 _ _ _ _ _ rfl rfl hl.y hm.y) (one 2 _ _ _ _ _ rfl rfl hl.z hm.z)]; walk_at "ev"
 unfold zeB; walk_at "ev"
 have two : ∀ (j k : Int) (a b c d : Int) (x y z : Option D), gIx (ptD l) (.int j) = .ok (.int a) → gIx (ptD m) (.int k) = .ok (.int b) → gIx (ptD l) (.int k) = .ok (.int c) → gIx (ptD m) (.int j) = .ok (.int d) → B n a → B n b → B n c → B n d → (eOp zc2 (eOp zbj (eOp gIx (zaj 3) (zaj 0)) (eOp gIx (zaj 4) (zaj 1))) (eOp zbj (eOp gIx (zaj 3) (zaj 1)) (eOp gIx (zaj 4) (zaj 0)))) [some (.int j), some (.int k), x, some (ptD l), some (ptD m), y, z] = .ok (.int (a * b + c * d)) := fun j k a b c d x y z e1 e2 e3 e4 ha hb hc hd => by
  walk_at "ev"
  rw [e1, e2, e3, e4]; walk_at "ev"
  rw [zap _ _ (m1 ha) (m1 hb), zap _ _ (m1 hc) (m1 hd)]; walk_at "ev"
 rw [zv5 (two 0 1 _ _ _ _ _ _ _ rfl rfl rfl rfl hl.x hm.y hl.y hm.x) (two 0 2 _ _ _ _ _ _ _ rfl rfl rfl rfl hl.x hm.z hl.z hm.x) (two 1 2 _ _ _ _ _ _ _ rfl rfl rfl rfl hl.y hm.z hl.z hm.y)]; walk_at "ev"
 unfold zeA; walk_at "ev"
 rfl
theorem zuJ {a b c d f g a' b' c' d' f' g' x y z u v w : D} {e : DSt → R D} {σ : DSt} (h1 : e (some a :: some a' :: σ) = .ok x) (h2 : e (some b :: some b' :: σ) = .ok y) (h3 : e (some c :: some c' :: σ) = .ok z) (h4 : e (some d :: some d' :: σ) = .ok u) (h5 : e (some f :: some f' :: σ) = .ok v) (h6 : e (some g :: some g' :: σ) = .ok w) : lcK 2 [0, 1] (.ok [.tup [a, a'], .tup [b, b'], .tup [c, c'], .tup [d, d'], .tup [f, f'], .tup [g, g']]) (zdE 2) zbW e σ = .ok [x, y, z, u, v, w] := by
 have t : lcD [0, 1] (zdE 2) zbW e (List.replicate 2 none ++ σ) [.tup [a, a'], .tup [b, b'], .tup [c, c'], .tup [d, d'], .tup [f, f'], .tup [g, g']] = (e (some a :: some a' :: σ)).bind (fun y1 => ((e (some b :: some b' :: σ)).bind fun y2 => ((e (some c :: some c' :: σ)).bind fun y3 => ((e (some d :: some d' :: σ)).bind fun y4 => ((e (some f :: some f' :: σ)).bind fun y5 => ((e (some g :: some g' :: σ)).bind fun y6 => (R.ok ([] : List D)).bind fun ys => .ok (y6 :: ys)).bind fun ys => .ok (y5 :: ys)).bind fun ys => .ok (y4 :: ys)).bind fun ys => .ok (y3 :: ys)).bind fun ys => .ok (y2 :: ys)).bind fun ys => .ok (y1 :: ys)) := rfl
 show (bif most 6 then (lcD [0, 1] (zdE 2) zbW e (List.replicate 2 none ++ σ) _).noerr else .bad) = _
 rw [t, h1, h2, h3, h4, h5, h6]; rfl
theorem B6.prd {n : Nat} {l m : P3} (hl : BP n l) (hm : BP n m) : B6 (n + n + 1) (prd l m) := by
 have q : ∀ {a b : Int}, B n a → B n b → B (n + n + 1) (a * b) := fun ha hb => (ha.mul hb).mono (by omega)
 have s : ∀ {a b c d : Int}, B n a → B n b → B n c → B n d → B (n + n + 1) (a * b + c * d) := fun ha hb hc hd => ((ha.mul hb).add (hc.mul hd)).mono (by omega)
 intro i hi
 simp only [zar, Mth.prd, List.mem_cons, List.not_mem_nil, or_false] at hi
 rcases hi with rfl | rfl | rfl | rfl | rfl | rfl
 ·exact q hl.x hm.x
 ·exact q hl.y hm.y
 ·exact q hl.z hm.z
 ·exact s hl.x hm.y hl.y hm.x
 ·exact s hl.x hm.z hl.z hm.x
 ·exact s hl.y hm.z hl.z hm.y
theorem B6.comb {k n : Nat} {x y : Int} {q r : P6} (hx : B k x) (hy : B k y) (hq : B6 n q) (hr : B6 n r) : B6 (k + n + 1) (comb x y q r) := by
 have s : ∀ {a b : Int}, B n a → B n b → B (k + n + 1) (x * a - y * b) := fun ha hb => ((hx.mul ha).sub (hy.mul hb)).mono (by omega)
 intro i hi
 simp only [zar, Mth.comb, List.mem_cons, List.not_mem_nil, or_false] at hi
 rcases hi with rfl | rfl | rfl | rfl | rfl | rfl <;> exact s (hq _ (by simp [zar])) (hr _ (by simp [zar]))
theorem B6.low {n : Nat} {q : P6} (h : B6 n q) (hz : Nz6 q) : B6 n (zjq q) := by
 intro i hi
 rw [zjr] at hi
 obtain ⟨x, hx, rfl⟩ := List.mem_map.mp hi
 have := zpC hz hx
 have hb := h x hx
 unfold B at *
 omega
set_option maxHeartbeats 800000 in
theorem zrx {a b c d e : P3} (h : Pts 24 [a, b, c, d, e]) (hb : zl9 [a, b, c, d, e]) (g : G5 a b c d e) : zbG [.lst [ptD a, ptD b, ptD c, ptD d, ptD e]] = .ok (zhx (zjq (ziC a b c d e))) ∧ B6 250 (zjq (ziC a b c d e)) := by
 have ba := h.bd a (by simp)
 have bb := h.bd b (by simp)
 have bc := h.bd c (by simp)
 have bd := h.bd d (by simp)
 have be := h.bd e (by simp)
 have zab := zbu g.abc
 have zac := zbu (fun h => g.abc (C3.s23 h) : ¬ C3 a c b)
 have zcd := zbu g.cde
 have zbd := zbu g.bde
 have ne : ∀ {x y z : P3}, ¬ C3 x y z → x ≠ y := fun h z => h (by rw [z]; exact C3.aab _ _)
 have l1 := (ba.crs bb).low zab
 have l2 := (bc.crs bd).low zcd
 have m1 := (ba.crs bc).low zac
 have m2 := (bb.crs bd).low zbd
 have dl1 := l1.dot be
 have dl2 := l2.dot be
 have dm1 := m1.dot be
 have dm2 := m2.dot be
 have q1 := B6.prd l1 l2
 have q2 := B6.prd m1 m2
 have zn := zk2 g
 have bn : B6 250 (ziC a b c d e) := by
  unfold ziC
  intro i hi
  have := B6.comb (dm1.mul dm2) (dl1.mul dl2) q1 q2 i hi
  exact B.mono this (by decide)
 refine ⟨?_, bn.low zn⟩
 rw [zhf]; unfold zfF; walk_at "ev"
 have lb := zqj (ps := [a, b, c, d, e]) h (by simp) (by simp) hb
 rw [show (([a, b, c, d, e] : List P3).length : Int) = 5 from rfl, show ([a, b, c, d, e] : List P3).map ptD = [ptD a, ptD b, ptD c, ptD d, ptD e] from rfl] at lb
 rw [lb]; walk_at "ev"
 unfold zig; walk_at "ev"
 rw [show gIx (.lst [ptD a, ptD b, ptD c, ptD d, ptD e]) (.int 0) = .ok (ptD a) from rfl, show gIx (.lst [ptD a, ptD b, ptD c, ptD d, ptD e]) (.int 1) = .ok (ptD b) from rfl, show gIx (.lst [ptD a, ptD b, ptD c, ptD d, ptD e]) (.int 2) = .ok (ptD c) from rfl, show gIx (.lst [ptD a, ptD b, ptD c, ptD d, ptD e]) (.int 3) = .ok (ptD d) from rfl]; walk_at "ev"
 rw [zdV ba bb (by decide) (ne g.abc) zab, zdV bc bd (by decide) (ne g.cde) zcd]; walk_at "ev"
 unfold zif; walk_at "ev"
 rw [show gIx (.lst [ptD a, ptD b, ptD c, ptD d, ptD e]) (.int 0) = .ok (ptD a) from rfl, show gIx (.lst [ptD a, ptD b, ptD c, ptD d, ptD e]) (.int 1) = .ok (ptD b) from rfl, show gIx (.lst [ptD a, ptD b, ptD c, ptD d, ptD e]) (.int 2) = .ok (ptD c) from rfl, show gIx (.lst [ptD a, ptD b, ptD c, ptD d, ptD e]) (.int 3) = .ok (ptD d) from rfl]; walk_at "ev"
 rw [zdV ba bc (by decide) (ne (fun h => g.abc (C3.s23 h) : ¬ C3 a c b)) zac, zdV bb bd (by decide) (ne g.bde) zbd]; walk_at "ev"
 have i0 : ∀ x y : D, gIx (.tup [x, y]) (.int 0) = .ok x := fun _ _ => rfl
 have i1 : ∀ x y : D, gIx (.tup [x, y]) (.int 1) = .ok y := fun _ _ => rfl
 have i4 : gIx (.lst [ptD a, ptD b, ptD c, ptD d, ptD e]) (.int 4) = .ok (ptD e) := rfl
 unfold zie; walk_at "ev"
 rw [i0, i1, i4]; walk_at "ev"
 rw [zkb m1 be (by decide) (by decide), zkb m2 be (by decide) (by decide)]; walk_at "ev"
 rw [zap _ _ (zat dm1 (by decide)) (zat dm2 (by decide))]; walk_at "ev"
 unfold zid; walk_at "ev"
 rw [i0, i1, i4]; walk_at "ev"
 rw [zkb l1 be (by decide) (by decide), zkb l2 be (by decide) (by decide)]; walk_at "ev"
 rw [zap _ _ (zat dl1 (by decide)) (zat dl2 (by decide))]; walk_at "ev"
 unfold zic; walk_at "ev"
 rw [zoS l1 l2 (by decide), zoS m1 m2 (by decide)]; walk_at "ev"
 unfold zib; walk_at "ev"
 rw [i0, i1]; walk_at "ev"
 have mP := zat (dm1.mul dm2) (by decide)
 have mL := zat (dl1.mul dl2) (by decide)
 generalize hP : dot (low (crs a c)) e * dot (low (crs b d)) e = P at mP
 generalize hL : dot (low (crs a b)) e * dot (low (crs c d)) e = L at mL
 generalize hq1 : prd (low (crs a b)) (low (crs c d)) = r1 at q1
 generalize hq2 : prd (low (crs a c)) (low (crs b d)) = r2 at q2
 have bw : ziC a b c d e = comb P L r1 r2 := by unfold ziC; rw [hP, hL, hq1, hq2]
 have one : ∀ (x y : Int) (s0 s1 s2 s5 : Option D), B 99 x → B 99 y → (eOp gSub (eOp zbj (zaj 5) (zaj 0)) (eOp zbj (zaj 6) (zaj 1))) [some (.int x), some (.int y), s0, s1, s2, some (.int P), some (.int L), s5] = .ok (.int (P * x - L * y)) := fun x y s0 s1 s2 s5 hx hy => by
  walk_at "ev"
  rw [zap _ _ mP (zat hx (by decide)), zap _ _ mL (zat hy (by decide))]; walk_at "ev"
 have b1 : ∀ x ∈ zar r1, B 99 x := fun x hx => (q1 x hx).mono (by decide)
 have b2 : ∀ x ∈ zar r2, B 99 x := fun x hx => (q2 x hx).mono (by decide)
 rw [show ziU [.lst ((zar r1).map .int), .lst ((zar r2).map .int)] = .ok [.tup [.int r1.1.1, .int r2.1.1], .tup [.int r1.1.2.1, .int r2.1.2.1], .tup [.int r1.1.2.2, .int r2.1.2.2], .tup [.int r1.2.1, .int r2.2.1], .tup [.int r1.2.2.1, .int r2.2.2.1], .tup [.int r1.2.2.2, .int r2.2.2.2]] from rfl,
  zuJ (one _ _ _ _ _ _ (b1 _ (by simp [zar])) (b2 _ (by simp [zar]))) (one _ _ _ _ _ _ (b1 _ (by simp [zar])) (b2 _ (by simp [zar]))) (one _ _ _ _ _ _ (b1 _ (by simp [zar])) (b2 _ (by simp [zar]))) (one _ _ _ _ _ _ (b1 _ (by simp [zar])) (b2 _ (by simp [zar]))) (one _ _ _ _ _ _ (b1 _ (by simp [zar])) (b2 _ (by simp [zar]))) (one _ _ _ _ _ _ (b1 _ (by simp [zar])) (b2 _ (by simp [zar])))]; walk_at "ev"
 have key : D.lst [.int (P * r1.1.1 - L * r2.1.1), .int (P * r1.1.2.1 - L * r2.1.2.1), .int (P * r1.1.2.2 - L * r2.1.2.2), .int (P * r1.2.1 - L * r2.2.1), .int (P * r1.2.2.1 - L * r2.2.2.1), .int (P * r1.2.2.2 - L * r2.2.2.2)] = .lst ((zar (ziC a b c d e)).map .int) := by rw [bw]; rfl
 rw [key, zqk (ns := zar (ziC a b c d e)) bn zn (by decide) (by simp [zar])]; walk_at "ev"
 rw [← zjr]
theorem zmb {n k : Nat} {q : P6} {p : P3} (hq : B6 n q) (hp : BP k p) (hn : n + k + k ≤ 9000) : zbO [zhx q, ptD p] = .ok (.int (qv q p)) := by
 have q1 := hq q.1.1 (by simp [zar])
 have q2 := hq q.1.2.1 (by simp [zar])
 have q3 := hq q.1.2.2 (by simp [zar])
 have q4 := hq q.2.1 (by simp [zar])
 have q5 := hq q.2.2.1 (by simp [zar])
 have q6 := hq q.2.2.2 (by simp [zar])
 have m1 : ∀ {a b : Int}, B n a → B k b → zbj (.int a) (.int b) = .ok (.int (a * b)) := fun ha hb => zap _ _ (zat ha (by omega)) (zat hb (by omega))
 have m2 : ∀ {a b c : Int}, B n a → B k b → B k c → zbj (.int (a * b)) (.int c) = .ok (.int (a * b * c)) := fun ha hb hc => zap _ _ (zat (ha.mul hb) (by omega)) (zat hc (by omega))
 have i0 : gIx (zhx q) (.int 0) = .ok (.int q.1.1) := rfl
 have i1 : gIx (zhx q) (.int 1) = .ok (.int q.1.2.1) := rfl
 have i2 : gIx (zhx q) (.int 2) = .ok (.int q.1.2.2) := rfl
 have i3 : gIx (zhx q) (.int 3) = .ok (.int q.2.1) := rfl
 have i4 : gIx (zhx q) (.int 4) = .ok (.int q.2.2.1) := rfl
 have i5 : gIx (zhx q) (.int 5) = .ok (.int q.2.2.2) := rfl
 rw [zhF]; unfold zd9; walk_at "ev"
 unfold zfM; walk_at "ev"
 rw [i0, i1, i2]; walk_at "ev"
 rw [m1 q1 hp.x, m1 q2 hp.y, m1 q3 hp.z]; walk_at "ev"
 rw [m2 q1 hp.x hp.x, m2 q2 hp.y hp.y, m2 q3 hp.z hp.z]; walk_at "ev"
 unfold zfL; walk_at "ev"
 rw [i3, i4, i5]; walk_at "ev"
 rw [m1 q4 hp.x, m1 q5 hp.x, m1 q6 hp.y]; walk_at "ev"
 rw [m2 q4 hp.x hp.y, m2 q5 hp.x hp.z, m2 q6 hp.y hp.z]; walk_at "ev"
 rfl
theorem zoT {n k : Nat} {q : P6} {p : P3} (hq : B6 n q) (hp : BP k p) (hn : n + k + k ≤ 9000) : zeQ [zhx q, ptD p] = .ok (.bl (decide (qv q p = 0))) := by
 have m1 : ∀ {a b : Int}, B k a → B k b → zbj (.int a) (.int b) = .ok (.int (a * b)) := fun ha hb => zap _ _ (zat ha (by omega)) (zat hb (by omega))
 have one : ∀ (x y : Int) (s0 s1 s2 s3 s4 s5 : Option D), B n x → B (k + k) y → (eOp zbj (zaj 0) (zaj 1)) [some (.int x), some (.int y), s0, s1, s2, s3, s4, s5] = .ok (.int (x * y)) := fun x y s0 s1 s2 s3 s4 s5 hx hy => by
  walk_at "ev"
  rw [zap _ _ (zat hx (by omega)) (zat hy (by omega))]
 rw [zkF]; unfold zgz; walk_at "ev"
 unfold zik; walk_at "ev"
 unfold zij; walk_at "ev"
 unfold zii; walk_at "ev"
 rw [m1 hp.x hp.x, m1 hp.y hp.y, m1 hp.z hp.z, m1 hp.x hp.y, m1 hp.x hp.z, m1 hp.y hp.z]; walk_at "ev"
 unfold zih; walk_at "ev"
 rw [show ziU [zhx q, .tup [.int (p.1 * p.1), .int (p.2.1 * p.2.1), .int (p.2.2 * p.2.2), .int (p.1 * p.2.1), .int (p.1 * p.2.2), .int (p.2.1 * p.2.2)]] = .ok [.tup [.int q.1.1, .int (p.1 * p.1)], .tup [.int q.1.2.1, .int (p.2.1 * p.2.1)], .tup [.int q.1.2.2, .int (p.2.2 * p.2.2)], .tup [.int q.2.1, .int (p.1 * p.2.1)], .tup [.int q.2.2.1, .int (p.1 * p.2.2)], .tup [.int q.2.2.2, .int (p.2.1 * p.2.2)]] from rfl,
  zuJ (one _ _ _ _ _ _ _ _ (hq _ (by simp [zar])) (hp.x.mul hp.x)) (one _ _ _ _ _ _ _ _ (hq _ (by simp [zar])) (hp.y.mul hp.y)) (one _ _ _ _ _ _ _ _ (hq _ (by simp [zar])) (hp.z.mul hp.z)) (one _ _ _ _ _ _ _ _ (hq _ (by simp [zar])) (hp.x.mul hp.y)) (one _ _ _ _ _ _ _ _ (hq _ (by simp [zar])) (hp.x.mul hp.z)) (one _ _ _ _ _ _ _ _ (hq _ (by simp [zar])) (hp.y.mul hp.z))]; walk_at "ev"
 rw [show zuW [.lst [.int (q.1.1 * (p.1 * p.1)), .int (q.1.2.1 * (p.2.1 * p.2.1)), .int (q.1.2.2 * (p.2.2 * p.2.2)), .int (q.2.1 * (p.1 * p.2.1)), .int (q.2.2.1 * (p.1 * p.2.2)), .int (q.2.2.2 * (p.2.1 * p.2.2))]] = .ok (.int (q.1.1 * (p.1 * p.1) + (q.1.2.1 * (p.2.1 * p.2.1) + (q.1.2.2 * (p.2.2 * p.2.2) + (q.2.1 * (p.1 * p.2.1) + (q.2.2.1 * (p.1 * p.2.2) + (q.2.2.2 * (p.2.1 * p.2.2) + 0))))))) from rfl,
  show q.1.1 * (p.1 * p.1) + (q.1.2.1 * (p.2.1 * p.2.1) + (q.1.2.2 * (p.2.2 * p.2.2) + (q.2.1 * (p.1 * p.2.1) + (q.2.2.1 * (p.1 * p.2.2) + (q.2.2.2 * (p.2.1 * p.2.2) + 0))))) = qv q p from by unfold qv; grind]; walk_at "ev"
end LmT
set_option Elab.async false
set_option linter.all false
set_option maxRecDepth 100000
open PySem L2 DL Mir
namespace Lk77
open Mth LmP LmA LmD LmB LmE LmF LmH LmI LmJ LmK LmM LmQ LmS LmT
theorem gcd_w (n m : Nat) (s a : Option D) : zbE za8 zbP [s, some (.int (m : Int)), a, some (.int (n : Int))] = .ok (.nx [s, some (.int ((Nat.gcd m n : Nat) : Int)), a, some (.int 0)]) := by
 induction n using Nat.strongRecOn generalizing m with
 | _ n ih =>
  by_cases hn : n = 0
  ·subst hn
   rw [ziR (by unfold za8; walk_at "ev"; rfl), Nat.gcd_zero_right]; rfl
  ·have hlt : m % n < n := Nat.mod_lt _ (by omega)
   have h := ih (m % n) hlt n
   rw [ziQ (σ' := [s, some (.int (n : Int)), a, some (.int ((m % n : Nat) : Int))]) ?_ ?_, h, Mth.gcd_step]
   ·unfold za8; walk_at "ev"
    rw [decide_eq_false (by omega)]; rfl
   ·unfold zbP; walk_at "ev"
    rw [zaF _ _ (by omega)]
    walk_at "ev"
    rfl
theorem zuK : ∀ (ns : List Int) (g : Nat) (s a r : Option D), ∃ a' r', zhz [2] zaI za9 (ns.map .int) [s, some (.int (g : Int)), a, r] = .ok (.nx [s, some (.int ((ns.foldl (fun g n => Nat.gcd g n.natAbs) g : Nat) : Int)), a', r'])
 | [], g, s, a, r => ⟨a, r, rfl⟩
 | n :: ns, g, s, a, r => by
  obtain ⟨a', r', h⟩ := zuK ns (Nat.gcd g n.natAbs) s (some (.int n)) (some (.int 0))
  refine ⟨a', r', ?_⟩
  rw [List.map_cons, zd4]
  rw [show za9 (List.set [s, some (.int (g : Int)), a, r] 2 (some (.int n))) = .ok (.nx [s, some (.int ((Nat.gcd g n.natAbs : Nat) : Int)), some (.int n), some (.int 0)]) from ?_]
  ·walk_at "ev"
   exact h
  ·unfold za9; walk_at "ev"
   unfold zcR
   exact gcd_w n.natAbs g s (some (.int n))
theorem zke {q : P6} (h1 : zkX (zar q) = 1) (h2 : 0 < zaE (zar q)) : zbi [zhx q] = .ok (.bl true) := by
 rw [zfN]; unfold zck; walk_at "ev"
 unfold zdU; walk_at "ev"
 obtain ⟨a', r', e⟩ := zuK (zar q) 0 (some (zhx q)) none none
 have e : zhz [2] zaI za9 ((zar q).map .int) [some (zhx q), some (.int 0), none, none] = _ := e
 rw [e]; walk_at "ev"
 unfold zdT; walk_at "ev"
 rw [show (zar q).foldl (fun g n => Nat.gcd g n.natAbs) 0 = 1 from h1, show ((1 : Nat) : Int) = 1 from rfl]; walk_at "ev"
 rw [zeu (p := fun d => !eqD d (.int 0)) (g := id) (by rw [List.length_map]; simp [zar]) (fun d hd => ?_) (fun d hd _ => rfl)]
 ·walk_at "ev"
  rw [ziW (by omega)]; walk_at "ev"
  rw [decide_eq_true h2]
 ·obtain ⟨i, _, rfl⟩ := List.mem_map.mp hd
  walk_at "ev"; rw [zet]
theorem zoU (q r : P6) : gEq (zhx q) (zhx r) = .ok (.bl (decide (q = r))) := by
 rw [zh5 rfl, zeO.1, zgX]
 congr 2
 rw [decide_eq_decide]
 exact ⟨zjs, fun h => by rw [h]⟩
theorem zql {q : P6} (h : 0 < zaE (zar q)) : q ≠ ((0, 0, 0), (0, 0, 0)) := fun e => by
 rw [e] at h; exact absurd h (by decide)
theorem zoV (ds : List D) (σ : DSt) {c : DSt → R Bool} (hl : ds.length ≤ 1000) (hc : ∀ d ∈ ds, c (some d :: σ) = .ok false) : lcK 1 [0] (.ok ds) zaI c (zaj 0) σ = .ok [] := by
 rw [zeu (p := fun _ => false) (g := id) (by omega) hc (fun d hd z => by cases z)]
 simp
theorem zoW {q : P6} {ps : List P3} (hq : B6 250 q) (h1 : zkX (zar q) = 1) (h2 : 0 < zaE (zar q)) (hp : Pts 24 ps) (hl : ps.length ≤ 100) (hv : ∀ p ∈ ps, qv q p = 0) : zb4 [zhx q, .lst (ps.map ptD)] = .ok (.bl true) := by
 rw [zhj]; unfold zdv; walk_at "ev"
 rw [show zi6 [zhx q] = .ok (.int 6) from rfl]; walk_at "ev"
 rw [zoV _ _ (by rw [List.length_map]; simp [zar]) (fun d hd => ?_)]
 ·walk_at "ev"
  rw [show gNe (.lst []) (.lst []) = .ok (.bl false) from rfl]; walk_at "ev"
  unfold ze7; walk_at "ev"
  rw [show gEq (zhx q) (.tup [.int 0, .int 0, .int 0, .int 0, .int 0, .int 0]) = _ from zoU q ((0, 0, 0), (0, 0, 0)), decide_eq_false (zql h2)]; walk_at "ev"
  rw [zke h1 h2]; walk_at "ev"
  unfold ze6; walk_at "ev"
  rw [zoV _ _ (by rw [List.length_map]; omega) (fun d hd => ?_)]
  ·walk_at "ev"
   rw [show gEq (.lst []) (.lst []) = .ok (.bl true) from rfl]; walk_at "ev"
  ·obtain ⟨p, hp', rfl⟩ := List.mem_map.mp hd
   walk_at "ev"
   rw [zmb hq (hp.bd p hp') (by decide), hv p hp']; walk_at "ev"
 ·obtain ⟨i, _, rfl⟩ := List.mem_map.mp hd
  walk_at "ev"
  rw [zkG]; walk_at "ev"
theorem zio {d : D} (h : zbG [d] = .err (.exc "NoBow" [])) : zaM [d] = .ok (.bl true) := by
 rw [zfn]; unfold zb1; walk_at "ev"
 unfold zdy; walk_at "ev"
 rw [h]; walk_at "ev"
 rw [zp2 _ _ _ _ _ _ (show zju "NoBow" "ChalkError" = some true by decide +kernel)]; walk_at "ev"
 unfold zdx; walk_at "ev"
 rw [show g2 zsG [.exc "NoBow" [], .tup [.cls "NoPlace", .cls "NoRatio", .cls "Same"]] = .ok (.bl false) from rfl]; walk_at "ev"
 unfold zdw; walk_at "ev"
 rw [zsz (show zju "NoBow" "NoBow" = some true by decide +kernel)]; walk_at "ev"
theorem zeE {d : D} (h : zaQ [d, .int 5] = .err (.exc "NoBow" [])) : zbG [d] = .err (.exc "NoBow" []) := by
 rw [zhf]; unfold zfF; walk_at "ev"
 rw [h]; walk_at "ev"
theorem G5.of {ps : List P3} (b : zl9 ps) {i j k l m : Nat} (hi : i < ps.length) (hj : j < ps.length) (hk : k < ps.length) (hl : l < ps.length) (hm : m < ps.length) (d : i ≠ j ∧ i ≠ k ∧ i ≠ l ∧ i ≠ m ∧ j ≠ k ∧ j ≠ l ∧ j ≠ m ∧ k ≠ l ∧ k ≠ m ∧ l ≠ m) : G5 (pk ps i) (pk ps j) (pk ps k) (pk ps l) (pk ps m) := by
 obtain ⟨d1, d2, d3, d4, d5, d6, d7, d8, d9, d10⟩ := d
 exact ⟨b _ _ _ hi hj hk d1 d2 d5, b _ _ _ hi hj hl d1 d3 d6, b _ _ _ hi hj hm d1 d4 d7, b _ _ _ hi hk hl d2 d3 d8, b _ _ _ hi hk hm d2 d4 d9, b _ _ _ hi hl hm d3 d4 d10, b _ _ _ hj hk hl d5 d6 d8, b _ _ _ hj hk hm d5 d7 d9, b _ _ _ hj hl hm d6 d7 d10, b _ _ _ hk hl hm d8 d9 d10⟩
theorem zoX {ps : List P3} (h5 : ps.length = 5) : ps = [pk ps 0, pk ps 1, pk ps 2, pk ps 3, pk ps 4] := by
 match ps, h5 with
 | [a, b, c, d, e], _ => rfl
theorem Pts.five {ps : List P3} (h : Pts 24 ps) {i j k l m : Nat} (hi : i < ps.length) (hj : j < ps.length) (hk : k < ps.length) (hl : l < ps.length) (hm : m < ps.length) : Pts 24 [pk ps i, pk ps j, pk ps k, pk ps l, pk ps m] :=
 ⟨fun p hp => by
  simp only [List.mem_cons, List.not_mem_nil, or_false] at hp
  rcases hp with rfl | rfl | rfl | rfl | rfl
  ·exact h.nrm _ (zcI hi)
  ·exact h.nrm _ (zcI hj)
  ·exact h.nrm _ (zcI hk)
  ·exact h.nrm _ (zcI hl)
  ·exact h.nrm _ (zcI hm), fun p hp => by
  simp only [List.mem_cons, List.not_mem_nil, or_false] at hp
  rcases hp with rfl | rfl | rfl | rfl | rfl
  ·exact h.bd _ (zcI hi)
  ·exact h.bd _ (zcI hj)
  ·exact h.bd _ (zcI hk)
  ·exact h.bd _ (zcI hl)
  ·exact h.bd _ (zcI hm)⟩
theorem zl9.five {ps : List P3} (b : zl9 ps) (f : Nat → Nat) (hf : ∀ n, n < 5 → f n < ps.length) (inj : ∀ n m, n < 5 → m < 5 → n ≠ m → f n ≠ f m) : zl9 [pk ps (f 0), pk ps (f 1), pk ps (f 2), pk ps (f 3), pk ps (f 4)] := by
 have g : ∀ n, n < 5 → pk [pk ps (f 0), pk ps (f 1), pk ps (f 2), pk ps (f 3), pk ps (f 4)] n = pk ps (f n) := fun n hn => by
  match n, hn with
  | 0, _ => rfl
  | 1, _ => rfl
  | 2, _ => rfl
  | 3, _ => rfl
  | 4, _ => rfl
 intro i j k hi hj hk d1 d2 d3
 have hi : i < 5 := hi
 have hj : j < 5 := hj
 have hk : k < 5 := hk
 rw [g i hi, g j hj, g k hk]
 exact b _ _ _ (hf i hi) (hf j hj) (hf k hk) (inj i j hi hj d1) (inj i k hi hk d2) (inj j k hj hk d3)
theorem zmc {ps : List P3} (h : Pts 24 ps) (h5 : ps.length = 5) (b : zl9 ps) (f : Nat → Nat) (hf : ∀ n, n < 5 → f n < 5) (inj : ∀ n m, n < 5 → m < 5 → n ≠ m → f n ≠ f m) (sur : ∀ n, n < 5 → ∃ m, m < 5 ∧ f m = n) :
  zbG [.lst [ptD (pk ps (f 0)), ptD (pk ps (f 1)), ptD (pk ps (f 2)), ptD (pk ps (f 3)), ptD (pk ps (f 4))]] = .ok (zhx (zjq (ziC (pk ps 0) (pk ps 1) (pk ps 2) (pk ps 3) (pk ps 4)))) := by
 have hf' : ∀ n, n < 5 → f n < ps.length := fun n hn => by rw [h5]; exact hf n hn
 have g0 : G5 (pk ps 0) (pk ps 1) (pk ps 2) (pk ps 3) (pk ps 4) := G5.of b (by omega) (by omega) (by omega) (by omega) (by omega) (by decide)
 have g1 : G5 (pk ps (f 0)) (pk ps (f 1)) (pk ps (f 2)) (pk ps (f 3)) (pk ps (f 4)) := G5.of b (hf' 0 (by decide)) (hf' 1 (by decide)) (hf' 2 (by decide)) (hf' 3 (by decide)) (hf' 4 (by decide)) ⟨inj 0 1 (by decide) (by decide) (by decide), inj 0 2 (by decide) (by decide) (by decide), inj 0 3 (by decide) (by decide) (by decide), inj 0 4 (by decide) (by decide) (by decide), inj 1 2 (by decide) (by decide) (by decide), inj 1 3 (by decide) (by decide) (by decide), inj 1 4 (by decide) (by decide) (by decide), inj 2 3 (by decide) (by decide) (by decide), inj 2 4 (by decide) (by decide) (by decide), inj 3 4 (by decide) (by decide) (by decide)⟩
 have e := (zrx (Pts.five h (hf' 0 (by decide)) (hf' 1 (by decide)) (hf' 2 (by decide)) (hf' 3 (by decide)) (hf' 4 (by decide))) (zl9.five b f hf' inj) g1).1
 rw [e]
 obtain ⟨a0, a1, a2, a3, a4⟩ := zng g0
 obtain ⟨c0, c1, c2, c3, c4⟩ := zng g1
 have all : ∀ n, n < 5 → qv (ziC (pk ps (f 0)) (pk ps (f 1)) (pk ps (f 2)) (pk ps (f 3)) (pk ps (f 4))) (pk ps n) = 0 := fun n hn => by
  obtain ⟨m, hm, rfl⟩ := sur n hn
  match m, hm with
  | 0, _ => exact c0
  | 1, _ => exact c1
  | 2, _ => exact c2
  | 3, _ => exact c3
  | 4, _ => exact c4
 rw [zsd g0 (zk2 g1) (zk2 g0) (all 0 (by decide)) (all 1 (by decide)) (all 2 (by decide)) (all 3 (by decide)) (all 4 (by decide)) a0 a1 a2 a3 a4]
theorem zv9 {s : Int} (hs : s = 1 ∨ s = 2 ∨ s = 3 ∨ s = 4) : ∃ f : Nat → Nat, (∀ n : Nat, n < 5 → (s * (n : Int) + 1) % 5 = ((f n : Nat) : Int)) ∧ (∀ n, n < 5 → f n < 5) ∧ (∀ n m, n < 5 → m < 5 → n ≠ m → f n ≠ f m) ∧ ∀ n, n < 5 → ∃ m, m < 5 ∧ f m = n := by
 rcases hs with rfl | rfl | rfl | rfl
 ·refine ⟨fun n => (n + 1) % 5, fun n hn => by show _ = (((n + 1) % 5 : Nat) : Int); omega, fun n hn => by show (n + 1) % 5 < 5; omega, fun n m hn hm d => by show (n + 1) % 5 ≠ (m + 1) % 5; omega, fun n hn => ⟨(n + 4) % 5, by omega, by show ((n + 4) % 5 + 1) % 5 = n; omega⟩⟩
 ·refine ⟨fun n => (2 * n + 1) % 5, fun n hn => by show _ = (((2 * n + 1) % 5 : Nat) : Int); omega, fun n hn => by show (2 * n + 1) % 5 < 5; omega, fun n m hn hm d => by show (2 * n + 1) % 5 ≠ (2 * m + 1) % 5; omega, fun n hn => ⟨(3 * n + 2) % 5, by omega, by show (2 * ((3 * n + 2) % 5) + 1) % 5 = n; omega⟩⟩
 ·refine ⟨fun n => (3 * n + 1) % 5, fun n hn => by show _ = (((3 * n + 1) % 5 : Nat) : Int); omega, fun n hn => by show (3 * n + 1) % 5 < 5; omega, fun n m hn hm d => by show (3 * n + 1) % 5 ≠ (3 * m + 1) % 5; omega, fun n hn => ⟨(2 * n + 3) % 5, by omega, by show (3 * ((2 * n + 3) % 5) + 1) % 5 = n; omega⟩⟩
 ·refine ⟨fun n => (4 * n + 1) % 5, fun n hn => by show _ = (((4 * n + 1) % 5 : Nat) : Int); omega, fun n hn => by show (4 * n + 1) % 5 < 5; omega, fun n m hn hm d => by show (4 * n + 1) % 5 ≠ (4 * m + 1) % 5; omega, fun n hn => ⟨(4 * n + 1) % 5, by omega, by show (4 * ((4 * n + 1) % 5) + 1) % 5 = n; omega⟩⟩
theorem lc_5 {a b c d f x y z u v : D} {e : DSt → R D} {σ : DSt} (ha : e (some a :: σ) = .ok x) (hb : e (some b :: σ) = .ok y) (hc : e (some c :: σ) = .ok z) (hd : e (some d :: σ) = .ok u) (hf : e (some f :: σ) = .ok v) : lcK 1 [0] (.ok [a, b, c, d, f]) zaI zbW e σ = .ok [x, y, z, u, v] := by
 have t : lcD [0] zaI zbW e (List.replicate 1 none ++ σ) [a, b, c, d, f] = (e (some a :: σ)).bind (fun y1 => ((e (some b :: σ)).bind fun y2 => ((e (some c :: σ)).bind fun y3 => ((e (some d :: σ)).bind fun y4 => ((e (some f :: σ)).bind fun y5 => (R.ok ([] : List D)).bind fun ys => .ok (y5 :: ys)).bind fun ys => .ok (y4 :: ys)).bind fun ys => .ok (y3 :: ys)).bind fun ys => .ok (y2 :: ys)).bind fun ys => .ok (y1 :: ys)) := rfl
 show (bif most 5 then (lcD [0] zaI zbW e (List.replicate 1 none ++ σ) [a, b, c, d, f]).noerr else .bad) = _
 rw [t, ha, hb, hc, hd, hf]; rfl
theorem zoY (ps : List P3) : zeL 9 (.lst (ps.map ptD)) = true := by
 show (ps.map ptD).all (zeL 8) = true
 rw [List.all_map, List.all_eq_true]
 intro p _
 rfl
theorem zqm {d : D} (h : zeL 9 d = true) : gEq d d = .ok (.bl true) := by rw [zh5 (by unfold zmu; rw [h]; rfl), zgv 9 _ h]
theorem zqn {ps : List P3} {x y : P3} {s : Int} (h : Pts 24 ps) (h5 : ps.length = 5) (bx : BP 24 x) (by' : BP 24 y) (hs : s = 1 ∨ s = 2 ∨ s = 3 ∨ s = 4) : zbA [.lst (ps.map ptD), .lst [ptD x, ptD y], .int s] = .ok (.bl true) := by
 rw [zf4]; unfold zcA; walk_at "ev"
 rw [show zpR [.lst (ps.map ptD)] = .ok (ps.map ptD) from rfl]; walk_at "ev"
 unfold zeo; walk_at "ev"
 rw [zqi h (by omega)]
 rcases zhm ps with ⟨et, nb⟩ | ⟨et, b⟩
 ·rw [et, show (some (D.bl true)).getD (.bl false) = .bl true from rfl]; walk_at "ev"
  rw [zio (zeE (zkI h (by omega) (by omega) (n := 5) (.inr nb)))]; walk_at "ev"
  rw [zqm (zoY ps)]; walk_at "ev"
 ·rw [et, show (none : Option D).getD (.bl false) = .bl false from rfl]; walk_at "ev"
  have id5 := zmc h h5 b id (fun n hn => hn) (fun _ _ _ _ d => d) (fun n hn => ⟨n, hn, rfl⟩)
  have ep : ps.map ptD = [ptD (pk ps 0), ptD (pk ps 1), ptD (pk ps 2), ptD (pk ps 3), ptD (pk ps 4)] := by
   conv => lhs; rw [zoX h5]
   rfl
  have g0 : G5 (pk ps 0) (pk ps 1) (pk ps 2) (pk ps 3) (pk ps 4) := G5.of b (by omega) (by omega) (by omega) (by omega) (by omega) (by decide)
  have zn := zk2 g0
  obtain ⟨a0, a1, a2, a3, a4⟩ := zng g0
  have B5 := (zrx (Pts.five h (i := 0) (j := 1) (k := 2) (l := 3) (m := 4) (by omega) (by omega) (by omega) (by omega) (by omega)) (zl9.five b id (fun n hn => by show n < ps.length; omega) (fun _ _ _ _ d => d)) g0).2
  obtain ⟨l1, l2⟩ := zpE zn
  generalize hq : zjq (ziC (pk ps 0) (pk ps 1) (pk ps 2) (pk ps 3) (pk ps 4)) = q at id5 B5
  have l1 : zkX (zar q) = 1 := by rw [← hq]; exact l1
  have l2 : 0 < zaE (zar q) := by rw [← hq]; exact l2
  have hv : ∀ p ∈ ps, qv q p = 0 := fun p hp => by
   rw [zoX h5] at hp
   rw [← hq, zkr zn]
   simp only [List.mem_cons, List.not_mem_nil, or_false] at hp
   rcases hp with rfl | rfl | rfl | rfl | rfl <;> assumption
  unfold zen; walk_at "ev"
  rw [show zbG [.lst (ps.map ptD)] = .ok (zhx q) from by rw [ep]; exact id5]; walk_at "ev"
  unfold zem; walk_at "ev"
  rw [Lk12.ne_same (zoY ps)]; walk_at "ev"
  rw [zoW B5 l1 l2 h (by omega) hv]; walk_at "ev"
  unfold zel; walk_at "ev"
  have one : ∀ (p : P3) (z : Option D), BP 24 p → zcv [some (.lst (ps.map ptD)), some (.lst [ptD x, ptD y]), some (.int s), some (.lst (ps.map ptD)), some (zhx q), some (ptD p), z] = .ok (.nx [some (.lst (ps.map ptD)), some (.lst [ptD x, ptD y]), some (.int s), some (.lst (ps.map ptD)), some (zhx q), some (ptD p), some (.bl (decide (qv q p = 0)))]) := fun p z hp => by
   unfold zcv; walk_at "ev"
   rw [zoT B5 hp (by decide)]; walk_at "ev"
   unfold zda; walk_at "ev"
   rw [zmb B5 hp (by decide)]; walk_at "ev"
   cases decide (qv q p = 0) <;> rfl
  rw [one x _ bx]; walk_at "ev"
  rw [one y _ by']; walk_at "ev"
  unfold zek; walk_at "ev"
  obtain ⟨f, e1, e2, e3, e4⟩ := zv9 hs
  have ix : ∀ (n : Nat) (z0 z1 z2 z3 z4 : Option D), n < 5 → (eOp gIx (zaj 1) (eOp zfq (eOp zc2 (eOp zbj (zaj 3) (zaj 0)) (eC (.int 1))) (eC (.int 5)))) [some (.int (n : Int)), some (.lst (ps.map ptD)), z0, some (.int s), z1, z2, z3, z4] = .ok (ptD (pk ps (f n))) := fun n z0 z1 z2 z3 z4 hn => by
   walk_at "ev"
   rw [zap s _ (zat (n := 4) (B.of (k := 5) (by omega)) (by decide)) (zat (n := 4) (B.of (k := 5) (by omega)) (by decide))]; walk_at "ev"
   rw [zaF _ _ (by decide)]; walk_at "ev"
   rw [e1 n hn]
   exact Fl.ix (by have := e2 n hn; omega)
  rw [show zgO [.int 5] = .ok [.int ((0 : Nat) : Int), .int ((1 : Nat) : Int), .int ((2 : Nat) : Int), .int ((3 : Nat) : Int), .int ((4 : Nat) : Int)] from rfl, lc_5 (ix 0 _ _ _ _ _ (by decide)) (ix 1 _ _ _ _ _ (by decide)) (ix 2 _ _ _ _ _ (by decide)) (ix 3 _ _ _ _ _ (by decide)) (ix 4 _ _ _ _ _ (by decide))]; walk_at "ev"
  rw [zmc h h5 b f e2 e3 e4, hq]; walk_at "ev"
  rw [zoU, decide_eq_true rfl]; walk_at "ev"
theorem zea {d : D} (h : d = .non ∨ d = .str "a" ∨ d = .tup [.int 0, .int 0, .int 0] ∨ d = .tup [.int 2, .int 0, .int 2] ∨ d = .tup [.int 1, .int 0] ∨ d = .lst [.int 1, .int 0, .int 1] ∨ d = .tup [.bl true, .int 0, .int 1]) : zav [d] = .ok (.bl false) := by
 rcases h with rfl | rfl | rfl | rfl | rfl | rfl | rfl
 ·rw [zbo]; unfold zby; rfl
 ·rw [zbo]; unfold zby; rfl
 ·exact zmC
 ·have nz : Nz (2, 0, 2) := fun q => absurd (show (2 : Int) = 0 from q.1) (by decide)
  have bt : BP 24 (2, 0, 2) := ⟨B.of (k := 2) (by decide), B.of (k := 2) (by decide), B.of (k := 2) (by decide)⟩
  rw [show D.tup [.int 2, .int 0, .int 2] = t3 2 0 2 from rfl, zim (x := 2) (y := 0) (z := 2) bt.x bt.y bt.z nz (by decide), decide_eq_false (by decide)]
 ·rw [zbo]; unfold zby; rfl
 ·exact Lk02.list_no _
 ·exact Lk02.is_place_odd ⟨rfl, rfl, rfl, rfl⟩
theorem zkJ {d : D} (h : (∃ xs, d = .tup xs) ∨ d = .non ∨ d = .lst []) : zaG [d] = .ok (.bl false) := by
 rw [zcM]; unfold zbS
 rcases h with ⟨xs, rfl⟩ | rfl | rfl <;> rfl
theorem zoZ {ps : List P3} (h : Pts 24 ps) {w : D} (hw : zav [w] = .ok (.bl false)) (hl : ps.length ≤ 11) {ds : List D} (hd : ds = ps.map ptD ++ [w] ∨ ds = w :: ps.map ptD) : zaG [.lst ds] = .ok (.bl false) := by
 have pl : ∀ e ∈ ps.map ptD, ∃ b, zav [e] = .ok (.bl b) := fun e he => by
  obtain ⟨p, hp, rfl⟩ := List.mem_map.mp he
  exact ⟨true, zgk (h.bd p hp) (h.nrm p hp) (by decide)⟩
 rcases hd with rfl | rfl
 ·refine zl8 (w := w) (by simp) (by simp; omega) (fun e he => ?_) (by simp) hw
  rcases List.mem_append.mp he with he | he
  ·exact pl e he
  ·rw [List.mem_singleton.mp he]; exact ⟨false, hw⟩
 ·refine zl8 (w := w) (by simp) (by simp; omega) (fun e he => ?_) (by simp) hw
  rcases List.mem_cons.mp he with rfl | he
  ·exact ⟨false, hw⟩
  ·exact pl e he
theorem zuL {ps : List P3} {x : P3} {o : D} (h : Pts 24 ps) (h5 : ps.length = 5) (nx : Nrm x) (bx : BP 24 x) (ho : zav [o] = .ok (.bl false)) {v : Nat} (hv : v < 7) : ∃ w, gIx (.lst [.lst ((ps.map ptD).take 4), .lst (ps.map ptD ++ [ptD x]), .tup (ps.map ptD), .non, .lst [], .lst ((ps.map ptD).take 4 ++ [o]), .lst ([o] ++ (ps.map ptD).drop 1)]) (.int (v : Int)) = .ok w ∧ zbG [w] = .err (.exc "NoBow" []) := by
 have tk : Pts 24 (ps.take 4) := ⟨fun p hp => h.nrm p (List.mem_of_mem_take hp), fun p hp => h.bd p (List.mem_of_mem_take hp)⟩
 have dr : Pts 24 (ps.drop 1) := ⟨fun p hp => h.nrm p (List.mem_of_mem_drop hp), fun p hp => h.bd p (List.mem_of_mem_drop hp)⟩
 have lt : (ps.take 4).length = 4 := by rw [List.length_take]; omega
 have ld : (ps.drop 1).length = 4 := by rw [List.length_drop]; omega
 match v, hv with
 | 0, _ =>
  refine ⟨_, rfl, ?_⟩
  rw [← List.map_take]
  exact zeE (zkI tk (by omega) (by omega) (n := 5) (.inl (by omega)))
 | 1, _ =>
  refine ⟨_, rfl, ?_⟩
  rw [show ps.map ptD ++ [ptD x] = (ps ++ [x]).map ptD by simp]
  exact zeE (zkI (Pts.snoc h nx bx) (by simp) (by simp; omega) (n := 5) (.inl (by simp; omega)))
 | 2, _ => exact ⟨_, rfl, zeE (zeR (zkJ (.inl ⟨_, rfl⟩)) _)⟩
 | 3, _ => exact ⟨_, rfl, zeE (zeR (zkJ (.inr (.inl rfl))) _)⟩
 | 4, _ => exact ⟨_, rfl, zeE (zeR (zkJ (.inr (.inr rfl))) _)⟩
 | 5, _ =>
  refine ⟨_, rfl, zeE (zeR (zoZ tk ho (by omega) (.inl ?_)) _)⟩
  rw [← List.map_take]
 | 6, _ =>
  refine ⟨_, rfl, zeE (zeR (zoZ dr ho (by omega) (.inr ?_)) _)⟩
  rw [← List.map_drop]; rfl
theorem zuM (r : Int) : ∃ o, gIx (.lst [.non, .str "a", .tup [.int 0, .int 0, .int 0], .tup [.int 2, .int 0, .int 2], .tup [.int 1, .int 0], .lst [.int 1, .int 0, .int 1], .tup [.bl true, .int 0, .int 1]]) (.int (r % 7)) = .ok o ∧ zav [o] = .ok (.bl false) := by
 rcases (show r % 7 = 0 ∨ r % 7 = 1 ∨ r % 7 = 2 ∨ r % 7 = 3 ∨ r % 7 = 4 ∨ r % 7 = 5 ∨ r % 7 = 6 by omega) with z | z | z | z | z | z | z <;> rw [z]
 ·exact ⟨_, rfl, zea (.inl rfl)⟩
 ·exact ⟨_, rfl, zea (.inr (.inl rfl))⟩
 ·exact ⟨_, rfl, zea (.inr (.inr (.inl rfl)))⟩
 ·exact ⟨_, rfl, zea (.inr (.inr (.inr (.inl rfl))))⟩
 ·exact ⟨_, rfl, zea (.inr (.inr (.inr (.inr (.inl rfl)))))⟩
 ·exact ⟨_, rfl, zea (.inr (.inr (.inr (.inr (.inr (.inl rfl))))))⟩
 ·exact ⟨_, rfl, zea (.inr (.inr (.inr (.inr (.inr (.inr rfl))))))⟩
theorem zry (a b c d e f g : D) : zpY (.ok [a, b, c, d, e, f, g]) = .ok [a, b, c, d, e, f, g] := rfl
theorem zmd {ps : List P3} (h : Pts 24 ps) (n : Nat) : Pts 24 (ps.take n) := ⟨fun p hp => h.nrm p (List.mem_of_mem_take hp), fun p hp => h.bd p (List.mem_of_mem_take hp)⟩
theorem zsP (ns : D) (n : Int) (x2 x3 x4 x5 x6 x7 x8 : Option D) : ∃ σ', (zcw [some ns, some (.int n), x2, x3, x4, x5, x6, x7, x8] = .ok (.nx σ') ∨ zcw [some ns, some (.int n), x2, x3, x4, x5, x6, x7, x8] = .ok (.ct σ')) ∧ ∃ y1 y2 y3 y4 y5 y6 y7 y8, σ' = [some ns, y1, y2, y3, y4, y5, y6, y7, y8] := by
 obtain ⟨ds, eds, lds, dd⟩ := zmG n 60 (by decide)
 obtain ⟨m, em, dm, bm⟩ := zoR (ds := ds.take 10) (fun d hd => dd d (List.mem_of_mem_take hd)) (by rw [List.length_take]; omega)
 obtain ⟨cs, ec, pc, lc⟩ := zqh (ds := (ds.drop 10).take 12) (m := m) (by rw [List.length_take, List.length_drop]; omega) bm dm
 unfold zcw; walk_at "ev"
 rw [show zaX [.int n, .int 60] = _ from eds]; walk_at "ev"
 unfold zgj; walk_at "ev"
 rw [Lk42.eSl_to _ _ _ (ds.map .int) 10 rfl rfl, ← List.map_take]; walk_at "ev"
 rw [em]; walk_at "ev"
 unfold zgi; walk_at "ev"
 rw [zoP _ _ _ _ (ds.map .int) 10 22 rfl rfl rfl (by rw [List.length_map]; omega) (by decide), zoQ]; walk_at "ev"
 rw [ec]; walk_at "ev"
 unfold zgh; walk_at "ev"
 rw [show zgO [.int 6] = .ok ((rg 0 6).map fun k : Nat => D.int (k : Int)) from zfS 6 (by decide)]
 obtain ⟨qs, eq, lq, pq⟩ := zv8 (ds := (rg 0 6).map fun k : Nat => D.int (k : Int)) (e := zaN za1 (zaf (eSl (zaj 3) (zdG (eOp zc2 (eC (.int 24)) (eOp zbj (eC (.int 4)) (zaj 0)))) (zdG (eOp zc2 (eC (.int 28)) (eOp zbj (eC (.int 4)) (zaj 0))))) zaz)) (σ := [some ns, some (.int n), some (.lst (ds.map .int)), some (zeU m), some (.lst (cs.map ptD)), x5, x6, x7, x8]) (fun p => Nrm p ∧ BP 24 p) (by simp [rg]) (fun d hd => by
  obtain ⟨k, hk, rfl⟩ := List.mem_map.mp hd
  have hk := (zdb.mp hk).2
  obtain ⟨p, ep, np, bp⟩ := zqg (ds := (ds.drop (24 + 4 * k)).take 4) (by rw [List.length_take, List.length_drop]; omega)
  have bk : zhA (k : Int) = true := zat (n := 4) (B.of (k := 6) (by omega)) (by decide)
  refine ⟨p, ?_, np, bp⟩
  rw [zgT, zgU, zoP _ _ _ _ (ds.map .int) (24 + 4 * k) (28 + 4 * k) rfl (by walk_at "ev"; rw [zap 4 _ (by decide) bk]; walk_at "ev"; rw [show (24 : Int) + 4 * (k : Int) = ((24 + 4 * k : Nat) : Int) by omega]) (by walk_at "ev"; rw [zap 4 _ (by decide) bk]; walk_at "ev"; rw [show (28 : Int) + 4 * (k : Int) = ((28 + 4 * k : Nat) : Int) by omega]) (by rw [List.length_map]; omega) (by omega), zoQ, show 28 + 4 * k - (24 + 4 * k) = 4 by omega]; walk_at "ev"
  exact ep)
 have lq : qs.length = 6 := by rw [lq]; rfl
 have pq : Pts 24 qs := ⟨fun p hp => (pq p hp).1, fun p hp => (pq p hp).2⟩
 rw [eq]; walk_at "ev"
 unfold zgg; walk_at "ev"
 rw [Lk42.eSl_to _ _ _ (cs.map ptD) 5 rfl rfl, ← List.map_take]; walk_at "ev"
 have zcB : ∀ fs : List P3, Pts 24 fs → fs.length = 5 → ∃ σ', (zdz [some ns, some (.int n), some (.lst (ds.map .int)), some (zeU m), some (.lst (cs.map ptD)), some (.lst (qs.map ptD)), some (.lst (fs.map ptD)), x7, x8] = .ok (.nx σ') ∨ zdz [some ns, some (.int n), some (.lst (ds.map .int)), some (zeU m), some (.lst (cs.map ptD)), some (.lst (qs.map ptD)), some (.lst (fs.map ptD)), x7, x8] = .ok (.ct σ')) ∧ ∃ y1 y2 y3 y4 y5 y6 y7 y8, σ' = [some ns, y1, y2, y3, y4, y5, y6, y7, y8] := by
  intro fs pf lf
  have c5 : 5 < cs.length := by omega
  have q5 : 5 < qs.length := by omega
  have ixc : gIx (.lst (cs.map ptD)) (.int 5) = .ok (ptD (pk cs 5)) := Fl.ix c5
  have ixq : gIx (.lst (qs.map ptD)) (.int 5) = .ok (ptD (pk qs 5)) := Fl.ix q5
  unfold zdz; walk_at "ev"
  rw [ixc, ixq, show gIx (.lst (ds.map .int)) (.int 23) = _ from ixd (k := 23) (by omega)]; walk_at "ev"
  rw [zaF _ _ (by decide)]; walk_at "ev"
  rw [zqn pf lf (pc.bd _ (zcI c5)) (pq.bd _ (zcI q5)) (by omega)]; walk_at "ev"
  obtain ⟨o, eo, ho⟩ := zuM (dg ds 51)
  obtain ⟨v, hv⟩ : ∃ v : Nat, dg ds 50 % 7 = (v : Int) := ⟨(dg ds 50 % 7).toNat, by omega⟩
  obtain ⟨w, ew, hw⟩ := zuL (v := v) pf lf (pc.nrm _ (zcI c5)) (pc.bd _ (zcI c5)) ho (by omega)
  unfold zge; walk_at "ev"
  rw [zry]; walk_at "ev"
  rw [show gIx (.lst (ds.map .int)) (.int 51) = _ from ixd (k := 51) (by omega)]; walk_at "ev"
  rw [zaF _ _ (by decide)]; walk_at "ev"
  rw [eo]; walk_at "ev"
  unfold zgd; walk_at "ev"
  rw [Lk42.eSl_to _ _ _ (fs.map ptD) 4 rfl rfl, zqf _ _ _ (fs.map ptD) 1 rfl rfl, ixc]; walk_at "ev"
  rw [Lk42.gAdd_ll (by simp; omega), Lk42.gAdd_ll (by simp; omega), Lk42.gAdd_ll (by simp; omega), show zjE [.lst (fs.map ptD)] = .ok (.tup (fs.map ptD)) from rfl]; walk_at "ev"
  rw [zry]; walk_at "ev"
  rw [show gIx (.lst (ds.map .int)) (.int 50) = _ from ixd (k := 50) (by omega)]; walk_at "ev"
  rw [zaF _ _ (by decide), hv]; walk_at "ev"
  rw [ew]; walk_at "ev"
  unfold zgc; walk_at "ev"
  rw [zio hw]; walk_at "ev"
  exact ⟨_, .inl rfl, _, _, _, _, _, _, _, _, rfl⟩
 unfold zgf; walk_at "ev"
 rw [show gIx (.lst (ds.map .int)) (.int 22) = _ from ixd (k := 22) (by omega)]; walk_at "ev"
 rw [zaF _ _ (by decide)]; walk_at "ev"
 by_cases hz : dg ds 22 % 4 = 1
 ·rw [decide_eq_true hz]; walk_at "ev"
  rw [Lk42.eSl_to _ _ _ (qs.map ptD) 5 rfl rfl, ← List.map_take]; walk_at "ev"
  exact zcB (qs.take 5) (zmd pq 5) (by rw [List.length_take]; omega)
 ·rw [decide_eq_false hz]; walk_at "ev"
  exact zcB (cs.take 5) (zmd pc 5) (by rw [List.length_take]; omega)
theorem law_ok (ns : List Int) (hl : ns.length ≤ 63) : zfP [.lst (ns.map .int)] = .ok (.bl true) := by
 rw [zj9]; unfold zfO; walk_at "ev"
 rw [Lk42.eSl_to _ _ _ ([.int 0] ++ ns.map .int) 24 (by walk_at "ev"; exact Lk42.gAdd_ll (by simp; omega)) rfl]; walk_at "ev"
 rw [show ([D.int 0] ++ ns.map D.int).take 24 = (([0] ++ ns).take 24).map D.int by rw [List.map_take, List.map_append]; rfl]
 have turn : ∀ d ∈ (([0] ++ ns).take 24).map D.int, ∀ σ, (∃ x1 x2 x3 x4 x5 x6 x7 x8, σ = [some (.lst (ns.map .int)), x1, x2, x3, x4, x5, x6, x7, x8]) → ∃ σ', (zcw (σ.set 1 (some d)) = .ok (.nx σ') ∨ zcw (σ.set 1 (some d)) = .ok (.ct σ')) ∧ ∃ x1 x2 x3 x4 x5 x6 x7 x8, σ' = [some (.lst (ns.map .int)), x1, x2, x3, x4, x5, x6, x7, x8] := by
  rintro d hd σ ⟨x1, x2, x3, x4, x5, x6, x7, x8, rfl⟩
  obtain ⟨n, _, rfl⟩ := List.mem_map.mp hd
  exact zsP _ n _ _ _ _ _ _ _
 obtain ⟨σ', e, x1, x2, x3, x4, x5, x6, x7, x8, rfl⟩ := zl1 (i := 1) (fb := zcw) _ _ turn [some (.lst (ns.map .int)), none, none, none, none, none, none, none, none] ⟨_, _, _, _, _, _, _, _, rfl⟩
 rw [e]; walk_at "ev"
 unfold zhk; walk_at "ev"
end Lk77
end
section
set_option Elab.async false
set_option linter.all false
set_option maxRecDepth 100000
namespace Kx
open PySem L2 DL Mir
local macro_rules | `(tactic| walk_at "o3") => `(tactic| (first | exact Or.inl rfl | exact Or.inr (Or.inl rfl) | exact Or.inr (Or.inr rfl)))
local macro_rules | `(tactic| walk_at "o2") => `(tactic| (first | exact Or.inl rfl | exact Or.inr rfl))
local macro_rules | `(tactic| walk_at "o4") => `(tactic| (first | exact .inl rfl | exact .inr rfl | assumption))
def top (i : Nat) : Stmt := PySem.Challenge.pw_chalkline_k77_bows.main.body.getD i (.Pass ⟨0, 0, 0, 0⟩)
abbrev zbB : Stmt := top 30
theorem zeF : zaw ["_law_cell", "_law_many", "_law_number", "_law_left", "_law_found", "_law_k", "_law_one"] ["_law_cell", "_law_many"] (zag zbB) := ⟨rfl, rfl, rfl, by decide +kernel, rfl, by decide +kernel, by decide +kernel⟩
set_option maxHeartbeats 4000000 in
theorem zhn {P : Program} {w : World} {K : PySem.W.Frag} {mg : Str → Option Value} {base : Heap} {f : Addr} {fd : FuncData} {k : Nat} (F : Fun K "_law_numbers" "_law_numbers" zbB f fd) (hm : mg "_law_numbers" = some (.ref f)) (hb : zbg K fd ["_law_cell", "_law_many"] []) (n_max : mg "max" = none) (n_range : mg "range" = none) : zaC P w K mg base (k + 1) "_law_numbers" zaX := by
 refine zaC.mk' (own' := []) F zeF hm hb rfl rfl fun X E hX C L => ?_
 obtain ⟨cdv, A, outer, s, H, rfl⟩ := hX
 have nd := zeF.nd
 exact (@zah _ _ _ _ _ _ _ _ _ _ (@zan _ _ _ _ _ _ _ _ 2 nd (@zuc _ _ _ _ _ _ _ C.calm n_max (@zad _ _ _ _ _ _ (@zaa _ _ 0 _ _ (by rfl) (by walk_at "o3") (by decide) (by decide)) (@zad _ _ _ _ _ _ (@zc3 _ _ _ _ _ _ _ (@zjB _ _ _ _ _ (@zae _ _ _ _ _)) (@zaa _ _ 0 _ _ (by rfl) (by walk_at "o3") (by decide) (by decide))) (@zai _ _) (by rfl)) (by rfl)) (by rfl) (by rfl) (by rfl)) (by rfl) (by walk_at "o2") (by rfl) (by walk_at "o4")) (@zah _ _ _ _ _ _ _ _ _ _ (@zan _ _ _ _ _ _ _ _ 3 nd (@zaa _ _ 2 _ _ (by rfl) (by walk_at "o3") (by decide) (by decide)) (by rfl) (by walk_at "o2") (by rfl) (by walk_at "o4")) (@zah _ _ _ _ _ _ _ _ _ _ (@znz _ _ _ _ _ _ _ _ _ _ 4 nd (@zbJ _ _ _ _ _ (@zai _ _)) (by rfl) (by rfl) (by walk_at "o2") (by rfl) (by walk_at "o4")) (@zah _ _ _ _ _ _ _ _ _ _ (@zdi _ _ _ _ _ _ _ _ _ _ _ _ L C.calm (@zbh _ _ _ _ _ _ _ n_range (@zad _ _ _ _ _ _ (@zaa _ _ 1 _ _ (by rfl) (by walk_at "o3") (by decide) (by decide)) (@zai _ _) (by rfl)) (by rfl) (by rfl)) (@zaJ _ _ 5 _ nd (by rfl) (by walk_at "o2") (by walk_at "o4")) (@zak _ _ _ _ _ _ _ (@zcL _ _ _ _ _ _ _ _ _ _ _ _ (@DW.dt _ _ _ _ (@zk9 _ _ _ _ _ _ _ _ (@zaH _ _ _ _ _ _ _ _ _ (@zvQ _) (@zaa _ _ 2 _ _ (by rfl) (by walk_at "o3") (by decide) (by decide)) (@znH _ _ _ _ _ _ _ (@zae _ _ _ _ _) (@zae _ _ _ _ _)) (by first | exact zal _ (by decide) (by decide) | rfl)) (@zku _ _ _ _ _ (@zaH _ _ _ _ _ _ _ _ _ (@zt6 _) (@zaa _ _ 3 _ _ (by rfl) (by walk_at "o3") (by decide) (by decide)) (@zae _ _ _ _ _) (by first | exact zal _ (by decide) (by decide) | rfl))))) (@zah _ _ _ _ _ _ _ _ _ _ (@zla _ _ _ _ _ _ _ _ 4 _ _ _ (@zbw _ _ _ _ _ _ _ (@zaa _ _ 3 _ _ (by rfl) (by walk_at "o3") (by decide) (by decide)) (@znH _ _ _ _ _ _ _ (@zae _ _ _ _ _) (@zae _ _ _ _ _))) (by rfl) (by rfl) (by walk_at "o3") (by decide) (by decide) (by rfl) (by rfl) (by rfl) (by rfl) (by rfl) (by rfl)) (@zak _ _ _ _ _ _ _ (@zjA _ _ _ _ _ _ _ _ _ 3 nd (@zd3 _ _ _ _ _ _ _ (@zaa _ _ 3 _ _ (by rfl) (by walk_at "o3") (by decide) (by decide)) (@znH _ _ _ _ _ _ _ (@zae _ _ _ _ _) (@zae _ _ _ _ _))) (by rfl) (by rfl) (by walk_at "o2") (by rfl) (by walk_at "o4")))) (@zah _ _ _ _ _ _ _ _ _ _ (@zjA _ _ _ _ _ _ _ _ _ 6 nd (@zbw _ _ _ _ _ _ _ (@zaq _ _ _ _ _ _ _ (@zbw _ _ _ _ _ _ _ (@za6 _ _ _ _ _ _ _ (@za6 _ _ _ _ _ _ _ (@zaa _ _ 2 _ _ (by rfl) (by walk_at "o3") (by decide) (by decide)) (@zaq _ _ _ _ _ _ _ (@zaq _ _ _ _ _ _ _ (@zae _ _ _ _ _) (@zaa _ _ 5 _ _ (by rfl) (by walk_at "o3") (by decide) (by decide))) (@zaa _ _ 5 _ _ (by rfl) (by walk_at "o3") (by decide) (by decide)))) (@zaa _ _ 5 _ _ (by rfl) (by walk_at "o3") (by decide) (by decide))) (@zae _ _ _ _ _)) (@zae _ _ _ _ _)) (@zae _ _ _ _ _)) (by rfl) (by rfl) (by walk_at "o2") (by rfl) (by walk_at "o4")) (@zak _ _ _ _ _ _ _ (@zla _ _ _ _ _ _ _ _ 4 _ _ _ (@zbw _ _ _ _ _ _ _ (@zaq _ _ _ _ _ _ _ (@zbw _ _ _ _ _ _ _ (@zaq _ _ _ _ _ _ _ (@zaa _ _ 6 _ _ (by rfl) (by walk_at "o3") (by decide) (by decide)) (@zaa _ _ 6 _ _ (by rfl) (by walk_at "o3") (by decide) (by decide))) (@zae _ _ _ _ _)) (@zae _ _ _ _ _)) (@zae _ _ _ _ _)) (by rfl) (by rfl) (by walk_at "o3") (by decide) (by decide) (by rfl) (by rfl) (by rfl) (by rfl) (by rfl) (by rfl)))))) (by rfl) (by intro _ ; rfl)) (@zkv _ _ _ _ _ _ _ _ 4 (by rfl) (by rfl) (@zak _ _ _ _ _ _ _ (@zaB _ _ _ _ _ _ _ _ (@zaa _ _ 4 _ _ (by rfl) (by walk_at "o3") (by decide) (by decide)))))))))
abbrev zcV : Stmt := top 35
theorem zho : zaw ["_law_one", "_law_other", "_law_third", "_law_a", "_law_b", "_law_c", "_law_d", "_law_e", "_law_f", "_law_first", "_law_second"] ["_law_one", "_law_other", "_law_third"] (zag zcV) := ⟨rfl, rfl, rfl, by decide +kernel, rfl, by decide +kernel, by decide +kernel⟩
set_option maxHeartbeats 4000000 in
theorem zkK {P : Program} {w : World} {K : PySem.W.Frag} {mg : Str → Option Value} {base : Heap} {f : Addr} {fd : FuncData} {k : Nat} (F : Fun K "_law_det" "_law_det" zcV f fd) (hm : mg "_law_det" = some (.ref f)) (hb : zbg K fd ["_law_one", "_law_other", "_law_third"] []) : zaC P w K mg base (k + 1) "_law_det" zbk := by
 refine zaC.mk' (own' := []) F zho hm hb rfl rfl fun X E hX C L => ?_
 obtain ⟨cdv, A, outer, s, H, rfl⟩ := hX
 have nd := zho.nd
 exact (@zah _ _ _ _ _ _ _ _ _ _ (@znA _ _ _ _ _ _ _ _ _ _ (@zaa _ _ 1 _ _ (by rfl) (by walk_at "o3") (by decide) (by decide)) (@zhX _ _ _ _ [3, 4, 5] 3 C.calm (@zbm _ _ _ _ _ (@zbU _ _ (3) _ nd rfl (by walk_at "o2") (by walk_at "o4")) (@zbm _ _ _ _ _ (@zbU _ _ (4) _ nd rfl (by walk_at "o2") (by walk_at "o4")) (@zbm _ _ _ _ _ (@zbU _ _ (5) _ nd rfl (by walk_at "o2") (by walk_at "o4")) (@zfZ _) (by rfl)) (by rfl)) (by rfl)) (by rfl) (by rfl) (by rfl)) (by rfl) (by rfl) (by rfl) (by rfl)) (@zah _ _ _ _ _ _ _ _ _ _ (@znA _ _ _ _ _ _ _ _ _ _ (@zaa _ _ 2 _ _ (by rfl) (by walk_at "o3") (by decide) (by decide)) (@zhX _ _ _ _ [6, 7, 8] 3 C.calm (@zbm _ _ _ _ _ (@zbU _ _ (6) _ nd rfl (by walk_at "o2") (by walk_at "o4")) (@zbm _ _ _ _ _ (@zbU _ _ (7) _ nd rfl (by walk_at "o2") (by walk_at "o4")) (@zbm _ _ _ _ _ (@zbU _ _ (8) _ nd rfl (by walk_at "o2") (by walk_at "o4")) (@zfZ _) (by rfl)) (by rfl)) (by rfl)) (by rfl) (by rfl) (by rfl)) (by rfl) (by rfl) (by rfl) (by rfl)) (@zah _ _ _ _ _ _ _ _ _ _ (@zan _ _ _ _ _ _ _ _ 9 nd (@zaq _ _ _ _ _ _ _ (@zam _ _ _ _ _ _ _ (@zaa _ _ 0 _ _ (by rfl) (by walk_at "o3") (by decide) (by decide)) (@zae _ _ _ _ _) (by intro _ _ ; rfl)) (@zc3 _ _ _ _ _ _ _ (@zaq _ _ _ _ _ _ _ (@zaa _ _ 4 _ _ (by rfl) (by walk_at "o3") (by decide) (by decide)) (@zaa _ _ 8 _ _ (by rfl) (by walk_at "o3") (by decide) (by decide))) (@zaq _ _ _ _ _ _ _ (@zaa _ _ 5 _ _ (by rfl) (by walk_at "o3") (by decide) (by decide)) (@zaa _ _ 7 _ _ (by rfl) (by walk_at "o3") (by decide) (by decide))))) (by rfl) (by walk_at "o2") (by rfl) (by walk_at "o4")) (@zah _ _ _ _ _ _ _ _ _ _ (@zan _ _ _ _ _ _ _ _ 10 nd (@zaq _ _ _ _ _ _ _ (@zam _ _ _ _ _ _ _ (@zaa _ _ 0 _ _ (by rfl) (by walk_at "o3") (by decide) (by decide)) (@zae _ _ _ _ _) (by intro _ _ ; rfl)) (@zc3 _ _ _ _ _ _ _ (@zaq _ _ _ _ _ _ _ (@zaa _ _ 3 _ _ (by rfl) (by walk_at "o3") (by decide) (by decide)) (@zaa _ _ 8 _ _ (by rfl) (by walk_at "o3") (by decide) (by decide))) (@zaq _ _ _ _ _ _ _ (@zaa _ _ 5 _ _ (by rfl) (by walk_at "o3") (by decide) (by decide)) (@zaa _ _ 6 _ _ (by rfl) (by walk_at "o3") (by decide) (by decide))))) (by rfl) (by walk_at "o2") (by rfl) (by walk_at "o4")) (@zak _ _ _ _ _ _ _ (@zaB _ _ _ _ _ _ _ _ (@za6 _ _ _ _ _ _ _ (@zc3 _ _ _ _ _ _ _ (@zaa _ _ 9 _ _ (by rfl) (by walk_at "o3") (by decide) (by decide)) (@zaa _ _ 10 _ _ (by rfl) (by walk_at "o3") (by decide) (by decide))) (@zaq _ _ _ _ _ _ _ (@zam _ _ _ _ _ _ _ (@zaa _ _ 0 _ _ (by rfl) (by walk_at "o3") (by decide) (by decide)) (@zae _ _ _ _ _) (by intro _ _ ; rfl)) (@zc3 _ _ _ _ _ _ _ (@zaq _ _ _ _ _ _ _ (@zaa _ _ 3 _ _ (by rfl) (by walk_at "o3") (by decide) (by decide)) (@zaa _ _ 7 _ _ (by rfl) (by walk_at "o3") (by decide) (by decide))) (@zaq _ _ _ _ _ _ _ (@zaa _ _ 4 _ _ (by rfl) (by walk_at "o3") (by decide) (by decide)) (@zaa _ _ 6 _ _ (by rfl) (by walk_at "o3") (by decide) (by decide))))))))))))
abbrev zba : Stmt := top 36
theorem ze8 : zaw ["_law_some", "_law_most", "_law_rows", "_law_j", "_law_row"] ["_law_some"] (zag zba) := ⟨rfl, rfl, rfl, by decide +kernel, rfl, by decide +kernel, by decide +kernel⟩
set_option maxHeartbeats 4000000 in
theorem zhG {P : Program} {w : World} {K : PySem.W.Frag} {mg : Str → Option Value} {base : Heap} {f : Addr} {fd : FuncData} {k : Nat} (F : Fun K "_law_change" "_law_change" zba f fd) (hm : mg "_law_change" = some (.ref f)) (hb : zbg K fd ["_law_some"] []) (n_range : mg "range" = none) (F__law_det : zaC P w K mg base k "_law_det" zbk) : zaC P w K mg base (k + 1) "_law_change" zbM := by
 refine zaC.mk' (own' := []) F ze8 hm hb rfl rfl fun X E hX C L => ?_
 obtain ⟨cdv, A, outer, s, H, rfl⟩ := hX
 have nd := ze8.nd
 exact (@zah _ _ _ _ _ _ _ _ _ _ (@zan _ _ _ _ _ _ _ _ 1 nd (@zam _ _ _ _ _ _ _ (@DF.val _ _ _ _ (@zbJ _ _ _ _ _ (@zad _ _ _ _ _ _ (@zae _ _ _ _ _) (@zad _ _ _ _ _ _ (@zae _ _ _ _ _) (@zad _ _ _ _ _ _ (@zae _ _ _ _ _) (@zai _ _) (by rfl)) (by rfl)) (by rfl)))) (@zbw _ _ _ _ _ _ _ (@zam _ _ _ _ _ _ _ (@zaa _ _ 0 _ _ (by rfl) (by walk_at "o3") (by decide) (by decide)) (@zae _ _ _ _ _) (by intro _ _ ; rfl)) (@zae _ _ _ _ _)) (by intro _ _ ; rfl)) (by rfl) (by walk_at "o2") (by rfl) (by walk_at "o4")) (@zah _ _ _ _ _ _ _ _ _ _ (@znz _ _ _ _ _ _ _ _ _ _ 2 nd (@zbJ _ _ _ _ _ (@zai _ _)) (by rfl) (by rfl) (by walk_at "o2") (by rfl) (by walk_at "o4")) (@zah _ _ _ _ _ _ _ _ _ _ (@zdi _ _ _ _ _ _ _ _ _ _ _ _ L C.calm (@zbh _ _ _ _ _ _ _ n_range (@zad _ _ _ _ _ _ (@zae _ _ _ _ _) (@zai _ _) (by rfl)) (by rfl) (by rfl)) (@zaJ _ _ 3 _ nd (by rfl) (by walk_at "o2") (by walk_at "o4")) (@zah _ _ _ _ _ _ _ _ _ _ (@zfv _ _ _ _ _ _ _ _ _ _ _ _ _ _ _ _ _ _ _ _ 4 C.calm nd (LC.of (k := 1) (NY := ["_law_k", "_law_some", "_law_most", "_law_rows", "_law_j", "_law_row"]) (N := ["_law_some", "_law_most", "_law_rows", "_law_j", "_law_row"]) (sc0 := (zag zba)) rfl rfl (by decide +kernel)) rfl (@zbh _ _ _ _ _ _ _ n_range (@zad _ _ _ _ _ _ (@zae _ _ _ _ _) (@zai _ _) (by rfl)) (by rfl) (by rfl)) (fun _ _ _ _ nd2 => ⟨(@zaJ _ _ 0 _ nd2 (by rfl) (by walk_at "o2") (by walk_at "o4")), (@zcJ _ _), (@zam _ _ _ _ _ _ _ (@zaa _ _ 1 _ _ (by rfl) (by walk_at "o3") (by decide) (by decide)) (@za6 _ _ _ _ _ _ _ (@zaq _ _ _ _ _ _ _ (@zae _ _ _ _ _) (@zaa _ _ 4 _ _ (by rfl) (by walk_at "o3") (by decide) (by decide))) (@zaa _ _ 0 _ _ (by rfl) (by walk_at "o3") (by decide) (by decide))) (by intro _ _ ; rfl))⟩) (by rfl) (by rfl) (by rfl) (by rfl) (by intro _ ; rfl)) (@zak _ _ _ _ _ _ _ (@zla _ _ _ _ _ _ _ _ 2 _ _ _ (@DF.val _ _ _ _ (@zfu _ _ _ _ _ _ _ _ _ _ _ _ _ _ _ C.calm (LC.of (k := 1) (NY := ["_law_one", "_law_some", "_law_most", "_law_rows", "_law_j", "_law_row"]) (N := ["_law_some", "_law_most", "_law_rows", "_law_j", "_law_row"]) (sc0 := (zag zba)) rfl rfl (by decide +kernel)) rfl (@zcl _ _ _ _ _ (@zaa _ _ 4 _ _ (by rfl) (by walk_at "o3") (by decide) (by decide))) (fun _ _ _ _ nd2 => ⟨(@zaJ _ _ 0 _ nd2 (by rfl) (by walk_at "o2") (by walk_at "o4")), (@zcJ _ _), (@zc3 _ _ _ _ _ _ _ (@zbw _ _ _ _ _ _ _ (@zaa _ _ 0 _ _ (by rfl) (by walk_at "o3") (by decide) (by decide)) (@za6 _ _ _ _ _ _ _ (@zaq _ _ _ _ _ _ _ (@zae _ _ _ _ _) (@zaa _ _ 2 _ _ (by rfl) (by walk_at "o3") (by decide) (by decide))) (@zae _ _ _ _ _))) (@zaa _ _ 2 _ _ (by rfl) (by walk_at "o3") (by decide) (by decide)))⟩) (by intro _ ; rfl))) (by rfl) (by rfl) (by walk_at "o3") (by decide) (by decide) (by rfl) (by rfl) (by rfl) (by rfl) (by rfl) (by rfl)))) (by rfl) (by intro _ ; rfl)) (@zkv _ _ _ _ _ _ _ _ 2 (by rfl) (by rfl) (@zah _ _ _ _ _ _ _ _ _ _ (@zcL _ _ _ _ _ _ _ _ _ _ _ _ (@zaH _ _ _ _ _ _ _ _ _ (@zdM _ _ _ C) (@zao _ _ _ _ _ _ _ _ _ _ C F__law_det (@zad _ _ _ _ _ _ (@zam _ _ _ _ _ _ _ (@zaa _ _ 2 _ _ (by rfl) (by walk_at "o3") (by decide) (by decide)) (@zae _ _ _ _ _) (by intro _ _ ; rfl)) (@zad _ _ _ _ _ _ (@zam _ _ _ _ _ _ _ (@zaa _ _ 2 _ _ (by rfl) (by walk_at "o3") (by decide) (by decide)) (@zae _ _ _ _ _) (by intro _ _ ; rfl)) (@zad _ _ _ _ _ _ (@zam _ _ _ _ _ _ _ (@zaa _ _ 2 _ _ (by rfl) (by walk_at "o3") (by decide) (by decide)) (@zae _ _ _ _ _) (by intro _ _ ; rfl)) (@zai _ _) (by rfl)) (by rfl)) (by rfl)) (by rfl) (by decide) (by rfl) (by rfl)) (@zae _ _ _ _ _) (by first | exact zal _ (by decide) (by decide) | rfl)) (@zak _ _ _ _ _ _ _ (@zaB _ _ _ _ _ _ _ _ (@DF.val _ _ _ _ (@zbJ _ _ _ _ _ (@zad _ _ _ _ _ _ (@DF.val _ _ _ _ (@zbJ _ _ _ _ _ (@zad _ _ _ _ _ _ (@zae _ _ _ _ _) (@zad _ _ _ _ _ _ (@zbw _ _ _ _ _ _ _ (@zam _ _ _ _ _ _ _ (@zaa _ _ 0 _ _ (by rfl) (by walk_at "o3") (by decide) (by decide)) (@zae _ _ _ _ _) (by intro _ _ ; rfl)) (@zae _ _ _ _ _)) (@zad _ _ _ _ _ _ (@zbw _ _ _ _ _ _ _ (@zam _ _ _ _ _ _ _ (@zaa _ _ 0 _ _ (by rfl) (by walk_at "o3") (by decide) (by decide)) (@zae _ _ _ _ _) (by intro _ _ ; rfl)) (@zae _ _ _ _ _)) (@zai _ _) (by rfl)) (by rfl)) (by rfl)))) (@zad _ _ _ _ _ _ (@DF.val _ _ _ _ (@zbJ _ _ _ _ _ (@zad _ _ _ _ _ _ (@zae _ _ _ _ _) (@zad _ _ _ _ _ _ (@zae _ _ _ _ _) (@zad _ _ _ _ _ _ (@zbw _ _ _ _ _ _ _ (@zam _ _ _ _ _ _ _ (@zaa _ _ 0 _ _ (by rfl) (by walk_at "o3") (by decide) (by decide)) (@zae _ _ _ _ _) (by intro _ _ ; rfl)) (@zae _ _ _ _ _)) (@zai _ _) (by rfl)) (by rfl)) (by rfl)))) (@zad _ _ _ _ _ _ (@DF.val _ _ _ _ (@zbJ _ _ _ _ _ (@zad _ _ _ _ _ _ (@zae _ _ _ _ _) (@zad _ _ _ _ _ _ (@zae _ _ _ _ _) (@zad _ _ _ _ _ _ (@za6 _ _ _ _ _ _ _ (@zae _ _ _ _ _) (@zbw _ _ _ _ _ _ _ (@zam _ _ _ _ _ _ _ (@zaa _ _ 0 _ _ (by rfl) (by walk_at "o3") (by decide) (by decide)) (@zae _ _ _ _ _) (by intro _ _ ; rfl)) (@zae _ _ _ _ _))) (@zai _ _) (by rfl)) (by rfl)) (by rfl)))) (@zai _ _) (by rfl)) (by rfl)) (by rfl)))))) (@zaZ _ _ _ _)) (@zak _ _ _ _ _ _ _ (@zaB _ _ _ _ _ _ _ _ (@zaa _ _ 2 _ _ (by rfl) (by walk_at "o3") (by decide) (by decide)))))))))
abbrev zbs : Stmt := top 32
theorem ze9 : zaw ["_law_x", "_law_y", "_law_z", "_law_one", "_law_other", "_law_last"] ["_law_x", "_law_y", "_law_z"] (zag zbs) := ⟨rfl, rfl, rfl, by decide +kernel, rfl, by decide +kernel, by decide +kernel⟩
set_option maxHeartbeats 4000000 in
theorem zhH {P : Program} {w : World} {K : PySem.W.Frag} {mg : Str → Option Value} {base : Heap} {f : Addr} {fd : FuncData} {k : Nat} (F : Fun K "_law_lowest" "_law_lowest" zbs f fd) (hm : mg "_law_lowest" = some (.ref f)) (hb : zbg K fd ["_law_x", "_law_y", "_law_z"] []) (n_abs : mg "abs" = none) : zaC P w K mg base (k + 1) "_law_lowest" zaL := by
 refine zaC.mk' (own' := []) F ze9 hm hb rfl rfl fun X E hX C L => ?_
 obtain ⟨cdv, A, outer, s, H, rfl⟩ := hX
 have nd := ze9.nd
 exact (@zah _ _ _ _ _ _ _ _ _ _ (@zan _ _ _ _ _ _ _ _ 3 nd (@zhY _ _ _ _ _ _ _ n_abs (@zad _ _ _ _ _ _ (@zaa _ _ 0 _ _ (by rfl) (by walk_at "o3") (by decide) (by decide)) (@zai _ _) (by rfl)) (by rfl) (by rfl) (by rfl)) (by rfl) (by walk_at "o2") (by rfl) (by walk_at "o4")) (@zah _ _ _ _ _ _ _ _ _ _ (@zdi _ _ _ _ _ _ _ _ _ _ _ _ L C.calm (@zcl _ _ _ _ _ (@DF.val _ _ _ _ (@zbJ _ _ _ _ _ (@zad _ _ _ _ _ _ (@zhY _ _ _ _ _ _ _ n_abs (@zad _ _ _ _ _ _ (@zaa _ _ 1 _ _ (by rfl) (by walk_at "o3") (by decide) (by decide)) (@zai _ _) (by rfl)) (by rfl) (by rfl) (by rfl)) (@zad _ _ _ _ _ _ (@zhY _ _ _ _ _ _ _ n_abs (@zad _ _ _ _ _ _ (@zaa _ _ 2 _ _ (by rfl) (by walk_at "o3") (by decide) (by decide)) (@zai _ _) (by rfl)) (by rfl) (by rfl) (by rfl)) (@zai _ _) (by rfl)) (by rfl))))) (@zaJ _ _ 4 _ nd (by rfl) (by walk_at "o2") (by walk_at "o4")) (@zak _ _ _ _ _ _ _ (@ziK _ _ _ _ _ _ _ _ _ L (@zaH _ _ _ _ _ _ _ _ _ (@zeS _ _ _ C) (@zaa _ _ 4 _ _ (by rfl) (by walk_at "o3") (by decide) (by decide)) (@zae _ _ _ _ _) (by first | exact zal _ (by decide) (by decide) | rfl)) (@zak _ _ _ _ _ _ _ (@zqF _ _ _ _ _ 3 4 _ _ _ _ _ _ _ _ _ _ _ C.calm nd (@zad _ _ _ _ _ _ (@zaa _ _ 4 _ _ (by rfl) (by walk_at "o3") (by decide) (by decide)) (@zad _ _ _ _ _ _ (@zbw _ _ _ _ _ _ _ (@zaa _ _ 3 _ _ (by rfl) (by walk_at "o3") (by decide) (by decide)) (@zaa _ _ 4 _ _ (by rfl) (by walk_at "o3") (by decide) (by decide))) (@zai _ _) (by rfl)) (by rfl)) (by decide) (by rfl) (by rfl) (by rfl) (by rfl) (by rfl) (by rfl) (by rfl))))) (by rfl) (by intro _ ; rfl)) (@zah _ _ _ _ _ _ _ _ _ _ (@zan _ _ _ _ _ _ _ _ 5 nd (@zam _ _ _ _ _ _ _ (@DF.val _ _ _ _ (@zfu _ _ _ _ _ _ _ _ _ _ _ _ _ _ _ C.calm (LC.of (k := 1) (NY := ["_law_number", "_law_x", "_law_y", "_law_z", "_law_one", "_law_other", "_law_last"]) (N := ["_law_x", "_law_y", "_law_z", "_law_one", "_law_other", "_law_last"]) (sc0 := (zag zbs)) rfl rfl (by decide +kernel)) rfl (@zcl _ _ _ _ _ (@DF.val _ _ _ _ (@zbJ _ _ _ _ _ (@zad _ _ _ _ _ _ (@zaa _ _ 0 _ _ (by rfl) (by walk_at "o3") (by decide) (by decide)) (@zad _ _ _ _ _ _ (@zaa _ _ 1 _ _ (by rfl) (by walk_at "o3") (by decide) (by decide)) (@zad _ _ _ _ _ _ (@zaa _ _ 2 _ _ (by rfl) (by walk_at "o3") (by decide) (by decide)) (@zai _ _) (by rfl)) (by rfl)) (by rfl))))) (fun _ _ _ _ nd2 => ⟨(@zaJ _ _ 0 _ nd2 (by rfl) (by walk_at "o2") (by walk_at "o4")), (@zfh _ _ _ _ (@zaH _ _ _ _ _ _ _ _ _ (@zeS _ _ _ (C.lc _ _ _ _ _ _)) (@zaa _ _ 0 _ _ (by rfl) (by walk_at "o3") (by decide) (by decide)) (@zae _ _ _ _ _) (by first | exact zal _ (by decide) (by decide) | rfl))), (@zaa _ _ 0 _ _ (by rfl) (by walk_at "o3") (by decide) (by decide))⟩) (by intro _ ; rfl))) (@zjB _ _ _ _ _ (@zae _ _ _ _ _)) (by intro _ _ ; rfl)) (by rfl) (by walk_at "o2") (by rfl) (by walk_at "o4")) (@zah _ _ _ _ _ _ _ _ _ _ (@zcL _ _ _ _ _ _ _ _ _ _ _ _ (@zaH _ _ _ _ _ _ _ _ _ (@zsl _) (@zaa _ _ 5 _ _ (by rfl) (by walk_at "o3") (by decide) (by decide)) (@zae _ _ _ _ _) (by first | exact zal _ (by decide) (by decide) | rfl)) (@zak _ _ _ _ _ _ _ (@zan _ _ _ _ _ _ _ _ 3 nd (@zc3 _ _ _ _ _ _ _ (@zae _ _ _ _ _) (@zaa _ _ 3 _ _ (by rfl) (by walk_at "o3") (by decide) (by decide))) (by rfl) (by walk_at "o2") (by rfl) (by walk_at "o4"))) (@zaZ _ _ _ _)) (@zak _ _ _ _ _ _ _ (@zaB _ _ _ _ _ _ _ _ (@zce _ _ _ _ _ _ (@zad _ _ _ _ _ _ (@zd3 _ _ _ _ _ _ _ (@zaa _ _ 0 _ _ (by rfl) (by walk_at "o3") (by decide) (by decide)) (@zaa _ _ 3 _ _ (by rfl) (by walk_at "o3") (by decide) (by decide))) (@zad _ _ _ _ _ _ (@zd3 _ _ _ _ _ _ _ (@zaa _ _ 1 _ _ (by rfl) (by walk_at "o3") (by decide) (by decide)) (@zaa _ _ 3 _ _ (by rfl) (by walk_at "o3") (by decide) (by decide))) (@zad _ _ _ _ _ _ (@zd3 _ _ _ _ _ _ _ (@zaa _ _ 2 _ _ (by rfl) (by walk_at "o3") (by decide) (by decide)) (@zaa _ _ 3 _ _ (by rfl) (by walk_at "o3") (by decide) (by decide))) (@zai _ _) (by rfl)) (by rfl)) (by rfl)))))))))
abbrev zcW : Stmt := top 34
theorem zhp : zaw ["_law_one", "_law_other"] ["_law_one", "_law_other"] (zag zcW) := ⟨rfl, rfl, rfl, by decide +kernel, rfl, by decide +kernel, by decide +kernel⟩
set_option maxHeartbeats 4000000 in
theorem zkL {P : Program} {w : World} {K : PySem.W.Frag} {mg : Str → Option Value} {base : Heap} {f : Addr} {fd : FuncData} {k : Nat} (F : Fun K "_law_dot" "_law_dot" zcW f fd) (hm : mg "_law_dot" = some (.ref f)) (hb : zbg K fd ["_law_one", "_law_other"] []) : zaC P w K mg base (k + 1) "_law_dot" zcG := by
 refine zaC.mk' (own' := []) F zhp hm hb rfl rfl fun X E hX C L => ?_
 obtain ⟨cdv, A, outer, s, H, rfl⟩ := hX
 have nd := zhp.nd
 exact (@zak _ _ _ _ _ _ _ (@zaB _ _ _ _ _ _ _ _ (@za6 _ _ _ _ _ _ _ (@za6 _ _ _ _ _ _ _ (@zaq _ _ _ _ _ _ _ (@zam _ _ _ _ _ _ _ (@zaa _ _ 0 _ _ (by rfl) (by walk_at "o3") (by decide) (by decide)) (@zae _ _ _ _ _) (by intro _ _ ; rfl)) (@zam _ _ _ _ _ _ _ (@zaa _ _ 1 _ _ (by rfl) (by walk_at "o3") (by decide) (by decide)) (@zae _ _ _ _ _) (by intro _ _ ; rfl))) (@zaq _ _ _ _ _ _ _ (@zam _ _ _ _ _ _ _ (@zaa _ _ 0 _ _ (by rfl) (by walk_at "o3") (by decide) (by decide)) (@zae _ _ _ _ _) (by intro _ _ ; rfl)) (@zam _ _ _ _ _ _ _ (@zaa _ _ 1 _ _ (by rfl) (by walk_at "o3") (by decide) (by decide)) (@zae _ _ _ _ _) (by intro _ _ ; rfl)))) (@zaq _ _ _ _ _ _ _ (@zam _ _ _ _ _ _ _ (@zaa _ _ 0 _ _ (by rfl) (by walk_at "o3") (by decide) (by decide)) (@zae _ _ _ _ _) (by intro _ _ ; rfl)) (@zam _ _ _ _ _ _ _ (@zaa _ _ 1 _ _ (by rfl) (by walk_at "o3") (by decide) (by decide)) (@zae _ _ _ _ _) (by intro _ _ ; rfl))))))
abbrev zcX : Stmt := top 37
theorem zhq : zaw ["_law_rows", "_law_place_here"] ["_law_rows", "_law_place_here"] (zag zcX) := ⟨rfl, rfl, rfl, by decide +kernel, rfl, by decide +kernel, by decide +kernel⟩
set_option maxHeartbeats 4000000 in
theorem zkM {P : Program} {w : World} {K : PySem.W.Frag} {mg : Str → Option Value} {base : Heap} {f : Addr} {fd : FuncData} {k : Nat} (F : Fun K "_law_led" "_law_led" zcX f fd) (hm : mg "_law_led" = some (.ref f)) (hb : zbg K fd ["_law_rows", "_law_place_here"] []) (F__law_lowest : zaC P w K mg base k "_law_lowest" zaL) (F__law_dot : zaC P w K mg base k "_law_dot" zcG) : zaC P w K mg base (k + 1) "_law_led" zbN := by
 refine zaC.mk' (own' := []) F zhq hm hb rfl rfl fun X E hX C L => ?_
 obtain ⟨cdv, A, outer, s, H, rfl⟩ := hX
 have nd := zhq.nd
 exact (@zak _ _ _ _ _ _ _ (@zaB _ _ _ _ _ _ _ _ (@zao _ _ _ _ _ _ _ _ _ _ C F__law_lowest (@zad _ _ _ _ _ _ (@zao _ _ _ _ _ _ _ _ _ _ C F__law_dot (@zad _ _ _ _ _ _ (@zam _ _ _ _ _ _ _ (@zaa _ _ 0 _ _ (by rfl) (by walk_at "o3") (by decide) (by decide)) (@zae _ _ _ _ _) (by intro _ _ ; rfl)) (@zad _ _ _ _ _ _ (@zaa _ _ 1 _ _ (by rfl) (by walk_at "o3") (by decide) (by decide)) (@zai _ _) (by rfl)) (by rfl)) (by rfl) (by decide) (by rfl) (by rfl)) (@zad _ _ _ _ _ _ (@zao _ _ _ _ _ _ _ _ _ _ C F__law_dot (@zad _ _ _ _ _ _ (@zam _ _ _ _ _ _ _ (@zaa _ _ 0 _ _ (by rfl) (by walk_at "o3") (by decide) (by decide)) (@zae _ _ _ _ _) (by intro _ _ ; rfl)) (@zad _ _ _ _ _ _ (@zaa _ _ 1 _ _ (by rfl) (by walk_at "o3") (by decide) (by decide)) (@zai _ _) (by rfl)) (by rfl)) (by rfl) (by decide) (by rfl) (by rfl)) (@zad _ _ _ _ _ _ (@zao _ _ _ _ _ _ _ _ _ _ C F__law_dot (@zad _ _ _ _ _ _ (@zam _ _ _ _ _ _ _ (@zaa _ _ 0 _ _ (by rfl) (by walk_at "o3") (by decide) (by decide)) (@zae _ _ _ _ _) (by intro _ _ ; rfl)) (@zad _ _ _ _ _ _ (@zaa _ _ 1 _ _ (by rfl) (by walk_at "o3") (by decide) (by decide)) (@zai _ _) (by rfl)) (by rfl)) (by rfl) (by decide) (by rfl) (by rfl)) (@zai _ _) (by rfl)) (by rfl)) (by rfl)) (by rfl) (by decide) (by rfl) (by rfl))))
abbrev zb5 : Stmt := top 38
theorem zfT : zaw ["_law_some", "_law_rows", "_law_found", "_law_k", "_law_t", "_law_s"] ["_law_some", "_law_rows"] (zag zb5) := ⟨rfl, rfl, rfl, by decide +kernel, rfl, by decide +kernel, by decide +kernel⟩
set_option maxHeartbeats 4000000 in
theorem ziX {P : Program} {w : World} {K : PySem.W.Frag} {mg : Str → Option Value} {base : Heap} {f : Addr} {fd : FuncData} {k : Nat} (F : Fun K "_law_curve" "_law_curve" zb5 f fd) (hm : mg "_law_curve" = some (.ref f)) (hb : zbg K fd ["_law_some", "_law_rows"] []) (n_range : mg "range" = none) (n_len : mg "len" = none) (F__law_led : zaC P w K mg base k "_law_led" zbN) : zaC P w K mg base (k + 1) "_law_curve" zct := by
 refine zaC.mk' (own' := []) F zfT hm hb rfl rfl fun X E hX C L => ?_
 obtain ⟨cdv, A, outer, s, H, rfl⟩ := hX
 have nd := zfT.nd
 exact (@zah _ _ _ _ _ _ _ _ _ _ (@znz _ _ _ _ _ _ _ _ _ _ 2 nd (@zbJ _ _ _ _ _ (@zai _ _)) (by rfl) (by rfl) (by walk_at "o2") (by rfl) (by walk_at "o4")) (@zah _ _ _ _ _ _ _ _ _ _ (@zdi _ _ _ _ _ _ _ _ _ _ _ _ L C.calm (@zbh _ _ _ _ _ _ _ n_range (@zad _ _ _ _ _ _ (@zd3 _ _ _ _ _ _ _ (@zfw _ _ _ _ _ _ _ n_len (@zad _ _ _ _ _ _ (@zaa _ _ 0 _ _ (by rfl) (by walk_at "o3") (by decide) (by decide)) (@zai _ _) (by rfl)) (by rfl) (by rfl) (by rfl)) (@zae _ _ _ _ _)) (@zai _ _) (by rfl)) (by rfl) (by rfl)) (@zaJ _ _ 3 _ nd (by rfl) (by walk_at "o2") (by walk_at "o4")) (@zah _ _ _ _ _ _ _ _ _ _ (@zjA _ _ _ _ _ _ _ _ _ 4 nd (@zc3 _ _ _ _ _ _ _ (@zbw _ _ _ _ _ _ _ (@zam _ _ _ _ _ _ _ (@zaa _ _ 0 _ _ (by rfl) (by walk_at "o3") (by decide) (by decide)) (@zaq _ _ _ _ _ _ _ (@zae _ _ _ _ _) (@zaa _ _ 3 _ _ (by rfl) (by walk_at "o3") (by decide) (by decide))) (by intro _ _ ; rfl)) (@zae _ _ _ _ _)) (@zae _ _ _ _ _)) (by rfl) (by rfl) (by walk_at "o2") (by rfl) (by walk_at "o4")) (@zah _ _ _ _ _ _ _ _ _ _ (@zjA _ _ _ _ _ _ _ _ _ 5 nd (@zbw _ _ _ _ _ _ _ (@zam _ _ _ _ _ _ _ (@zaa _ _ 0 _ _ (by rfl) (by walk_at "o3") (by decide) (by decide)) (@za6 _ _ _ _ _ _ _ (@zaq _ _ _ _ _ _ _ (@zae _ _ _ _ _) (@zaa _ _ 3 _ _ (by rfl) (by walk_at "o3") (by decide) (by decide))) (@zae _ _ _ _ _)) (by intro _ _ ; rfl)) (@zae _ _ _ _ _)) (by rfl) (by rfl) (by walk_at "o2") (by rfl) (by walk_at "o4")) (@zah _ _ _ _ _ _ _ _ _ _ (@zcL _ _ _ _ _ _ _ _ _ _ _ _ (@DW.dt _ _ _ _ (@zk9 _ _ _ _ _ _ _ _ (@zaH _ _ _ _ _ _ _ _ _ (@zdM _ _ _ C) (@zaa _ _ 4 _ _ (by rfl) (by walk_at "o3") (by decide) (by decide)) (@zae _ _ _ _ _) (by first | exact zal _ (by decide) (by decide) | rfl)) (@zku _ _ _ _ _ (@zaH _ _ _ _ _ _ _ _ _ (@zdM _ _ _ C) (@zaa _ _ 5 _ _ (by rfl) (by walk_at "o3") (by decide) (by decide)) (@zae _ _ _ _ _) (by first | exact zal _ (by decide) (by decide) | rfl))))) (@zak _ _ _ _ _ _ _ (@zjA _ _ _ _ _ _ _ _ _ 5 nd (@zae _ _ _ _ _) (by rfl) (by rfl) (by walk_at "o2") (by rfl) (by walk_at "o4"))) (@zaZ _ _ _ _)) (@zak _ _ _ _ _ _ _ (@zla _ _ _ _ _ _ _ _ 2 _ _ _ (@zao _ _ _ _ _ _ _ _ _ _ C F__law_led (@zad _ _ _ _ _ _ (@zaa _ _ 1 _ _ (by rfl) (by walk_at "o3") (by decide) (by decide)) (@zad _ _ _ _ _ _ (@zce _ _ _ _ _ _ (@zad _ _ _ _ _ _ (@zaq _ _ _ _ _ _ _ (@zaa _ _ 4 _ _ (by rfl) (by walk_at "o3") (by decide) (by decide)) (@zaa _ _ 4 _ _ (by rfl) (by walk_at "o3") (by decide) (by decide))) (@zad _ _ _ _ _ _ (@zaq _ _ _ _ _ _ _ (@zaa _ _ 4 _ _ (by rfl) (by walk_at "o3") (by decide) (by decide)) (@zaa _ _ 5 _ _ (by rfl) (by walk_at "o3") (by decide) (by decide))) (@zad _ _ _ _ _ _ (@zaq _ _ _ _ _ _ _ (@zaa _ _ 5 _ _ (by rfl) (by walk_at "o3") (by decide) (by decide)) (@zaa _ _ 5 _ _ (by rfl) (by walk_at "o3") (by decide) (by decide))) (@zai _ _) (by rfl)) (by rfl)) (by rfl))) (@zai _ _) (by rfl)) (by rfl)) (by rfl) (by decide) (by rfl) (by rfl)) (by rfl) (by rfl) (by walk_at "o3") (by decide) (by decide) (by rfl) (by rfl) (by rfl) (by rfl) (by rfl) (by rfl)))))) (by rfl) (by intro _ ; rfl)) (@zkv _ _ _ _ _ _ _ _ 2 (by rfl) (by rfl) (@zak _ _ _ _ _ _ _ (@zaB _ _ _ _ _ _ _ _ (@zaa _ _ 2 _ _ (by rfl) (by walk_at "o3") (by decide) (by decide)))))))
abbrev zb6 : Stmt := top 33
theorem zfU : zaw ["_law_some", "_law_most", "_law_x", "_law_y", "_law_z"] ["_law_some"] (zag zb6) := ⟨rfl, rfl, rfl, by decide +kernel, rfl, by decide +kernel, by decide +kernel⟩
set_option maxHeartbeats 4000000 in
theorem ziY {P : Program} {w : World} {K : PySem.W.Frag} {mg : Str → Option Value} {base : Heap} {f : Addr} {fd : FuncData} {k : Nat} (F : Fun K "_law_place" "_law_place" zb6 f fd) (hm : mg "_law_place" = some (.ref f)) (hb : zbg K fd ["_law_some"] []) (F__law_lowest : zaC P w K mg base k "_law_lowest" zaL) : zaC P w K mg base (k + 1) "_law_place" za1 := by
 refine zaC.mk' (own' := []) F zfU hm hb rfl rfl fun X E hX C L => ?_
 obtain ⟨cdv, A, outer, s, H, rfl⟩ := hX
 have nd := zfU.nd
 exact (@zah _ _ _ _ _ _ _ _ _ _ (@zan _ _ _ _ _ _ _ _ 1 nd (@zam _ _ _ _ _ _ _ (@DF.val _ _ _ _ (@zbJ _ _ _ _ _ (@zad _ _ _ _ _ _ (@zae _ _ _ _ _) (@zad _ _ _ _ _ _ (@zae _ _ _ _ _) (@zad _ _ _ _ _ _ (@zae _ _ _ _ _) (@zai _ _) (by rfl)) (by rfl)) (by rfl)))) (@zbw _ _ _ _ _ _ _ (@zam _ _ _ _ _ _ _ (@zaa _ _ 0 _ _ (by rfl) (by walk_at "o3") (by decide) (by decide)) (@zae _ _ _ _ _) (by intro _ _ ; rfl)) (@zae _ _ _ _ _)) (by intro _ _ ; rfl)) (by rfl) (by walk_at "o2") (by rfl) (by walk_at "o4")) (@zah _ _ _ _ _ _ _ _ _ _ (@zan _ _ _ _ _ _ _ _ 2 nd (@zc3 _ _ _ _ _ _ _ (@zbw _ _ _ _ _ _ _ (@zam _ _ _ _ _ _ _ (@zaa _ _ 0 _ _ (by rfl) (by walk_at "o3") (by decide) (by decide)) (@zae _ _ _ _ _) (by intro _ _ ; rfl)) (@za6 _ _ _ _ _ _ _ (@zaq _ _ _ _ _ _ _ (@zae _ _ _ _ _) (@zaa _ _ 1 _ _ (by rfl) (by walk_at "o3") (by decide) (by decide))) (@zae _ _ _ _ _))) (@zaa _ _ 1 _ _ (by rfl) (by walk_at "o3") (by decide) (by decide))) (by rfl) (by walk_at "o2") (by rfl) (by walk_at "o4")) (@zah _ _ _ _ _ _ _ _ _ _ (@zan _ _ _ _ _ _ _ _ 3 nd (@zc3 _ _ _ _ _ _ _ (@zbw _ _ _ _ _ _ _ (@zam _ _ _ _ _ _ _ (@zaa _ _ 0 _ _ (by rfl) (by walk_at "o3") (by decide) (by decide)) (@zae _ _ _ _ _) (by intro _ _ ; rfl)) (@za6 _ _ _ _ _ _ _ (@zaq _ _ _ _ _ _ _ (@zae _ _ _ _ _) (@zaa _ _ 1 _ _ (by rfl) (by walk_at "o3") (by decide) (by decide))) (@zae _ _ _ _ _))) (@zaa _ _ 1 _ _ (by rfl) (by walk_at "o3") (by decide) (by decide))) (by rfl) (by walk_at "o2") (by rfl) (by walk_at "o4")) (@zah _ _ _ _ _ _ _ _ _ _ (@zan _ _ _ _ _ _ _ _ 4 nd (@zc3 _ _ _ _ _ _ _ (@zbw _ _ _ _ _ _ _ (@zam _ _ _ _ _ _ _ (@zaa _ _ 0 _ _ (by rfl) (by walk_at "o3") (by decide) (by decide)) (@zae _ _ _ _ _) (by intro _ _ ; rfl)) (@za6 _ _ _ _ _ _ _ (@zaq _ _ _ _ _ _ _ (@zae _ _ _ _ _) (@zaa _ _ 1 _ _ (by rfl) (by walk_at "o3") (by decide) (by decide))) (@zae _ _ _ _ _))) (@zaa _ _ 1 _ _ (by rfl) (by walk_at "o3") (by decide) (by decide))) (by rfl) (by walk_at "o2") (by rfl) (by walk_at "o4")) (@zah _ _ _ _ _ _ _ _ _ _ (@zcL _ _ _ _ _ _ _ _ _ _ _ _ (@DW.dt _ _ _ _ (@zk9 _ _ _ _ _ _ _ _ (@zaH _ _ _ _ _ _ _ _ _ (@zdM _ _ _ C) (@zaa _ _ 2 _ _ (by rfl) (by walk_at "o3") (by decide) (by decide)) (@zae _ _ _ _ _) (by first | exact zal _ (by decide) (by decide) | rfl)) (@zk9 _ _ _ _ _ _ _ _ (@zaH _ _ _ _ _ _ _ _ _ (@zdM _ _ _ C) (@zaa _ _ 3 _ _ (by rfl) (by walk_at "o3") (by decide) (by decide)) (@zae _ _ _ _ _) (by first | exact zal _ (by decide) (by decide) | rfl)) (@zku _ _ _ _ _ (@zaH _ _ _ _ _ _ _ _ _ (@zdM _ _ _ C) (@zaa _ _ 4 _ _ (by rfl) (by walk_at "o3") (by decide) (by decide)) (@zae _ _ _ _ _) (by first | exact zal _ (by decide) (by decide) | rfl)))))) (@zak _ _ _ _ _ _ _ (@zan _ _ _ _ _ _ _ _ 4 nd (@zae _ _ _ _ _) (by rfl) (by walk_at "o2") (by rfl) (by walk_at "o4"))) (@zaZ _ _ _ _)) (@zak _ _ _ _ _ _ _ (@zaB _ _ _ _ _ _ _ _ (@zao _ _ _ _ _ _ _ _ _ _ C F__law_lowest (@zad _ _ _ _ _ _ (@zaa _ _ 2 _ _ (by rfl) (by walk_at "o3") (by decide) (by decide)) (@zad _ _ _ _ _ _ (@zaa _ _ 3 _ _ (by rfl) (by walk_at "o3") (by decide) (by decide)) (@zad _ _ _ _ _ _ (@zaa _ _ 4 _ _ (by rfl) (by walk_at "o3") (by decide) (by decide)) (@zai _ _) (by rfl)) (by rfl)) (by rfl)) (by rfl) (by decide) (by rfl) (by rfl)))))))))
abbrev zb7 : Stmt := top 39
theorem zfV : zaw ["_law_places", "_law_i", "_law_j", "_law_k"] ["_law_places"] (zag zb7) := ⟨rfl, rfl, rfl, by decide +kernel, rfl, by decide +kernel, by decide +kernel⟩
set_option maxHeartbeats 4000000 in
theorem ziZ {P : Program} {w : World} {K : PySem.W.Frag} {mg : Str → Option Value} {base : Heap} {f : Addr} {fd : FuncData} {k : Nat} (F : Fun K "_law_lines" "_law_lines" zb7 f fd) (hm : mg "_law_lines" = some (.ref f)) (hb : zbg K fd ["_law_places"] []) (n_range : mg "range" = none) (n_len : mg "len" = none) (F__law_det : zaC P w K mg base k "_law_det" zbk) : zaC P w K mg base (k + 1) "_law_lines" zcu := by
 refine zaC.mk' (own' := []) F zfV hm hb rfl rfl fun X E hX C L => ?_
 obtain ⟨cdv, A, outer, s, H, rfl⟩ := hX
 have nd := zfV.nd
 exact (@zah _ _ _ _ _ _ _ _ _ _ (@zdi _ _ _ _ _ _ _ _ _ _ _ _ L C.calm (@zbh _ _ _ _ _ _ _ n_range (@zad _ _ _ _ _ _ (@zfw _ _ _ _ _ _ _ n_len (@zad _ _ _ _ _ _ (@zaa _ _ 0 _ _ (by rfl) (by walk_at "o3") (by decide) (by decide)) (@zai _ _) (by rfl)) (by rfl) (by rfl) (by rfl)) (@zai _ _) (by rfl)) (by rfl) (by rfl)) (@zaJ _ _ 1 _ nd (by rfl) (by walk_at "o2") (by walk_at "o4")) (@zak _ _ _ _ _ _ _ (@zdi _ _ _ _ _ _ _ _ _ _ _ _ L C.calm (@zbh _ _ _ _ _ _ _ n_range (@zad _ _ _ _ _ _ (@zaa _ _ 1 _ _ (by rfl) (by walk_at "o3") (by decide) (by decide)) (@zai _ _) (by rfl)) (by rfl) (by rfl)) (@zaJ _ _ 2 _ nd (by rfl) (by walk_at "o2") (by walk_at "o4")) (@zak _ _ _ _ _ _ _ (@zdi _ _ _ _ _ _ _ _ _ _ _ _ L C.calm (@zbh _ _ _ _ _ _ _ n_range (@zad _ _ _ _ _ _ (@zaa _ _ 2 _ _ (by rfl) (by walk_at "o3") (by decide) (by decide)) (@zai _ _) (by rfl)) (by rfl) (by rfl)) (@zaJ _ _ 3 _ nd (by rfl) (by walk_at "o2") (by walk_at "o4")) (@zak _ _ _ _ _ _ _ (@zcL _ _ _ _ _ _ _ _ _ _ _ _ (@zaH _ _ _ _ _ _ _ _ _ (@zdM _ _ _ C) (@zao _ _ _ _ _ _ _ _ _ _ C F__law_det (@zad _ _ _ _ _ _ (@zam _ _ _ _ _ _ _ (@zaa _ _ 0 _ _ (by rfl) (by walk_at "o3") (by decide) (by decide)) (@zaa _ _ 1 _ _ (by rfl) (by walk_at "o3") (by decide) (by decide)) (by intro _ _ ; rfl)) (@zad _ _ _ _ _ _ (@zam _ _ _ _ _ _ _ (@zaa _ _ 0 _ _ (by rfl) (by walk_at "o3") (by decide) (by decide)) (@zaa _ _ 2 _ _ (by rfl) (by walk_at "o3") (by decide) (by decide)) (by intro _ _ ; rfl)) (@zad _ _ _ _ _ _ (@zam _ _ _ _ _ _ _ (@zaa _ _ 0 _ _ (by rfl) (by walk_at "o3") (by decide) (by decide)) (@zaa _ _ 3 _ _ (by rfl) (by walk_at "o3") (by decide) (by decide)) (by intro _ _ ; rfl)) (@zai _ _) (by rfl)) (by rfl)) (by rfl)) (by rfl) (by decide) (by rfl) (by rfl)) (@zae _ _ _ _ _) (by first | exact zal _ (by decide) (by decide) | rfl)) (@zak _ _ _ _ _ _ _ (@zaB _ _ _ _ _ _ _ _ (@zep _ _ _ _ _))) (@zaZ _ _ _ _))) (by rfl) (by intro _ ; rfl))) (by rfl) (by intro _ ; rfl))) (by rfl) (by intro _ ; rfl)) (@zak _ _ _ _ _ _ _ (@zaB _ _ _ _ _ _ _ _ (@zep _ _ _ _ _))))
abbrev zdW : Stmt := top 11
theorem ziq : zaw ["one", "other", "rest"] ["one", "other"] (zag zdW) := ⟨rfl, rfl, rfl, by decide +kernel, rfl, by decide +kernel, by decide +kernel⟩
set_option maxHeartbeats 4000000 in
theorem zmH {P : Program} {w : World} {K : PySem.W.Frag} {mg : Str → Option Value} {base : Heap} {f : Addr} {fd : FuncData} {k : Nat} (F : Fun K "divisor" "divisor" zdW f fd) (hm : mg "divisor" = some (.ref f)) (hb : zbg K fd ["one", "other"] []) (n_abs : mg "abs" = none) : zaC P w K mg base (k + 1) "divisor" zbK := by
 refine zaC.mk' (own' := []) F ziq hm hb rfl rfl fun X E hX C L => ?_
 obtain ⟨cdv, A, outer, s, H, rfl⟩ := hX
 have nd := ziq.nd
 exact (@zah _ _ _ _ _ _ _ _ _ _ (@zan _ _ _ _ _ _ _ _ 0 nd (@zhY _ _ _ _ _ _ _ n_abs (@zad _ _ _ _ _ _ (@zaa _ _ 0 _ _ (by rfl) (by walk_at "o3") (by decide) (by decide)) (@zai _ _) (by rfl)) (by rfl) (by rfl) (by rfl)) (by rfl) (by walk_at "o2") (by rfl) (by walk_at "o4")) (@zah _ _ _ _ _ _ _ _ _ _ (@zan _ _ _ _ _ _ _ _ 1 nd (@zhY _ _ _ _ _ _ _ n_abs (@zad _ _ _ _ _ _ (@zaa _ _ 1 _ _ (by rfl) (by walk_at "o3") (by decide) (by decide)) (@zai _ _) (by rfl)) (by rfl) (by rfl) (by rfl)) (by rfl) (by walk_at "o2") (by rfl) (by walk_at "o4")) (@zah _ _ _ _ _ _ _ _ _ _ (@ziK _ _ _ _ _ _ _ _ _ L (@zaH _ _ _ _ _ _ _ _ _ (@zeS _ _ _ C) (@zaa _ _ 1 _ _ (by rfl) (by walk_at "o3") (by decide) (by decide)) (@zae _ _ _ _ _) (by first | exact zal _ (by decide) (by decide) | rfl)) (@zah _ _ _ _ _ _ _ _ _ _ (@zan _ _ _ _ _ _ _ _ 2 nd (@zbw _ _ _ _ _ _ _ (@zaa _ _ 0 _ _ (by rfl) (by walk_at "o3") (by decide) (by decide)) (@zaa _ _ 1 _ _ (by rfl) (by walk_at "o3") (by decide) (by decide))) (by rfl) (by walk_at "o2") (by rfl) (by walk_at "o4")) (@zah _ _ _ _ _ _ _ _ _ _ (@zan _ _ _ _ _ _ _ _ 0 nd (@zaa _ _ 1 _ _ (by rfl) (by walk_at "o3") (by decide) (by decide)) (by rfl) (by walk_at "o2") (by rfl) (by walk_at "o4")) (@zak _ _ _ _ _ _ _ (@zan _ _ _ _ _ _ _ _ 1 nd (@zaa _ _ 2 _ _ (by rfl) (by walk_at "o3") (by decide) (by decide)) (by rfl) (by walk_at "o2") (by rfl) (by walk_at "o4")))))) (@zak _ _ _ _ _ _ _ (@zaB _ _ _ _ _ _ _ _ (@zaa _ _ 0 _ _ (by rfl) (by walk_at "o3") (by decide) (by decide)))))))
abbrev zdc : Stmt := top 10
theorem zir : zaw ["numbers", "part", "last"] ["numbers"] (zag zdc) := ⟨rfl, rfl, rfl, by decide +kernel, rfl, by decide +kernel, by decide +kernel⟩
set_option maxHeartbeats 4000000 in
theorem zmI {P : Program} {w : World} {K : PySem.W.Frag} {mg : Str → Option Value} {base : Heap} {f : Addr} {fd : FuncData} {k : Nat} (F : Fun K "in_form" "in_form" zdc f fd) (hm : mg "in_form" = some (.ref f)) (hb : zbg K fd ["numbers"] []) (F_divisor : zaC P w K mg base k "divisor" zbK) : zaC P w K mg base (k + 1) "in_form" zci := by
 refine zaC.mk' (own' := []) F zir hm hb rfl rfl fun X E hX C L => ?_
 obtain ⟨cdv, A, outer, s, H, rfl⟩ := hX
 have nd := zir.nd
 exact (@zah _ _ _ _ _ _ _ _ _ _ (@zan _ _ _ _ _ _ _ _ 1 nd (@zao _ _ _ _ _ _ _ _ _ _ C F_divisor (@zad _ _ _ _ _ _ (@zao _ _ _ _ _ _ _ _ _ _ C F_divisor (@zad _ _ _ _ _ _ (@zam _ _ _ _ _ _ _ (@zaa _ _ 0 _ _ (by rfl) (by walk_at "o3") (by decide) (by decide)) (@zae _ _ _ _ _) (by intro _ _ ; rfl)) (@zad _ _ _ _ _ _ (@zam _ _ _ _ _ _ _ (@zaa _ _ 0 _ _ (by rfl) (by walk_at "o3") (by decide) (by decide)) (@zae _ _ _ _ _) (by intro _ _ ; rfl)) (@zai _ _) (by rfl)) (by rfl)) (by rfl) (by decide) (by rfl) (by rfl)) (@zad _ _ _ _ _ _ (@zam _ _ _ _ _ _ _ (@zaa _ _ 0 _ _ (by rfl) (by walk_at "o3") (by decide) (by decide)) (@zae _ _ _ _ _) (by intro _ _ ; rfl)) (@zai _ _) (by rfl)) (by rfl)) (by rfl) (by decide) (by rfl) (by rfl)) (by rfl) (by walk_at "o2") (by rfl) (by walk_at "o4")) (@zah _ _ _ _ _ _ _ _ _ _ (@zan _ _ _ _ _ _ _ _ 2 nd (@zam _ _ _ _ _ _ _ (@DF.val _ _ _ _ (@zfu _ _ _ _ _ _ _ _ _ _ _ _ _ _ _ C.calm (LC.of (k := 1) (NY := ["number", "numbers", "part", "last"]) (N := ["numbers", "part", "last"]) (sc0 := (zag zdc)) rfl rfl (by decide +kernel)) rfl (@zcl _ _ _ _ _ (@zaa _ _ 0 _ _ (by rfl) (by walk_at "o3") (by decide) (by decide))) (fun _ _ _ _ nd2 => ⟨(@zaJ _ _ 0 _ nd2 (by rfl) (by walk_at "o2") (by walk_at "o4")), (@zfh _ _ _ _ (@zaH _ _ _ _ _ _ _ _ _ (@zeS _ _ _ (C.lc _ _ _ _ _ _)) (@zaa _ _ 0 _ _ (by rfl) (by walk_at "o3") (by decide) (by decide)) (@zae _ _ _ _ _) (by first | exact zal _ (by decide) (by decide) | rfl))), (@zaa _ _ 0 _ _ (by rfl) (by walk_at "o3") (by decide) (by decide))⟩) (by intro _ ; rfl))) (@zjB _ _ _ _ _ (@zae _ _ _ _ _)) (by intro _ _ ; rfl)) (by rfl) (by walk_at "o2") (by rfl) (by walk_at "o4")) (@zah _ _ _ _ _ _ _ _ _ _ (@zcL _ _ _ _ _ _ _ _ _ _ _ _ (@zaH _ _ _ _ _ _ _ _ _ (@zsl _) (@zaa _ _ 2 _ _ (by rfl) (by walk_at "o3") (by decide) (by decide)) (@zae _ _ _ _ _) (by first | exact zal _ (by decide) (by decide) | rfl)) (@zak _ _ _ _ _ _ _ (@zan _ _ _ _ _ _ _ _ 1 nd (@zjB _ _ _ _ _ (@zaa _ _ 1 _ _ (by rfl) (by walk_at "o3") (by decide) (by decide))) (by rfl) (by walk_at "o2") (by rfl) (by walk_at "o4"))) (@zaZ _ _ _ _)) (@zak _ _ _ _ _ _ _ (@zaB _ _ _ _ _ _ _ _ (@zce _ _ _ _ _ _ (@zad _ _ _ _ _ _ (@zd3 _ _ _ _ _ _ _ (@zam _ _ _ _ _ _ _ (@zaa _ _ 0 _ _ (by rfl) (by walk_at "o3") (by decide) (by decide)) (@zae _ _ _ _ _) (by intro _ _ ; rfl)) (@zaa _ _ 1 _ _ (by rfl) (by walk_at "o3") (by decide) (by decide))) (@zad _ _ _ _ _ _ (@zd3 _ _ _ _ _ _ _ (@zam _ _ _ _ _ _ _ (@zaa _ _ 0 _ _ (by rfl) (by walk_at "o3") (by decide) (by decide)) (@zae _ _ _ _ _) (by intro _ _ ; rfl)) (@zaa _ _ 1 _ _ (by rfl) (by walk_at "o3") (by decide) (by decide))) (@zad _ _ _ _ _ _ (@zd3 _ _ _ _ _ _ _ (@zam _ _ _ _ _ _ _ (@zaa _ _ 0 _ _ (by rfl) (by walk_at "o3") (by decide) (by decide)) (@zae _ _ _ _ _) (by intro _ _ ; rfl)) (@zaa _ _ 1 _ _ (by rfl) (by walk_at "o3") (by decide) (by decide))) (@zai _ _) (by rfl)) (by rfl)) (by rfl))))))))
abbrev zf7 : Stmt := top 14
theorem zme : zaw ["one", "other", "x", "y", "z"] ["one", "other"] (zag zf7) := ⟨rfl, rfl, rfl, by decide +kernel, rfl, by decide +kernel, by decide +kernel⟩
set_option maxHeartbeats 4000000 in
theorem zqo {P : Program} {w : World} {K : PySem.W.Frag} {mg : Str → Option Value} {base : Heap} {f : Addr} {fd : FuncData} {k : Nat} (F : Fun K "cross" "cross" zf7 f fd) (hm : mg "cross" = some (.ref f)) (hb : zbg K fd ["one", "other"] []) : zaC P w K mg base (k + 1) "cross" zf2 := by
 refine zaC.mk' (own' := []) F zme hm hb rfl rfl fun X E hX C L => ?_
 obtain ⟨cdv, A, outer, s, H, rfl⟩ := hX
 have nd := zme.nd
 exact (@zah _ _ _ _ _ _ _ _ _ _ (@zan _ _ _ _ _ _ _ _ 2 nd (@zc3 _ _ _ _ _ _ _ (@zaq _ _ _ _ _ _ _ (@zam _ _ _ _ _ _ _ (@zaa _ _ 0 _ _ (by rfl) (by walk_at "o3") (by decide) (by decide)) (@zae _ _ _ _ _) (by intro _ _ ; rfl)) (@zam _ _ _ _ _ _ _ (@zaa _ _ 1 _ _ (by rfl) (by walk_at "o3") (by decide) (by decide)) (@zae _ _ _ _ _) (by intro _ _ ; rfl))) (@zaq _ _ _ _ _ _ _ (@zam _ _ _ _ _ _ _ (@zaa _ _ 0 _ _ (by rfl) (by walk_at "o3") (by decide) (by decide)) (@zae _ _ _ _ _) (by intro _ _ ; rfl)) (@zam _ _ _ _ _ _ _ (@zaa _ _ 1 _ _ (by rfl) (by walk_at "o3") (by decide) (by decide)) (@zae _ _ _ _ _) (by intro _ _ ; rfl)))) (by rfl) (by walk_at "o2") (by rfl) (by walk_at "o4")) (@zah _ _ _ _ _ _ _ _ _ _ (@zan _ _ _ _ _ _ _ _ 3 nd (@zc3 _ _ _ _ _ _ _ (@zaq _ _ _ _ _ _ _ (@zam _ _ _ _ _ _ _ (@zaa _ _ 0 _ _ (by rfl) (by walk_at "o3") (by decide) (by decide)) (@zae _ _ _ _ _) (by intro _ _ ; rfl)) (@zam _ _ _ _ _ _ _ (@zaa _ _ 1 _ _ (by rfl) (by walk_at "o3") (by decide) (by decide)) (@zae _ _ _ _ _) (by intro _ _ ; rfl))) (@zaq _ _ _ _ _ _ _ (@zam _ _ _ _ _ _ _ (@zaa _ _ 0 _ _ (by rfl) (by walk_at "o3") (by decide) (by decide)) (@zae _ _ _ _ _) (by intro _ _ ; rfl)) (@zam _ _ _ _ _ _ _ (@zaa _ _ 1 _ _ (by rfl) (by walk_at "o3") (by decide) (by decide)) (@zae _ _ _ _ _) (by intro _ _ ; rfl)))) (by rfl) (by walk_at "o2") (by rfl) (by walk_at "o4")) (@zah _ _ _ _ _ _ _ _ _ _ (@zan _ _ _ _ _ _ _ _ 4 nd (@zc3 _ _ _ _ _ _ _ (@zaq _ _ _ _ _ _ _ (@zam _ _ _ _ _ _ _ (@zaa _ _ 0 _ _ (by rfl) (by walk_at "o3") (by decide) (by decide)) (@zae _ _ _ _ _) (by intro _ _ ; rfl)) (@zam _ _ _ _ _ _ _ (@zaa _ _ 1 _ _ (by rfl) (by walk_at "o3") (by decide) (by decide)) (@zae _ _ _ _ _) (by intro _ _ ; rfl))) (@zaq _ _ _ _ _ _ _ (@zam _ _ _ _ _ _ _ (@zaa _ _ 0 _ _ (by rfl) (by walk_at "o3") (by decide) (by decide)) (@zae _ _ _ _ _) (by intro _ _ ; rfl)) (@zam _ _ _ _ _ _ _ (@zaa _ _ 1 _ _ (by rfl) (by walk_at "o3") (by decide) (by decide)) (@zae _ _ _ _ _) (by intro _ _ ; rfl)))) (by rfl) (by walk_at "o2") (by rfl) (by walk_at "o4")) (@zak _ _ _ _ _ _ _ (@zaB _ _ _ _ _ _ _ _ (@zce _ _ _ _ _ _ (@zad _ _ _ _ _ _ (@zaa _ _ 2 _ _ (by rfl) (by walk_at "o3") (by decide) (by decide)) (@zad _ _ _ _ _ _ (@zaa _ _ 3 _ _ (by rfl) (by walk_at "o3") (by decide) (by decide)) (@zad _ _ _ _ _ _ (@zaa _ _ 4 _ _ (by rfl) (by walk_at "o3") (by decide) (by decide)) (@zai _ _) (by rfl)) (by rfl)) (by rfl))))))))
abbrev zbT : Stmt := top 16
theorem zfa : zaw ["one", "other"] ["one", "other"] (zag zbT) := ⟨rfl, rfl, rfl, by decide +kernel, rfl, by decide +kernel, by decide +kernel⟩
set_option maxHeartbeats 4000000 in
theorem zhI {P : Program} {w : World} {K : PySem.W.Frag} {mg : Str → Option Value} {base : Heap} {f : Addr} {fd : FuncData} {k : Nat} (F : Fun K "between_two" "between_two" zbT f fd) (hm : mg "between_two" = some (.ref f)) (hb : zbg K fd ["one", "other"] []) (F_in_form : zaC P w K mg base k "in_form" zci) (F_cross : zaC P w K mg base k "cross" zf2) : zaC P w K mg base (k + 1) "between_two" za5 := by
 refine zaC.mk' (own' := []) F zfa hm hb rfl rfl fun X E hX C L => ?_
 obtain ⟨cdv, A, outer, s, H, rfl⟩ := hX
 have nd := zfa.nd
 exact (@zah _ _ _ _ _ _ _ _ _ _ (@zcL _ _ _ _ _ _ _ _ _ _ _ _ (@zaH _ _ _ _ _ _ _ _ _ (@zdM _ _ _ C) (@zaa _ _ 0 _ _ (by rfl) (by walk_at "o3") (by decide) (by decide)) (@zaa _ _ 1 _ _ (by rfl) (by walk_at "o3") (by decide) (by decide)) (by first | exact zal _ (by decide) (by decide) | rfl)) (@zak _ _ _ _ _ _ _ (@ztU _ _ _ _ _ _)) (@zaZ _ _ _ _)) (@zak _ _ _ _ _ _ _ (@zaB _ _ _ _ _ _ _ _ (@zao _ _ _ _ _ _ _ _ _ _ C F_in_form (@zad _ _ _ _ _ _ (@zao _ _ _ _ _ _ _ _ _ _ C F_cross (@zad _ _ _ _ _ _ (@zaa _ _ 0 _ _ (by rfl) (by walk_at "o3") (by decide) (by decide)) (@zad _ _ _ _ _ _ (@zaa _ _ 1 _ _ (by rfl) (by walk_at "o3") (by decide) (by decide)) (@zai _ _) (by rfl)) (by rfl)) (by rfl) (by decide) (by rfl) (by rfl)) (@zai _ _) (by rfl)) (by rfl) (by decide) (by rfl) (by rfl)))))
abbrev zdX : Stmt := top 15
theorem zis : zaw ["one", "other"] ["one", "other"] (zag zdX) := ⟨rfl, rfl, rfl, by decide +kernel, rfl, by decide +kernel, by decide +kernel⟩
set_option maxHeartbeats 4000000 in
theorem zmJ {P : Program} {w : World} {K : PySem.W.Frag} {mg : Str → Option Value} {base : Heap} {f : Addr} {fd : FuncData} {k : Nat} (F : Fun K "through" "through" zdX f fd) (hm : mg "through" = some (.ref f)) (hb : zbg K fd ["one", "other"] []) (F_between_two : zaC P w K mg base k "between_two" za5) : zaC P w K mg base (k + 1) "through" zaS := by
 refine zaC.mk' (own' := []) F zis hm hb rfl rfl fun X E hX C L => ?_
 obtain ⟨cdv, A, outer, s, H, rfl⟩ := hX
 have nd := zis.nd
 exact (@zak _ _ _ _ _ _ _ (@zaB _ _ _ _ _ _ _ _ (@zao _ _ _ _ _ _ _ _ _ _ C F_between_two (@zad _ _ _ _ _ _ (@zaa _ _ 0 _ _ (by rfl) (by walk_at "o3") (by decide) (by decide)) (@zad _ _ _ _ _ _ (@zaa _ _ 1 _ _ (by rfl) (by walk_at "o3") (by decide) (by decide)) (@zai _ _) (by rfl)) (by rfl)) (by rfl) (by decide) (by rfl) (by rfl))))
abbrev zmK : Stmt := top 13
theorem zrz : zaw ["one", "other"] ["one", "other"] (zag zmK) := ⟨rfl, rfl, rfl, by decide +kernel, rfl, by decide +kernel, by decide +kernel⟩
set_option maxHeartbeats 4000000 in
theorem zuN {P : Program} {w : World} {K : PySem.W.Frag} {mg : Str → Option Value} {base : Heap} {f : Addr} {fd : FuncData} {k : Nat} (F : Fun K "dot" "dot" zmK f fd) (hm : mg "dot" = some (.ref f)) (hb : zbg K fd ["one", "other"] []) : zaC P w K mg base (k + 1) "dot" zhc := by
 refine zaC.mk' (own' := []) F zrz hm hb rfl rfl fun X E hX C L => ?_
 obtain ⟨cdv, A, outer, s, H, rfl⟩ := hX
 have nd := zrz.nd
 exact (@zak _ _ _ _ _ _ _ (@zaB _ _ _ _ _ _ _ _ (@za6 _ _ _ _ _ _ _ (@za6 _ _ _ _ _ _ _ (@zaq _ _ _ _ _ _ _ (@zam _ _ _ _ _ _ _ (@zaa _ _ 0 _ _ (by rfl) (by walk_at "o3") (by decide) (by decide)) (@zae _ _ _ _ _) (by intro _ _ ; rfl)) (@zam _ _ _ _ _ _ _ (@zaa _ _ 1 _ _ (by rfl) (by walk_at "o3") (by decide) (by decide)) (@zae _ _ _ _ _) (by intro _ _ ; rfl))) (@zaq _ _ _ _ _ _ _ (@zam _ _ _ _ _ _ _ (@zaa _ _ 0 _ _ (by rfl) (by walk_at "o3") (by decide) (by decide)) (@zae _ _ _ _ _) (by intro _ _ ; rfl)) (@zam _ _ _ _ _ _ _ (@zaa _ _ 1 _ _ (by rfl) (by walk_at "o3") (by decide) (by decide)) (@zae _ _ _ _ _) (by intro _ _ ; rfl)))) (@zaq _ _ _ _ _ _ _ (@zam _ _ _ _ _ _ _ (@zaa _ _ 0 _ _ (by rfl) (by walk_at "o3") (by decide) (by decide)) (@zae _ _ _ _ _) (by intro _ _ ; rfl)) (@zam _ _ _ _ _ _ _ (@zaa _ _ 1 _ _ (by rfl) (by walk_at "o3") (by decide) (by decide)) (@zae _ _ _ _ _) (by intro _ _ ; rfl))))))
abbrev zit : Stmt := top 12
theorem zo0 : zaw ["place", "line"] ["place", "line"] (zag zit) := ⟨rfl, rfl, rfl, by decide +kernel, rfl, by decide +kernel, by decide +kernel⟩
set_option maxHeartbeats 4000000 in
theorem zsQ {P : Program} {w : World} {K : PySem.W.Frag} {mg : Str → Option Value} {base : Heap} {f : Addr} {fd : FuncData} {k : Nat} (F : Fun K "lies" "lies" zit f fd) (hm : mg "lies" = some (.ref f)) (hb : zbg K fd ["place", "line"] []) (F_dot : zaC P w K mg base k "dot" zhc) : zaC P w K mg base (k + 1) "lies" zdO := by
 refine zaC.mk' (own' := []) F zo0 hm hb rfl rfl fun X E hX C L => ?_
 obtain ⟨cdv, A, outer, s, H, rfl⟩ := hX
 have nd := zo0.nd
 exact (@zak _ _ _ _ _ _ _ (@zaB _ _ _ _ _ _ _ _ (@zc4 _ _ _ _ _ _ _ _ _ (@zdM _ _ _ C) (@zao _ _ _ _ _ _ _ _ _ _ C F_dot (@zad _ _ _ _ _ _ (@zaa _ _ 0 _ _ (by rfl) (by walk_at "o3") (by decide) (by decide)) (@zad _ _ _ _ _ _ (@zaa _ _ 1 _ _ (by rfl) (by walk_at "o3") (by decide) (by decide)) (@zai _ _) (by rfl)) (by rfl)) (by rfl) (by decide) (by rfl) (by rfl)) (@zae _ _ _ _ _) (by first | exact zal _ (by decide) (by decide) | rfl))))
abbrev zdA : Stmt := top 17
theorem zkf : zaw ["places", "others", "line"] ["places"] (zag zdA) := ⟨rfl, rfl, rfl, by decide +kernel, rfl, by decide +kernel, by decide +kernel⟩
set_option maxHeartbeats 4000000 in
theorem zo1 {P : Program} {w : World} {K : PySem.W.Frag} {mg : Str → Option Value} {base : Heap} {f : Addr} {fd : FuncData} {k : Nat} (F : Fun K "on_one" "on_one" zdA f fd) (hm : mg "on_one" = some (.ref f)) (hb : zbg K fd ["places"] []) (n_len : mg "len" = none) (n_all : mg "all" = none) (F_through : zaC P w K mg base k "through" zaS) (F_lies : zaC P w K mg base k "lies" zdO) : zaC P w K mg base (k + 1) "on_one" zbL := by
 refine zaC.mk' (own' := []) F zkf hm hb rfl rfl fun X E hX C L => ?_
 obtain ⟨cdv, A, outer, s, H, rfl⟩ := hX
 have nd := zkf.nd
 exact (@zah _ _ _ _ _ _ _ _ _ _ (@zfv _ _ _ _ _ _ _ _ _ _ _ _ _ _ _ _ _ _ _ _ 1 C.calm nd (LC.of (k := 1) (NY := ["place", "places", "others", "line"]) (N := ["places", "others", "line"]) (sc0 := (zag zdA)) rfl rfl (by decide +kernel)) rfl (@zcl _ _ _ _ _ (@zaa _ _ 0 _ _ (by rfl) (by walk_at "o3") (by decide) (by decide))) (fun _ _ _ _ nd2 => ⟨(@zaJ _ _ 0 _ nd2 (by rfl) (by walk_at "o2") (by walk_at "o4")), (@zfh _ _ _ _ (@zaH _ _ _ _ _ _ _ _ _ (@zeS _ _ _ (C.lc _ _ _ _ _ _)) (@zaa _ _ 0 _ _ (by rfl) (by walk_at "o3") (by decide) (by decide)) (@zam _ _ _ _ _ _ _ (@zaa _ _ 1 _ _ (by rfl) (by walk_at "o3") (by decide) (by decide)) (@zae _ _ _ _ _) (by intro _ _ ; rfl)) (by first | exact zal _ (by decide) (by decide) | rfl))), (@zaa _ _ 0 _ _ (by rfl) (by walk_at "o3") (by decide) (by decide))⟩) (by rfl) (by rfl) (by rfl) (by rfl) (by intro _ ; rfl)) (@zah _ _ _ _ _ _ _ _ _ _ (@zcL _ _ _ _ _ _ _ _ _ _ _ _ (@zaH _ _ _ _ _ _ _ _ _ (@zdM _ _ _ C) (@zfw _ _ _ _ _ _ _ n_len (@zad _ _ _ _ _ _ (@zaa _ _ 1 _ _ (by rfl) (by walk_at "o3") (by decide) (by decide)) (@zai _ _) (by rfl)) (by rfl) (by rfl) (by rfl)) (@zae _ _ _ _ _) (by first | exact zal _ (by decide) (by decide) | rfl)) (@zak _ _ _ _ _ _ _ (@zaB _ _ _ _ _ _ _ _ (@zep _ _ _ _ _))) (@zaZ _ _ _ _)) (@zah _ _ _ _ _ _ _ _ _ _ (@zan _ _ _ _ _ _ _ _ 2 nd (@zao _ _ _ _ _ _ _ _ _ _ C F_through (@zad _ _ _ _ _ _ (@zam _ _ _ _ _ _ _ (@zaa _ _ 0 _ _ (by rfl) (by walk_at "o3") (by decide) (by decide)) (@zae _ _ _ _ _) (by intro _ _ ; rfl)) (@zad _ _ _ _ _ _ (@zam _ _ _ _ _ _ _ (@zaa _ _ 1 _ _ (by rfl) (by walk_at "o3") (by decide) (by decide)) (@zae _ _ _ _ _) (by intro _ _ ; rfl)) (@zai _ _) (by rfl)) (by rfl)) (by rfl) (by decide) (by rfl) (by rfl)) (by rfl) (by walk_at "o2") (by rfl) (by walk_at "o4")) (@zak _ _ _ _ _ _ _ (@zaB _ _ _ _ _ _ _ _ (@znK _ _ _ _ _ _ _ C.calm n_all (@zad _ _ _ _ _ _ (@DF.val _ _ _ _ (@zfu _ _ _ _ _ _ _ _ _ _ _ _ _ _ _ C.calm (LC.of (k := 1) (NY := ["place", "places", "others", "line"]) (N := ["places", "others", "line"]) (sc0 := (zag zdA)) rfl rfl (by decide +kernel)) rfl (@zcl _ _ _ _ _ (@zaa _ _ 1 _ _ (by rfl) (by walk_at "o3") (by decide) (by decide))) (fun _ _ _ _ nd2 => ⟨(@zaJ _ _ 0 _ nd2 (by rfl) (by walk_at "o2") (by walk_at "o4")), (@zcJ _ _), (@zao _ _ _ _ _ _ _ _ _ _ (C.lc _ _ _ _ _ _) F_lies (@zad _ _ _ _ _ _ (@zaa _ _ 0 _ _ (by rfl) (by walk_at "o3") (by decide) (by decide)) (@zad _ _ _ _ _ _ (@zaa _ _ 3 _ _ (by rfl) (by walk_at "o3") (by decide) (by decide)) (@zai _ _) (by rfl)) (by rfl)) (by rfl) (by decide) (by rfl) (by rfl))⟩) (by intro _ ; rfl))) (@zai _ _) (by rfl)) (by rfl) (by rfl) (by rfl)))))))
abbrev zaW : Stmt := top 26
theorem zdd : zaw ["places", "k", "j", "i"] ["places"] (zag zaW) := ⟨rfl, rfl, rfl, by decide +kernel, rfl, by decide +kernel, by decide +kernel⟩
set_option maxHeartbeats 4000000 in
theorem zfp {P : Program} {w : World} {K : PySem.W.Frag} {mg : Str → Option Value} {base : Heap} {f : Addr} {fd : FuncData} {k : Nat} (F : Fun K "has_three_on_one" "has_three_on_one" zaW f fd) (hm : mg "has_three_on_one" = some (.ref f)) (hb : zbg K fd ["places"] []) (n_range : mg "range" = none) (n_len : mg "len" = none) (F_on_one : zaC P w K mg base k "on_one" zbL) : zaC P w K mg base (k + 1) "has_three_on_one" zaV := by
 refine zaC.mk' (own' := []) F zdd hm hb rfl rfl fun X E hX C L => ?_
 obtain ⟨cdv, A, outer, s, H, rfl⟩ := hX
 have nd := zdd.nd
 exact (@zah _ _ _ _ _ _ _ _ _ _ (@zdi _ _ _ _ _ _ _ _ _ _ _ _ L C.calm (@zbh _ _ _ _ _ _ _ n_range (@zad _ _ _ _ _ _ (@zfw _ _ _ _ _ _ _ n_len (@zad _ _ _ _ _ _ (@zaa _ _ 0 _ _ (by rfl) (by walk_at "o3") (by decide) (by decide)) (@zai _ _) (by rfl)) (by rfl) (by rfl) (by rfl)) (@zai _ _) (by rfl)) (by rfl) (by rfl)) (@zaJ _ _ 1 _ nd (by rfl) (by walk_at "o2") (by walk_at "o4")) (@zak _ _ _ _ _ _ _ (@zdi _ _ _ _ _ _ _ _ _ _ _ _ L C.calm (@zbh _ _ _ _ _ _ _ n_range (@zad _ _ _ _ _ _ (@zaa _ _ 1 _ _ (by rfl) (by walk_at "o3") (by decide) (by decide)) (@zai _ _) (by rfl)) (by rfl) (by rfl)) (@zaJ _ _ 2 _ nd (by rfl) (by walk_at "o2") (by walk_at "o4")) (@zak _ _ _ _ _ _ _ (@zdi _ _ _ _ _ _ _ _ _ _ _ _ L C.calm (@zbh _ _ _ _ _ _ _ n_range (@zad _ _ _ _ _ _ (@zaa _ _ 2 _ _ (by rfl) (by walk_at "o3") (by decide) (by decide)) (@zai _ _) (by rfl)) (by rfl) (by rfl)) (@zaJ _ _ 3 _ nd (by rfl) (by walk_at "o2") (by walk_at "o4")) (@zak _ _ _ _ _ _ _ (@zcL _ _ _ _ _ _ _ _ _ _ _ _ (@zcO _ _ _ _ (@zao _ _ _ _ _ _ _ _ _ _ C F_on_one (@zad _ _ _ _ _ _ (@DF.val _ _ _ _ (@zbJ _ _ _ _ _ (@zad _ _ _ _ _ _ (@zam _ _ _ _ _ _ _ (@zaa _ _ 0 _ _ (by rfl) (by walk_at "o3") (by decide) (by decide)) (@zaa _ _ 3 _ _ (by rfl) (by walk_at "o3") (by decide) (by decide)) (by intro _ _ ; rfl)) (@zad _ _ _ _ _ _ (@zam _ _ _ _ _ _ _ (@zaa _ _ 0 _ _ (by rfl) (by walk_at "o3") (by decide) (by decide)) (@zaa _ _ 2 _ _ (by rfl) (by walk_at "o3") (by decide) (by decide)) (by intro _ _ ; rfl)) (@zad _ _ _ _ _ _ (@zam _ _ _ _ _ _ _ (@zaa _ _ 0 _ _ (by rfl) (by walk_at "o3") (by decide) (by decide)) (@zaa _ _ 1 _ _ (by rfl) (by walk_at "o3") (by decide) (by decide)) (by intro _ _ ; rfl)) (@zai _ _) (by rfl)) (by rfl)) (by rfl)))) (@zai _ _) (by rfl)) (by rfl) (by decide) (by rfl) (by rfl)) (by intro _ ; rfl)) (@zak _ _ _ _ _ _ _ (@zaB _ _ _ _ _ _ _ _ (@zep _ _ _ _ _))) (@zaZ _ _ _ _))) (by rfl) (by intro _ ; rfl))) (by rfl) (by intro _ ; rfl))) (by rfl) (by intro _ ; rfl)) (@zak _ _ _ _ _ _ _ (@zaB _ _ _ _ _ _ _ _ (@zep _ _ _ _ _))))
abbrev zcY : Stmt := top 7
theorem zhr : zaw ["thing"] ["thing"] (zag zcY) := ⟨rfl, rfl, rfl, by decide +kernel, rfl, by decide +kernel, by decide +kernel⟩
set_option maxHeartbeats 4000000 in
theorem zkN {P : Program} {w : World} {K : PySem.W.Frag} {mg : Str → Option Value} {base : Heap} {f : Addr} {fd : FuncData} {k : Nat} (F : Fun K "is_whole" "is_whole" zcY f fd) (hm : mg "is_whole" = some (.ref f)) (hb : zbg K fd ["thing"] []) (n_isinstance : mg "isinstance" = none) (n_int : mg "int" = none) (n_bool : mg "bool" = none) : zaC P w K mg base (k + 1) "is_whole" zcp := by
 refine zaC.mk' (own' := []) F zhr hm hb rfl rfl fun X E hX C L => ?_
 obtain ⟨cdv, A, outer, s, H, rfl⟩ := hX
 have nd := zhr.nd
 exact (@zak _ _ _ _ _ _ _ (@zaB _ _ _ _ _ _ _ _ (@zhV _ _ _ _ _ _ _ _ (@zeZ _ _ _ _ _ _ _ n_isinstance (@zad _ _ _ _ _ _ (@zaa _ _ 0 _ _ (by rfl) (by walk_at "o3") (by decide) (by decide)) (@zad _ _ _ _ _ _ (@ziG _ _ _ _ _ n_int zqI (by rfl) (by decide) (by decide)) (@zai _ _) (by rfl)) (by rfl)) (by rfl) (by rfl) (by rfl)) (@zhU _ _ _ _ _ _ (@zqC _ _ _ _ _ (@zeZ _ _ _ _ _ _ _ n_isinstance (@zad _ _ _ _ _ _ (@zaa _ _ 0 _ _ (by rfl) (by walk_at "o3") (by decide) (by decide)) (@zad _ _ _ _ _ _ (@ziG _ _ _ _ _ n_bool zky (by rfl) (by decide) (by decide)) (@zai _ _) (by rfl)) (by rfl)) (by rfl) (by rfl) (by rfl)))))))
abbrev zbt : Stmt := top 9
theorem zfb : zaw ["three"] ["three"] (zag zbt) := ⟨rfl, rfl, rfl, by decide +kernel, rfl, by decide +kernel, by decide +kernel⟩
set_option maxHeartbeats 4000000 in
theorem zhJ {P : Program} {w : World} {K : PySem.W.Frag} {mg : Str → Option Value} {base : Heap} {f : Addr} {fd : FuncData} {k : Nat} (F : Fun K "makes_place" "makes_place" zbt f fd) (hm : mg "makes_place" = some (.ref f)) (hb : zbg K fd ["three"] []) (n_all : mg "all" = none) (F_is_whole : zaC P w K mg base k "is_whole" zcp) : zaC P w K mg base (k + 1) "makes_place" zbn := by
 refine zaC.mk' (own' := []) F zfb hm hb rfl rfl fun X E hX C L => ?_
 obtain ⟨cdv, A, outer, s, H, rfl⟩ := hX
 have nd := zfb.nd
 exact (@zak _ _ _ _ _ _ _ (@zaB _ _ _ _ _ _ _ _ (@zhV _ _ _ _ _ _ _ _ (@znK _ _ _ _ _ _ _ C.calm n_all (@zad _ _ _ _ _ _ (@DF.val _ _ _ _ (@zfu _ _ _ _ _ _ _ _ _ _ _ _ _ _ _ C.calm (LC.of (k := 1) (NY := ["thing", "three"]) (N := ["three"]) (sc0 := (zag zbt)) rfl rfl (by decide +kernel)) rfl (@zcl _ _ _ _ _ (@zaa _ _ 0 _ _ (by rfl) (by walk_at "o3") (by decide) (by decide))) (fun _ _ _ _ nd2 => ⟨(@zaJ _ _ 0 _ nd2 (by rfl) (by walk_at "o2") (by walk_at "o4")), (@zcJ _ _), (@zao _ _ _ _ _ _ _ _ _ _ (C.lc _ _ _ _ _ _) F_is_whole (@zad _ _ _ _ _ _ (@zaa _ _ 0 _ _ (by rfl) (by walk_at "o3") (by decide) (by decide)) (@zai _ _) (by rfl)) (by rfl) (by decide) (by rfl) (by rfl))⟩) (by intro _ ; rfl))) (@zai _ _) (by rfl)) (by rfl) (by rfl) (by rfl)) (@zhU _ _ _ _ _ _ (@zc4 _ _ _ _ _ _ _ _ _ (@zeS _ _ _ C) (@zaa _ _ 0 _ _ (by rfl) (by walk_at "o3") (by decide) (by decide)) (@zce _ _ _ _ _ _ (@zad _ _ _ _ _ _ (@zae _ _ _ _ _) (@zad _ _ _ _ _ _ (@zae _ _ _ _ _) (@zad _ _ _ _ _ _ (@zae _ _ _ _ _) (@zai _ _) (by rfl)) (by rfl)) (by rfl))) (by first | exact zal _ (by decide) (by decide) | rfl))))))
abbrev zcZ : Stmt := top 8
theorem zhs : zaw ["thing"] ["thing"] (zag zcZ) := ⟨rfl, rfl, rfl, by decide +kernel, rfl, by decide +kernel, by decide +kernel⟩
set_option maxHeartbeats 4000000 in
theorem zkO {P : Program} {w : World} {K : PySem.W.Frag} {mg : Str → Option Value} {base : Heap} {f : Addr} {fd : FuncData} {k : Nat} (F : Fun K "is_place" "is_place" zcZ f fd) (hm : mg "is_place" = some (.ref f)) (hb : zbg K fd ["thing"] []) (n_isinstance : mg "isinstance" = none) (n_tuple : mg "tuple" = none) (n_len : mg "len" = none) (F_makes_place : zaC P w K mg base k "makes_place" zbn) (F_in_form : zaC P w K mg base k "in_form" zci) : zaC P w K mg base (k + 1) "is_place" zav := by
 refine zaC.mk' (own' := []) F zhs hm hb rfl rfl fun X E hX C L => ?_
 obtain ⟨cdv, A, outer, s, H, rfl⟩ := hX
 have nd := zhs.nd
 exact (@zah _ _ _ _ _ _ _ _ _ _ (@zcL _ _ _ _ _ _ _ _ _ _ _ _ (@DW.dt _ _ _ _ (@ziI _ _ _ _ _ _ _ _ (@zdL _ _ _ _ _ (@zcO _ _ _ _ (@zeZ _ _ _ _ _ _ _ n_isinstance (@zad _ _ _ _ _ _ (@zaa _ _ 0 _ _ (by rfl) (by walk_at "o3") (by decide) (by decide)) (@zad _ _ _ _ _ _ (@ziG _ _ _ _ _ n_tuple ziL (by rfl) (by decide) (by decide)) (@zai _ _) (by rfl)) (by rfl)) (by rfl) (by rfl) (by rfl)) (by intro _ ; rfl))) (@zgK _ _ _ _ _ (@zaH _ _ _ _ _ _ _ _ _ (@zeS _ _ _ C) (@zfw _ _ _ _ _ _ _ n_len (@zad _ _ _ _ _ _ (@zaa _ _ 0 _ _ (by rfl) (by walk_at "o3") (by decide) (by decide)) (@zai _ _) (by rfl)) (by rfl) (by rfl) (by rfl)) (@zae _ _ _ _ _) (by first | exact zal _ (by decide) (by decide) | rfl))))) (@zak _ _ _ _ _ _ _ (@zaB _ _ _ _ _ _ _ _ (@zep _ _ _ _ _))) (@zaZ _ _ _ _)) (@zah _ _ _ _ _ _ _ _ _ _ (@zcL _ _ _ _ _ _ _ _ _ _ _ _ (@zdL _ _ _ _ _ (@zcO _ _ _ _ (@zao _ _ _ _ _ _ _ _ _ _ C F_makes_place (@zad _ _ _ _ _ _ (@zaa _ _ 0 _ _ (by rfl) (by walk_at "o3") (by decide) (by decide)) (@zai _ _) (by rfl)) (by rfl) (by decide) (by rfl) (by rfl)) (by intro _ ; rfl))) (@zak _ _ _ _ _ _ _ (@zaB _ _ _ _ _ _ _ _ (@zep _ _ _ _ _))) (@zaZ _ _ _ _)) (@zak _ _ _ _ _ _ _ (@zaB _ _ _ _ _ _ _ _ (@zc4 _ _ _ _ _ _ _ _ _ (@zdM _ _ _ C) (@zao _ _ _ _ _ _ _ _ _ _ C F_in_form (@zad _ _ _ _ _ _ (@zaa _ _ 0 _ _ (by rfl) (by walk_at "o3") (by decide) (by decide)) (@zai _ _) (by rfl)) (by rfl) (by decide) (by rfl) (by rfl)) (@zaa _ _ 0 _ _ (by rfl) (by walk_at "o3") (by decide) (by decide)) (by first | exact zal _ (by decide) (by decide) | rfl))))))
abbrev zcx : Stmt := top 20
theorem zht : zaw ["thing"] ["thing"] (zag zcx) := ⟨rfl, rfl, rfl, by decide +kernel, rfl, by decide +kernel, by decide +kernel⟩
set_option maxHeartbeats 4000000 in
theorem zkP {P : Program} {w : World} {K : PySem.W.Frag} {mg : Str → Option Value} {base : Heap} {f : Addr} {fd : FuncData} {k : Nat} (F : Fun K "is_floor" "is_floor" zcx f fd) (hm : mg "is_floor" = some (.ref f)) (hb : zbg K fd ["thing"] []) (n_isinstance : mg "isinstance" = none) (n_list : mg "list" = none) (n_len : mg "len" = none) (n_all : mg "all" = none) (n_set : mg "set" = none) (k_MOST_PEGS_is : ∃ u v, mg "MOST_PEGS" = some u ∧ zcb v u ∧ ∀ G, Rep K mg G zc7 v) (F_is_place : zaC P w K mg base k "is_place" zav) : zaC P w K mg base (k + 1) "is_floor" zaG := by
 refine zaC.mk' (own' := []) F zht hm hb rfl rfl fun X E hX C L => ?_
 obtain ⟨cdv, A, outer, s, H, rfl⟩ := hX
 have nd := zht.nd
 exact (@zah _ _ _ _ _ _ _ _ _ _ (@zcL _ _ _ _ _ _ _ _ _ _ _ _ (@DW.dt _ _ _ _ (@ziI _ _ _ _ _ _ _ _ (@zdL _ _ _ _ _ (@zcO _ _ _ _ (@zeZ _ _ _ _ _ _ _ n_isinstance (@zad _ _ _ _ _ _ (@zaa _ _ 0 _ _ (by rfl) (by walk_at "o3") (by decide) (by decide)) (@zad _ _ _ _ _ _ (@ziG _ _ _ _ _ n_list znJ (by rfl) (by decide) (by decide)) (@zai _ _) (by rfl)) (by rfl)) (by rfl) (by rfl) (by rfl)) (by intro _ ; rfl))) (@zgK _ _ _ _ _ (@zdL _ _ _ _ _ (@znI _ _ _ _ _ _ _ _ _ _ _ _ _ (@zt5 _) (@zt5 _) (@zae _ _ _ _ _) (@zfw _ _ _ _ _ _ _ n_len (@zad _ _ _ _ _ _ (@zaa _ _ 0 _ _ (by rfl) (by walk_at "o3") (by decide) (by decide)) (@zai _ _) (by rfl)) (by rfl) (by rfl) (by rfl)) (@de_k _ _ _ _ _ k_MOST_PEGS_is (by rfl) (by decide)) (by with_unfolding_all rfl)))))) (@zak _ _ _ _ _ _ _ (@zaB _ _ _ _ _ _ _ _ (@zep _ _ _ _ _))) (@zaZ _ _ _ _)) (@zah _ _ _ _ _ _ _ _ _ _ (@zcL _ _ _ _ _ _ _ _ _ _ _ _ (@zdL _ _ _ _ _ (@zcO _ _ _ _ (@znK _ _ _ _ _ _ _ C.calm n_all (@zad _ _ _ _ _ _ (@DF.val _ _ _ _ (@zfu _ _ _ _ _ _ _ _ _ _ _ _ _ _ _ C.calm (LC.of (k := 1) (NY := ["member", "thing"]) (N := ["thing"]) (sc0 := (zag zcx)) rfl rfl (by decide +kernel)) rfl (@zcl _ _ _ _ _ (@zaa _ _ 0 _ _ (by rfl) (by walk_at "o3") (by decide) (by decide))) (fun _ _ _ _ nd2 => ⟨(@zaJ _ _ 0 _ nd2 (by rfl) (by walk_at "o2") (by walk_at "o4")), (@zcJ _ _), (@zao _ _ _ _ _ _ _ _ _ _ (C.lc _ _ _ _ _ _) F_is_place (@zad _ _ _ _ _ _ (@zaa _ _ 0 _ _ (by rfl) (by walk_at "o3") (by decide) (by decide)) (@zai _ _) (by rfl)) (by rfl) (by decide) (by rfl) (by rfl))⟩) (by intro _ ; rfl))) (@zai _ _) (by rfl)) (by rfl) (by rfl) (by rfl)) (by intro _ ; rfl))) (@zak _ _ _ _ _ _ _ (@zaB _ _ _ _ _ _ _ _ (@zep _ _ _ _ _))) (@zaZ _ _ _ _)) (@zak _ _ _ _ _ _ _ (@zaB _ _ _ _ _ _ _ _ (@zc4 _ _ _ _ _ _ _ _ _ (@zdM _ _ _ C) (@zmz _ _ _ C n_len n_set _ _ _ _ _ _ (@zaa _ _ 0 _ _ (by rfl) (by walk_at "o3") (by decide) (by decide)) (by rfl) (by rfl) (by rfl) (by rfl) (by rfl) (by rfl)) (@zfw _ _ _ _ _ _ _ n_len (@zad _ _ _ _ _ _ (@zaa _ _ 0 _ _ (by rfl) (by walk_at "o3") (by decide) (by decide)) (@zai _ _) (by rfl)) (by rfl) (by rfl) (by rfl)) (by first | exact zal _ (by decide) (by decide) | rfl))))))
abbrev zbC : Stmt := top 25
theorem zeG : zaw ["places", "many"] ["places", "many"] (zag zbC) := ⟨rfl, rfl, rfl, by decide +kernel, rfl, by decide +kernel, by decide +kernel⟩
set_option maxHeartbeats 4000000 in
theorem zhu {P : Program} {w : World} {K : PySem.W.Frag} {mg : Str → Option Value} {base : Heap} {f : Addr} {fd : FuncData} {k : Nat} (F : Fun K "look_at_bent" "look_at_bent" zbC f fd) (hm : mg "look_at_bent" = some (.ref f)) (hb : zbg K fd ["places", "many"] []) {C_NoBow : Addr} (c_NoBow : mg "NoBow" = some (.ref C_NoBow)) (y_NoBow : PySem.W.excIn K C_NoBow [.type "ValueError", .type "Exception", .type "BaseException", .type "object"] "ValueError.__new__" = true) (x_NoBow : zno K mg "NoBow" C_NoBow) (n_len : mg "len" = none) (F_is_floor : zaC P w K mg base k "is_floor" zaG) (F_has_three_on_one : zaC P w K mg base k "has_three_on_one" zaV) : zaC P w K mg base (k + 1) "look_at_bent" zaQ := by
 refine zaC.mk' (own' := []) F zeG hm hb rfl rfl fun X E hX C L => ?_
 obtain ⟨cdv, A, outer, s, H, rfl⟩ := hX
 have nd := zeG.nd
 exact (@zak _ _ _ _ _ _ _ (@zcL _ _ _ _ _ _ _ _ _ _ _ _ (@DW.dt _ _ _ _ (@ziI _ _ _ _ _ _ _ _ (@zdL _ _ _ _ _ (@zcO _ _ _ _ (@zao _ _ _ _ _ _ _ _ _ _ C F_is_floor (@zad _ _ _ _ _ _ (@zaa _ _ 0 _ _ (by rfl) (by walk_at "o3") (by decide) (by decide)) (@zai _ _) (by rfl)) (by rfl) (by decide) (by rfl) (by rfl)) (by intro _ ; rfl))) (@ziI _ _ _ _ _ _ _ _ (@zaH _ _ _ _ _ _ _ _ _ (@zeS _ _ _ C) (@zfw _ _ _ _ _ _ _ n_len (@zad _ _ _ _ _ _ (@zaa _ _ 0 _ _ (by rfl) (by walk_at "o3") (by decide) (by decide)) (@zai _ _) (by rfl)) (by rfl) (by rfl) (by rfl)) (@zaa _ _ 1 _ _ (by rfl) (by walk_at "o3") (by decide) (by decide)) (by first | exact zal _ (by decide) (by decide) | rfl)) (@zgK _ _ _ _ _ (@zcO _ _ _ _ (@zao _ _ _ _ _ _ _ _ _ _ C F_has_three_on_one (@zad _ _ _ _ _ _ (@zaa _ _ 0 _ _ (by rfl) (by walk_at "o3") (by decide) (by decide)) (@zai _ _) (by rfl)) (by rfl) (by decide) (by rfl) (by rfl)) (by intro _ ; rfl)))))) (@zak _ _ _ _ _ _ _ (@znN _ _ _ _ _ _ _ _ _ _ _ _ _ _ _ _ _ _ _ _ _ _ _ _ _ _ y_NoBow x_NoBow (by rfl) (by decide))) (@zaZ _ _ _ _)))
abbrev zdB : Stmt := top 22
theorem zkg : zaw ["numbers", "part", "number"] ["numbers"] (zag zdB) := ⟨rfl, rfl, rfl, by decide +kernel, rfl, by decide +kernel, by decide +kernel⟩
set_option maxHeartbeats 4000000 in
theorem zo2 {P : Program} {w : World} {K : PySem.W.Frag} {mg : Str → Option Value} {base : Heap} {f : Addr} {fd : FuncData} {k : Nat} (F : Fun K "lowest" "lowest" zdB f fd) (hm : mg "lowest" = some (.ref f)) (hb : zbg K fd ["numbers"] []) (n_tuple : mg "tuple" = none) (F_divisor : zaC P w K mg base k "divisor" zbK) : zaC P w K mg base (k + 1) "lowest" zeP := by
 refine zaC.mk' (own' := []) F zkg hm hb rfl rfl fun X E hX C L => ?_
 obtain ⟨cdv, A, outer, s, H, rfl⟩ := hX
 have nd := zkg.nd
 exact (@zah _ _ _ _ _ _ _ _ _ _ (@zan _ _ _ _ _ _ _ _ 1 nd (@zae _ _ _ _ _) (by rfl) (by walk_at "o2") (by rfl) (by walk_at "o4")) (@zah _ _ _ _ _ _ _ _ _ _ (@zdi _ _ _ _ _ _ _ _ _ _ _ _ L C.calm (@zcl _ _ _ _ _ (@zaa _ _ 0 _ _ (by rfl) (by walk_at "o3") (by decide) (by decide))) (@zaJ _ _ 2 _ nd (by rfl) (by walk_at "o2") (by walk_at "o4")) (@zak _ _ _ _ _ _ _ (@zan _ _ _ _ _ _ _ _ 1 nd (@zao _ _ _ _ _ _ _ _ _ _ C F_divisor (@zad _ _ _ _ _ _ (@zaa _ _ 1 _ _ (by rfl) (by walk_at "o3") (by decide) (by decide)) (@zad _ _ _ _ _ _ (@zaa _ _ 2 _ _ (by rfl) (by walk_at "o3") (by decide) (by decide)) (@zai _ _) (by rfl)) (by rfl)) (by rfl) (by decide) (by rfl) (by rfl)) (by rfl) (by walk_at "o2") (by rfl) (by walk_at "o4"))) (by rfl) (by intro _ ; rfl)) (@zah _ _ _ _ _ _ _ _ _ _ (@zcL _ _ _ _ _ _ _ _ _ _ _ _ (@zaH _ _ _ _ _ _ _ _ _ (@zsl _) (@zam _ _ _ _ _ _ _ (@DF.val _ _ _ _ (@zfu _ _ _ _ _ _ _ _ _ _ _ _ _ _ _ C.calm (LC.of (k := 1) (NY := ["number", "numbers", "part", "?number"]) (N := ["numbers", "part", "number"]) (sc0 := (zag zdB)) rfl rfl (by decide +kernel)) rfl (@zcl _ _ _ _ _ (@zaa _ _ 0 _ _ (by rfl) (by walk_at "o3") (by decide) (by decide))) (fun _ _ _ _ nd2 => ⟨(@zaJ _ _ 0 _ nd2 (by rfl) (by walk_at "o2") (by walk_at "o4")), (@zfh _ _ _ _ (@zaH _ _ _ _ _ _ _ _ _ (@zeS _ _ _ (C.lc _ _ _ _ _ _)) (@zaa _ _ 0 _ _ (by rfl) (by walk_at "o3") (by decide) (by decide)) (@zae _ _ _ _ _) (by first | exact zal _ (by decide) (by decide) | rfl))), (@zaa _ _ 0 _ _ (by rfl) (by walk_at "o3") (by decide) (by decide))⟩) (by intro _ ; rfl))) (@zae _ _ _ _ _) (by intro _ _ ; rfl)) (@zae _ _ _ _ _) (by first | exact zal _ (by decide) (by decide) | rfl)) (@zak _ _ _ _ _ _ _ (@zan _ _ _ _ _ _ _ _ 1 nd (@zjB _ _ _ _ _ (@zaa _ _ 1 _ _ (by rfl) (by walk_at "o3") (by decide) (by decide))) (by rfl) (by walk_at "o2") (by rfl) (by walk_at "o4"))) (@zaZ _ _ _ _)) (@zak _ _ _ _ _ _ _ (@zaB _ _ _ _ _ _ _ _ (@zle _ _ _ _ _ _ _ n_tuple (@zad _ _ _ _ _ _ (@DF.val _ _ _ _ (@zfu _ _ _ _ _ _ _ _ _ _ _ _ _ _ _ C.calm (LC.of (k := 1) (NY := ["number", "numbers", "part", "?number"]) (N := ["numbers", "part", "number"]) (sc0 := (zag zdB)) rfl rfl (by decide +kernel)) rfl (@zcl _ _ _ _ _ (@zaa _ _ 0 _ _ (by rfl) (by walk_at "o3") (by decide) (by decide))) (fun _ _ _ _ nd2 => ⟨(@zaJ _ _ 0 _ nd2 (by rfl) (by walk_at "o2") (by walk_at "o4")), (@zcJ _ _), (@zd3 _ _ _ _ _ _ _ (@zaa _ _ 0 _ _ (by rfl) (by walk_at "o3") (by decide) (by decide)) (@zaa _ _ 2 _ _ (by rfl) (by walk_at "o3") (by decide) (by decide)))⟩) (by intro _ ; rfl))) (@zai _ _) (by rfl)) (by rfl) (by rfl) (by rfl)))))))
abbrev zbb : Stmt := top 27
theorem zfc : zaw ["pair", "one", "other", "squares", "mixed"] ["pair"] (zag zbb) := ⟨rfl, rfl, rfl, by decide +kernel, rfl, by decide +kernel, by decide +kernel⟩
set_option maxHeartbeats 4000000 in
theorem zhK {P : Program} {w : World} {K : PySem.W.Frag} {mg : Str → Option Value} {base : Heap} {f : Addr} {fd : FuncData} {k : Nat} (F : Fun K "pair_as_bow" "pair_as_bow" zbb f fd) (hm : mg "pair_as_bow" = some (.ref f)) (hb : zbg K fd ["pair"] []) (n_range : mg "range" = none) : zaC P w K mg base (k + 1) "pair_as_bow" zbq := by
 refine zaC.mk' (own' := []) F zfc hm hb rfl rfl fun X E hX C L => ?_
 obtain ⟨cdv, A, outer, s, H, rfl⟩ := hX
 have nd := zfc.nd
 exact (@zah _ _ _ _ _ _ _ _ _ _ (@zan _ _ _ _ _ _ _ _ 1 nd (@zam _ _ _ _ _ _ _ (@zaa _ _ 0 _ _ (by rfl) (by walk_at "o3") (by decide) (by decide)) (@zae _ _ _ _ _) (by intro _ _ ; rfl)) (by rfl) (by walk_at "o2") (by rfl) (by walk_at "o4")) (@zah _ _ _ _ _ _ _ _ _ _ (@zan _ _ _ _ _ _ _ _ 2 nd (@zam _ _ _ _ _ _ _ (@zaa _ _ 0 _ _ (by rfl) (by walk_at "o3") (by decide) (by decide)) (@zae _ _ _ _ _) (by intro _ _ ; rfl)) (by rfl) (by walk_at "o2") (by rfl) (by walk_at "o4")) (@zah _ _ _ _ _ _ _ _ _ _ (@zfv _ _ _ _ _ _ _ _ _ _ _ _ _ _ _ _ _ _ _ _ 3 C.calm nd (LC.of (k := 1) (NY := ["k", "pair", "one", "other", "squares", "mixed"]) (N := ["pair", "one", "other", "squares", "mixed"]) (sc0 := (zag zbb)) rfl rfl (by decide +kernel)) rfl (@zbh _ _ _ _ _ _ _ n_range (@zad _ _ _ _ _ _ (@zae _ _ _ _ _) (@zai _ _) (by rfl)) (by rfl) (by rfl)) (fun _ _ _ _ nd2 => ⟨(@zaJ _ _ 0 _ nd2 (by rfl) (by walk_at "o2") (by walk_at "o4")), (@zcJ _ _), (@zaq _ _ _ _ _ _ _ (@zam _ _ _ _ _ _ _ (@zaa _ _ 2 _ _ (by rfl) (by walk_at "o3") (by decide) (by decide)) (@zaa _ _ 0 _ _ (by rfl) (by walk_at "o3") (by decide) (by decide)) (by intro _ _ ; rfl)) (@zam _ _ _ _ _ _ _ (@zaa _ _ 3 _ _ (by rfl) (by walk_at "o3") (by decide) (by decide)) (@zaa _ _ 0 _ _ (by rfl) (by walk_at "o3") (by decide) (by decide)) (by intro _ _ ; rfl)))⟩) (by rfl) (by rfl) (by rfl) (by rfl) (by intro _ ; rfl)) (@zah _ _ _ _ _ _ _ _ _ _ (@zfv _ _ _ _ _ _ _ _ _ _ _ _ _ _ _ _ _ _ _ _ 4 C.calm nd (LC.of (k := 2) (NY := ["j", "k", "pair", "one", "other", "squares", "mixed"]) (N := ["pair", "one", "other", "squares", "mixed"]) (sc0 := (zag zbb)) rfl rfl (by decide +kernel)) rfl (@zcl _ _ _ _ _ (@zce _ _ _ _ _ _ (@zad _ _ _ _ _ _ (@zce _ _ _ _ _ _ (@zad _ _ _ _ _ _ (@zae _ _ _ _ _) (@zad _ _ _ _ _ _ (@zae _ _ _ _ _) (@zai _ _) (by rfl)) (by rfl))) (@zad _ _ _ _ _ _ (@zce _ _ _ _ _ _ (@zad _ _ _ _ _ _ (@zae _ _ _ _ _) (@zad _ _ _ _ _ _ (@zae _ _ _ _ _) (@zai _ _) (by rfl)) (by rfl))) (@zad _ _ _ _ _ _ (@zce _ _ _ _ _ _ (@zad _ _ _ _ _ _ (@zae _ _ _ _ _) (@zad _ _ _ _ _ _ (@zae _ _ _ _ _) (@zai _ _) (by rfl)) (by rfl))) (@zai _ _) (by rfl)) (by rfl)) (by rfl)))) (fun _ _ _ _ nd2 => ⟨(@zhX _ _ _ _ [0, 1] 2 (XC.calm (C.lc _ _ _ _ _ _)) (@zbm _ _ _ _ _ (@zbU _ _ (0) _ nd2 rfl (by walk_at "o2") (by walk_at "o4")) (@zbm _ _ _ _ _ (@zbU _ _ (1) _ nd2 rfl (by walk_at "o2") (by walk_at "o4")) (@zfZ _) (by rfl)) (by rfl)) (by rfl) (by rfl) (by rfl)), (@zcJ _ _), (@za6 _ _ _ _ _ _ _ (@zaq _ _ _ _ _ _ _ (@zam _ _ _ _ _ _ _ (@zaa _ _ 3 _ _ (by rfl) (by walk_at "o3") (by decide) (by decide)) (@zaa _ _ 0 _ _ (by rfl) (by walk_at "o3") (by decide) (by decide)) (by intro _ _ ; rfl)) (@zam _ _ _ _ _ _ _ (@zaa _ _ 4 _ _ (by rfl) (by walk_at "o3") (by decide) (by decide)) (@zaa _ _ 1 _ _ (by rfl) (by walk_at "o3") (by decide) (by decide)) (by intro _ _ ; rfl))) (@zaq _ _ _ _ _ _ _ (@zam _ _ _ _ _ _ _ (@zaa _ _ 3 _ _ (by rfl) (by walk_at "o3") (by decide) (by decide)) (@zaa _ _ 1 _ _ (by rfl) (by walk_at "o3") (by decide) (by decide)) (by intro _ _ ; rfl)) (@zam _ _ _ _ _ _ _ (@zaa _ _ 4 _ _ (by rfl) (by walk_at "o3") (by decide) (by decide)) (@zaa _ _ 0 _ _ (by rfl) (by walk_at "o3") (by decide) (by decide)) (by intro _ _ ; rfl))))⟩) (by rfl) (by rfl) (by rfl) (by rfl) (by intro _ ; rfl)) (@zak _ _ _ _ _ _ _ (@zaB _ _ _ _ _ _ _ _ (@za6 _ _ _ _ _ _ _ (@zaa _ _ 3 _ _ (by rfl) (by walk_at "o3") (by decide) (by decide)) (@zaa _ _ 4 _ _ (by rfl) (by walk_at "o3") (by decide) (by decide)))))))))
abbrev zeb : Stmt := top 24
theorem zkh : zaw ["five", "one", "other", "part", "less", "sixes"] ["five"] (zag zeb) := ⟨rfl, rfl, rfl, by decide +kernel, rfl, by decide +kernel, by decide +kernel⟩
set_option maxHeartbeats 4000000 in
theorem zo3 {P : Program} {w : World} {K : PySem.W.Frag} {mg : Str → Option Value} {base : Heap} {f : Addr} {fd : FuncData} {k : Nat} (F : Fun K "bow_of" "bow_of" zeb f fd) (hm : mg "bow_of" = some (.ref f)) (hb : zbg K fd ["five"] []) (n_zip : mg "zip" = none) (F_look_at_bent : zaC P w K mg base k "look_at_bent" zaQ) (F_through : zaC P w K mg base k "through" zaS) (F_dot : zaC P w K mg base k "dot" zhc) (F_pair_as_bow : zaC P w K mg base k "pair_as_bow" zbq) (F_lowest : zaC P w K mg base k "lowest" zeP) : zaC P w K mg base (k + 1) "bow_of" zbG := by
 refine zaC.mk' (own' := []) F zkh hm hb rfl rfl fun X E hX C L => ?_
 obtain ⟨cdv, A, outer, s, H, rfl⟩ := hX
 have nd := zkh.nd
 exact (@zah _ _ _ _ _ _ _ _ _ _ (@zsg _ _ _ _ _ _ _ (@zao _ _ _ _ _ _ _ _ _ _ C F_look_at_bent (@zad _ _ _ _ _ _ (@zaa _ _ 0 _ _ (by rfl) (by walk_at "o3") (by decide) (by decide)) (@zad _ _ _ _ _ _ (@zae _ _ _ _ _) (@zai _ _) (by rfl)) (by rfl)) (by rfl) (by decide) (by rfl) (by rfl)) (by rfl)) (@zah _ _ _ _ _ _ _ _ _ _ (@zan _ _ _ _ _ _ _ _ 1 nd (@zce _ _ _ _ _ _ (@zad _ _ _ _ _ _ (@zao _ _ _ _ _ _ _ _ _ _ C F_through (@zad _ _ _ _ _ _ (@zam _ _ _ _ _ _ _ (@zaa _ _ 0 _ _ (by rfl) (by walk_at "o3") (by decide) (by decide)) (@zae _ _ _ _ _) (by intro _ _ ; rfl)) (@zad _ _ _ _ _ _ (@zam _ _ _ _ _ _ _ (@zaa _ _ 0 _ _ (by rfl) (by walk_at "o3") (by decide) (by decide)) (@zae _ _ _ _ _) (by intro _ _ ; rfl)) (@zai _ _) (by rfl)) (by rfl)) (by rfl) (by decide) (by rfl) (by rfl)) (@zad _ _ _ _ _ _ (@zao _ _ _ _ _ _ _ _ _ _ C F_through (@zad _ _ _ _ _ _ (@zam _ _ _ _ _ _ _ (@zaa _ _ 0 _ _ (by rfl) (by walk_at "o3") (by decide) (by decide)) (@zae _ _ _ _ _) (by intro _ _ ; rfl)) (@zad _ _ _ _ _ _ (@zam _ _ _ _ _ _ _ (@zaa _ _ 0 _ _ (by rfl) (by walk_at "o3") (by decide) (by decide)) (@zae _ _ _ _ _) (by intro _ _ ; rfl)) (@zai _ _) (by rfl)) (by rfl)) (by rfl) (by decide) (by rfl) (by rfl)) (@zai _ _) (by rfl)) (by rfl))) (by rfl) (by walk_at "o2") (by rfl) (by walk_at "o4")) (@zah _ _ _ _ _ _ _ _ _ _ (@zan _ _ _ _ _ _ _ _ 2 nd (@zce _ _ _ _ _ _ (@zad _ _ _ _ _ _ (@zao _ _ _ _ _ _ _ _ _ _ C F_through (@zad _ _ _ _ _ _ (@zam _ _ _ _ _ _ _ (@zaa _ _ 0 _ _ (by rfl) (by walk_at "o3") (by decide) (by decide)) (@zae _ _ _ _ _) (by intro _ _ ; rfl)) (@zad _ _ _ _ _ _ (@zam _ _ _ _ _ _ _ (@zaa _ _ 0 _ _ (by rfl) (by walk_at "o3") (by decide) (by decide)) (@zae _ _ _ _ _) (by intro _ _ ; rfl)) (@zai _ _) (by rfl)) (by rfl)) (by rfl) (by decide) (by rfl) (by rfl)) (@zad _ _ _ _ _ _ (@zao _ _ _ _ _ _ _ _ _ _ C F_through (@zad _ _ _ _ _ _ (@zam _ _ _ _ _ _ _ (@zaa _ _ 0 _ _ (by rfl) (by walk_at "o3") (by decide) (by decide)) (@zae _ _ _ _ _) (by intro _ _ ; rfl)) (@zad _ _ _ _ _ _ (@zam _ _ _ _ _ _ _ (@zaa _ _ 0 _ _ (by rfl) (by walk_at "o3") (by decide) (by decide)) (@zae _ _ _ _ _) (by intro _ _ ; rfl)) (@zai _ _) (by rfl)) (by rfl)) (by rfl) (by decide) (by rfl) (by rfl)) (@zai _ _) (by rfl)) (by rfl))) (by rfl) (by walk_at "o2") (by rfl) (by walk_at "o4")) (@zah _ _ _ _ _ _ _ _ _ _ (@zan _ _ _ _ _ _ _ _ 3 nd (@zaq _ _ _ _ _ _ _ (@zao _ _ _ _ _ _ _ _ _ _ C F_dot (@zad _ _ _ _ _ _ (@zam _ _ _ _ _ _ _ (@zaa _ _ 2 _ _ (by rfl) (by walk_at "o3") (by decide) (by decide)) (@zae _ _ _ _ _) (by intro _ _ ; rfl)) (@zad _ _ _ _ _ _ (@zam _ _ _ _ _ _ _ (@zaa _ _ 0 _ _ (by rfl) (by walk_at "o3") (by decide) (by decide)) (@zae _ _ _ _ _) (by intro _ _ ; rfl)) (@zai _ _) (by rfl)) (by rfl)) (by rfl) (by decide) (by rfl) (by rfl)) (@zao _ _ _ _ _ _ _ _ _ _ C F_dot (@zad _ _ _ _ _ _ (@zam _ _ _ _ _ _ _ (@zaa _ _ 2 _ _ (by rfl) (by walk_at "o3") (by decide) (by decide)) (@zae _ _ _ _ _) (by intro _ _ ; rfl)) (@zad _ _ _ _ _ _ (@zam _ _ _ _ _ _ _ (@zaa _ _ 0 _ _ (by rfl) (by walk_at "o3") (by decide) (by decide)) (@zae _ _ _ _ _) (by intro _ _ ; rfl)) (@zai _ _) (by rfl)) (by rfl)) (by rfl) (by decide) (by rfl) (by rfl))) (by rfl) (by walk_at "o2") (by rfl) (by walk_at "o4")) (@zah _ _ _ _ _ _ _ _ _ _ (@zan _ _ _ _ _ _ _ _ 4 nd (@zaq _ _ _ _ _ _ _ (@zao _ _ _ _ _ _ _ _ _ _ C F_dot (@zad _ _ _ _ _ _ (@zam _ _ _ _ _ _ _ (@zaa _ _ 1 _ _ (by rfl) (by walk_at "o3") (by decide) (by decide)) (@zae _ _ _ _ _) (by intro _ _ ; rfl)) (@zad _ _ _ _ _ _ (@zam _ _ _ _ _ _ _ (@zaa _ _ 0 _ _ (by rfl) (by walk_at "o3") (by decide) (by decide)) (@zae _ _ _ _ _) (by intro _ _ ; rfl)) (@zai _ _) (by rfl)) (by rfl)) (by rfl) (by decide) (by rfl) (by rfl)) (@zao _ _ _ _ _ _ _ _ _ _ C F_dot (@zad _ _ _ _ _ _ (@zam _ _ _ _ _ _ _ (@zaa _ _ 1 _ _ (by rfl) (by walk_at "o3") (by decide) (by decide)) (@zae _ _ _ _ _) (by intro _ _ ; rfl)) (@zad _ _ _ _ _ _ (@zam _ _ _ _ _ _ _ (@zaa _ _ 0 _ _ (by rfl) (by walk_at "o3") (by decide) (by decide)) (@zae _ _ _ _ _) (by intro _ _ ; rfl)) (@zai _ _) (by rfl)) (by rfl)) (by rfl) (by decide) (by rfl) (by rfl))) (by rfl) (by walk_at "o2") (by rfl) (by walk_at "o4")) (@zah _ _ _ _ _ _ _ _ _ _ (@zan _ _ _ _ _ _ _ _ 5 nd (@zce _ _ _ _ _ _ (@zad _ _ _ _ _ _ (@zao _ _ _ _ _ _ _ _ _ _ C F_pair_as_bow (@zad _ _ _ _ _ _ (@zaa _ _ 1 _ _ (by rfl) (by walk_at "o3") (by decide) (by decide)) (@zai _ _) (by rfl)) (by rfl) (by decide) (by rfl) (by rfl)) (@zad _ _ _ _ _ _ (@zao _ _ _ _ _ _ _ _ _ _ C F_pair_as_bow (@zad _ _ _ _ _ _ (@zaa _ _ 2 _ _ (by rfl) (by walk_at "o3") (by decide) (by decide)) (@zai _ _) (by rfl)) (by rfl) (by decide) (by rfl) (by rfl)) (@zai _ _) (by rfl)) (by rfl))) (by rfl) (by walk_at "o2") (by rfl) (by walk_at "o4")) (@zak _ _ _ _ _ _ _ (@zaB _ _ _ _ _ _ _ _ (@zao _ _ _ _ _ _ _ _ _ _ C F_lowest (@zad _ _ _ _ _ _ (@DF.val _ _ _ _ (@zfu _ _ _ _ _ _ _ _ _ _ _ _ _ _ _ C.calm (LC.of (k := 2) (NY := ["number", "like", "five", "one", "other", "part", "less", "sixes"]) (N := ["five", "one", "other", "part", "less", "sixes"]) (sc0 := (zag zeb)) rfl rfl (by decide +kernel)) rfl (@zoD _ _ _ _ _ _ _ _ _ _ n_zip (@zad _ _ _ _ _ _ (@zam _ _ _ _ _ _ _ (@zaa _ _ 5 _ _ (by rfl) (by walk_at "o3") (by decide) (by decide)) (@zae _ _ _ _ _) (by intro _ _ ; rfl)) (@zad _ _ _ _ _ _ (@zam _ _ _ _ _ _ _ (@zaa _ _ 5 _ _ (by rfl) (by walk_at "o3") (by decide) (by decide)) (@zae _ _ _ _ _) (by intro _ _ ; rfl)) (@zai _ _) (by rfl)) (by rfl)) (by rfl) (by rfl) (by rfl)) (fun _ _ _ _ nd2 => ⟨(@zhX _ _ _ _ [0, 1] 2 (XC.calm (C.lc _ _ _ _ _ _)) (@zbm _ _ _ _ _ (@zbU _ _ (0) _ nd2 rfl (by walk_at "o2") (by walk_at "o4")) (@zbm _ _ _ _ _ (@zbU _ _ (1) _ nd2 rfl (by walk_at "o2") (by walk_at "o4")) (@zfZ _) (by rfl)) (by rfl)) (by rfl) (by rfl) (by rfl)), (@zcJ _ _), (@zc3 _ _ _ _ _ _ _ (@zaq _ _ _ _ _ _ _ (@zaa _ _ 5 _ _ (by rfl) (by walk_at "o3") (by decide) (by decide)) (@zaa _ _ 0 _ _ (by rfl) (by walk_at "o3") (by decide) (by decide))) (@zaq _ _ _ _ _ _ _ (@zaa _ _ 6 _ _ (by rfl) (by walk_at "o3") (by decide) (by decide)) (@zaa _ _ 1 _ _ (by rfl) (by walk_at "o3") (by decide) (by decide))))⟩) (by intro _ ; rfl))) (@zai _ _) (by rfl)) (by rfl) (by decide) (by rfl) (by rfl))))))))))
abbrev zec : Stmt := top 28
theorem zki : zaw ["bow", "place", "x", "y", "z", "parts"] ["bow", "place"] (zag zec) := ⟨rfl, rfl, rfl, by decide +kernel, rfl, by decide +kernel, by decide +kernel⟩
set_option maxHeartbeats 4000000 in
theorem zo4 {P : Program} {w : World} {K : PySem.W.Frag} {mg : Str → Option Value} {base : Heap} {f : Addr} {fd : FuncData} {k : Nat} (F : Fun K "on_bow" "on_bow" zec f fd) (hm : mg "on_bow" = some (.ref f)) (hb : zbg K fd ["bow", "place"] []) (n_sum : mg "sum" = none) (n_zip : mg "zip" = none) : zaC P w K mg base (k + 1) "on_bow" zeQ := by
 refine zaC.mk' (own' := []) F zki hm hb rfl rfl fun X E hX C L => ?_
 obtain ⟨cdv, A, outer, s, H, rfl⟩ := hX
 have nd := zki.nd
 exact (@zah _ _ _ _ _ _ _ _ _ _ (@zan _ _ _ _ _ _ _ _ 2 nd (@zam _ _ _ _ _ _ _ (@zaa _ _ 1 _ _ (by rfl) (by walk_at "o3") (by decide) (by decide)) (@zae _ _ _ _ _) (by intro _ _ ; rfl)) (by rfl) (by walk_at "o2") (by rfl) (by walk_at "o4")) (@zah _ _ _ _ _ _ _ _ _ _ (@zan _ _ _ _ _ _ _ _ 3 nd (@zam _ _ _ _ _ _ _ (@zaa _ _ 1 _ _ (by rfl) (by walk_at "o3") (by decide) (by decide)) (@zae _ _ _ _ _) (by intro _ _ ; rfl)) (by rfl) (by walk_at "o2") (by rfl) (by walk_at "o4")) (@zah _ _ _ _ _ _ _ _ _ _ (@zan _ _ _ _ _ _ _ _ 4 nd (@zam _ _ _ _ _ _ _ (@zaa _ _ 1 _ _ (by rfl) (by walk_at "o3") (by decide) (by decide)) (@zae _ _ _ _ _) (by intro _ _ ; rfl)) (by rfl) (by walk_at "o2") (by rfl) (by walk_at "o4")) (@zah _ _ _ _ _ _ _ _ _ _ (@zan _ _ _ _ _ _ _ _ 5 nd (@zce _ _ _ _ _ _ (@zad _ _ _ _ _ _ (@zaq _ _ _ _ _ _ _ (@zaa _ _ 2 _ _ (by rfl) (by walk_at "o3") (by decide) (by decide)) (@zaa _ _ 2 _ _ (by rfl) (by walk_at "o3") (by decide) (by decide))) (@zad _ _ _ _ _ _ (@zaq _ _ _ _ _ _ _ (@zaa _ _ 3 _ _ (by rfl) (by walk_at "o3") (by decide) (by decide)) (@zaa _ _ 3 _ _ (by rfl) (by walk_at "o3") (by decide) (by decide))) (@zad _ _ _ _ _ _ (@zaq _ _ _ _ _ _ _ (@zaa _ _ 4 _ _ (by rfl) (by walk_at "o3") (by decide) (by decide)) (@zaa _ _ 4 _ _ (by rfl) (by walk_at "o3") (by decide) (by decide))) (@zad _ _ _ _ _ _ (@zaq _ _ _ _ _ _ _ (@zaa _ _ 2 _ _ (by rfl) (by walk_at "o3") (by decide) (by decide)) (@zaa _ _ 3 _ _ (by rfl) (by walk_at "o3") (by decide) (by decide))) (@zad _ _ _ _ _ _ (@zaq _ _ _ _ _ _ _ (@zaa _ _ 2 _ _ (by rfl) (by walk_at "o3") (by decide) (by decide)) (@zaa _ _ 4 _ _ (by rfl) (by walk_at "o3") (by decide) (by decide))) (@zad _ _ _ _ _ _ (@zaq _ _ _ _ _ _ _ (@zaa _ _ 3 _ _ (by rfl) (by walk_at "o3") (by decide) (by decide)) (@zaa _ _ 4 _ _ (by rfl) (by walk_at "o3") (by decide) (by decide))) (@zai _ _) (by rfl)) (by rfl)) (by rfl)) (by rfl)) (by rfl)) (by rfl))) (by rfl) (by walk_at "o2") (by rfl) (by walk_at "o4")) (@zak _ _ _ _ _ _ _ (@zaB _ _ _ _ _ _ _ _ (@zc4 _ _ _ _ _ _ _ _ _ (@zdM _ _ _ C) (@zue _ _ _ _ _ _ _ C.calm n_sum (@zad _ _ _ _ _ _ (@DF.val _ _ _ _ (@zfu _ _ _ _ _ _ _ _ _ _ _ _ _ _ _ C.calm (LC.of (k := 2) (NY := ["number", "part", "bow", "place", "x", "y", "z", "parts"]) (N := ["bow", "place", "x", "y", "z", "parts"]) (sc0 := (zag zec)) rfl rfl (by decide +kernel)) rfl (@zoD _ _ _ _ _ _ _ _ _ _ n_zip (@zad _ _ _ _ _ _ (@zaa _ _ 0 _ _ (by rfl) (by walk_at "o3") (by decide) (by decide)) (@zad _ _ _ _ _ _ (@zaa _ _ 5 _ _ (by rfl) (by walk_at "o3") (by decide) (by decide)) (@zai _ _) (by rfl)) (by rfl)) (by rfl) (by rfl) (by rfl)) (fun _ _ _ _ nd2 => ⟨(@zhX _ _ _ _ [0, 1] 2 (XC.calm (C.lc _ _ _ _ _ _)) (@zbm _ _ _ _ _ (@zbU _ _ (0) _ nd2 rfl (by walk_at "o2") (by walk_at "o4")) (@zbm _ _ _ _ _ (@zbU _ _ (1) _ nd2 rfl (by walk_at "o2") (by walk_at "o4")) (@zfZ _) (by rfl)) (by rfl)) (by rfl) (by rfl) (by rfl)), (@zcJ _ _), (@zaq _ _ _ _ _ _ _ (@zaa _ _ 0 _ _ (by rfl) (by walk_at "o3") (by decide) (by decide)) (@zaa _ _ 1 _ _ (by rfl) (by walk_at "o3") (by decide) (by decide)))⟩) (by intro _ ; rfl))) (@zai _ _) (by rfl)) (by rfl) (by rfl) (by rfl)) (@zae _ _ _ _ _) (by first | exact zal _ (by decide) (by decide) | rfl))))))))
abbrev zbD : Stmt := top 43
theorem zeH : zaw ["_law_thing", "_law_refused_here", "_law_e"] ["_law_thing"] (zag zbD) := ⟨rfl, rfl, rfl, by decide +kernel, rfl, by decide +kernel, by decide +kernel⟩
set_option maxHeartbeats 4000000 in
theorem zhv {P : Program} {w : World} {K : PySem.W.Frag} {mg : Str → Option Value} {base : Heap} {f : Addr} {fd : FuncData} {k : Nat} (F : Fun K "_law_refused" "_law_refused" zbD f fd) (hm : mg "_law_refused" = some (.ref f)) (hb : zbg K fd ["_law_thing"] []) {C_ChalkError : Addr} (c_ChalkError : mg "ChalkError" = some (.ref C_ChalkError)) {C_Same : Addr} (c_Same : mg "Same" = some (.ref C_Same)) {C_NoRatio : Addr} (c_NoRatio : mg "NoRatio" = some (.ref C_NoRatio)) {C_NoPlace : Addr} (c_NoPlace : mg "NoPlace" = some (.ref C_NoPlace)) {C_NoBow : Addr} (c_NoBow : mg "NoBow" = some (.ref C_NoBow)) (n_isinstance : mg "isinstance" = none) (n_ValueError : mg "ValueError" = none) (F_bow_of : zaC P w K mg base k "bow_of" zbG) : zaC P w K mg base (k + 1) "_law_refused" zaM := by
 refine zaC.mk' (own' := []) F zeH hm hb rfl rfl fun X E hX C L => ?_
 obtain ⟨cdv, A, outer, s, H, rfl⟩ := hX
 have nd := zeH.nd
 exact (@zah _ _ _ _ _ _ _ _ _ _ (@zan _ _ _ _ _ _ _ _ 1 nd (@znq _ _ _ _) (by rfl) (by walk_at "o2") (by rfl) (by walk_at "o4")) (@zah _ _ _ _ _ _ _ _ _ _ (@zul _ _ _ _ 2 _ _ _ _ _ _ _ _ _ rfl rfl nd c_ChalkError (@zpT _ _ _ (@zpV _ _ _ _ _ _ _ _ _ _ C.room F_bow_of (@zad _ _ _ _ _ _ (@zaa _ _ 0 _ _ (by rfl) (by walk_at "o3") (by decide) (by decide)) (@zai _ _) (by rfl)) (by rfl) (by decide) (by rfl) (by rfl) (by rfl))) (fun _ => (@zak _ _ _ _ _ _ _ (@zan _ _ _ _ _ _ _ _ 1 nd (@zaa _ _ 2 _ _ (by rfl) (by walk_at "o3") (by decide) (by decide)) (by rfl) (by walk_at "o2") (by rfl) (by walk_at "o4")))) (by rfl) (by rfl) (by rfl) (by decide)) (@zah _ _ _ _ _ _ _ _ _ _ (@zcL _ _ _ _ _ _ _ _ _ _ _ _ (@zcO _ _ _ _ (@zsI _ _ _ _ _ _ _ n_isinstance (@zad _ _ _ _ _ _ (@zaa _ _ 1 _ _ (by rfl) (by walk_at "o3") (by decide) (by decide)) (@zad _ _ _ _ _ _ (@zce _ _ _ _ _ _ (@zad _ _ _ _ _ _ (@zk7 _ _ _ _ _ c_NoPlace (by rfl) (by decide)) (@zad _ _ _ _ _ _ (@zk7 _ _ _ _ _ c_NoRatio (by rfl) (by decide)) (@zad _ _ _ _ _ _ (@zk7 _ _ _ _ _ c_Same (by rfl) (by decide)) (@zai _ _) (by rfl)) (by rfl)) (by rfl))) (@zai _ _) (by rfl)) (by rfl)) (by rfl) (by rfl) (by rfl)) (by intro _ ; rfl)) (@zak _ _ _ _ _ _ _ (@zaB _ _ _ _ _ _ _ _ (@zep _ _ _ _ _))) (@zaZ _ _ _ _)) (@zak _ _ _ _ _ _ _ (@zaB _ _ _ _ _ _ _ _ (@zhV _ _ _ _ _ _ _ _ (@zeZ _ _ _ _ _ _ _ n_isinstance (@zad _ _ _ _ _ _ (@zaa _ _ 1 _ _ (by rfl) (by walk_at "o3") (by decide) (by decide)) (@zad _ _ _ _ _ _ (@zk7 _ _ _ _ _ c_NoBow (by rfl) (by decide)) (@zai _ _) (by rfl)) (by rfl)) (by rfl) (by rfl) (by rfl)) (@zhU _ _ _ _ _ _ (@zeZ _ _ _ _ _ _ _ n_isinstance (@zad _ _ _ _ _ _ (@zaa _ _ 1 _ _ (by rfl) (by walk_at "o3") (by decide) (by decide)) (@zad _ _ _ _ _ _ (@ziG _ _ _ _ _ n_ValueError ziM (by rfl) (by decide) (by decide)) (@zai _ _) (by rfl)) (by rfl)) (by rfl) (by rfl) (by rfl)))))))))
abbrev zaY : Stmt := top 41
theorem zdY : zaw ["_law_bow", "_law_one", "_law_number", "_law_other"] ["_law_bow"] (zag zaY) := ⟨rfl, rfl, rfl, by decide +kernel, rfl, by decide +kernel, by decide +kernel⟩
set_option maxHeartbeats 4000000 in
theorem zf8 {P : Program} {w : World} {K : PySem.W.Frag} {mg : Str → Option Value} {base : Heap} {f : Addr} {fd : FuncData} {k : Nat} (F : Fun K "_law_is_lowest" "_law_is_lowest" zaY f fd) (hm : mg "_law_is_lowest" = some (.ref f)) (hb : zbg K fd ["_law_bow"] []) (n_abs : mg "abs" = none) : zaC P w K mg base (k + 1) "_law_is_lowest" zbi := by
 refine zaC.mk' (own' := []) F zdY hm hb rfl rfl fun X E hX C L => ?_
 obtain ⟨cdv, A, outer, s, H, rfl⟩ := hX
 have nd := zdY.nd
 exact (@zah _ _ _ _ _ _ _ _ _ _ (@zan _ _ _ _ _ _ _ _ 1 nd (@zae _ _ _ _ _) (by rfl) (by walk_at "o2") (by rfl) (by walk_at "o4")) (@zah _ _ _ _ _ _ _ _ _ _ (@zdi _ _ _ _ _ _ _ _ _ _ _ _ L C.calm (@zcl _ _ _ _ _ (@zaa _ _ 0 _ _ (by rfl) (by walk_at "o3") (by decide) (by decide))) (@zaJ _ _ 2 _ nd (by rfl) (by walk_at "o2") (by walk_at "o4")) (@zah _ _ _ _ _ _ _ _ _ _ (@zan _ _ _ _ _ _ _ _ 3 nd (@zhY _ _ _ _ _ _ _ n_abs (@zad _ _ _ _ _ _ (@zaa _ _ 2 _ _ (by rfl) (by walk_at "o3") (by decide) (by decide)) (@zai _ _) (by rfl)) (by rfl) (by rfl) (by rfl)) (by rfl) (by walk_at "o2") (by rfl) (by walk_at "o4")) (@zak _ _ _ _ _ _ _ (@ziK _ _ _ _ _ _ _ _ _ L (@zaH _ _ _ _ _ _ _ _ _ (@zeS _ _ _ C) (@zaa _ _ 3 _ _ (by rfl) (by walk_at "o3") (by decide) (by decide)) (@zae _ _ _ _ _) (by first | exact zal _ (by decide) (by decide) | rfl)) (@zak _ _ _ _ _ _ _ (@zqF _ _ _ _ _ 1 3 _ _ _ _ _ _ _ _ _ _ _ C.calm nd (@zad _ _ _ _ _ _ (@zaa _ _ 3 _ _ (by rfl) (by walk_at "o3") (by decide) (by decide)) (@zad _ _ _ _ _ _ (@zbw _ _ _ _ _ _ _ (@zaa _ _ 1 _ _ (by rfl) (by walk_at "o3") (by decide) (by decide)) (@zaa _ _ 3 _ _ (by rfl) (by walk_at "o3") (by decide) (by decide))) (@zai _ _) (by rfl)) (by rfl)) (by decide) (by rfl) (by rfl) (by rfl) (by rfl) (by rfl) (by rfl) (by rfl)))))) (by rfl) (by intro _ ; rfl)) (@zak _ _ _ _ _ _ _ (@zaB _ _ _ _ _ _ _ _ (@zhV _ _ _ _ _ _ _ _ (@zc4 _ _ _ _ _ _ _ _ _ (@zdM _ _ _ C) (@zaa _ _ 1 _ _ (by rfl) (by walk_at "o3") (by decide) (by decide)) (@zae _ _ _ _ _) (by first | exact zal _ (by decide) (by decide) | rfl)) (@zhU _ _ _ _ _ _ (@zc4 _ _ _ _ _ _ _ _ _ (@zt6 _) (@zam _ _ _ _ _ _ _ (@DF.val _ _ _ _ (@zfu _ _ _ _ _ _ _ _ _ _ _ _ _ _ _ C.calm (LC.of (k := 1) (NY := ["_law_number", "_law_bow", "_law_one", "?_law_number", "_law_other"]) (N := ["_law_bow", "_law_one", "_law_number", "_law_other"]) (sc0 := (zag zaY)) rfl rfl (by decide +kernel)) rfl (@zcl _ _ _ _ _ (@zaa _ _ 0 _ _ (by rfl) (by walk_at "o3") (by decide) (by decide))) (fun _ _ _ _ nd2 => ⟨(@zaJ _ _ 0 _ nd2 (by rfl) (by walk_at "o2") (by walk_at "o4")), (@zfh _ _ _ _ (@zaH _ _ _ _ _ _ _ _ _ (@zeS _ _ _ (C.lc _ _ _ _ _ _)) (@zaa _ _ 0 _ _ (by rfl) (by walk_at "o3") (by decide) (by decide)) (@zae _ _ _ _ _) (by first | exact zal _ (by decide) (by decide) | rfl))), (@zaa _ _ 0 _ _ (by rfl) (by walk_at "o3") (by decide) (by decide))⟩) (by intro _ ; rfl))) (@zae _ _ _ _ _) (by intro _ _ ; rfl)) (@zae _ _ _ _ _) (by first | exact zal _ (by decide) (by decide) | rfl))))))))
abbrev zb8 : Stmt := top 40
theorem zfW : zaw ["_law_bow", "_law_place_here", "_law_x", "_law_y", "_law_z", "_law_total"] ["_law_bow", "_law_place_here"] (zag zb8) := ⟨rfl, rfl, rfl, by decide +kernel, rfl, by decide +kernel, by decide +kernel⟩
set_option maxHeartbeats 4000000 in
theorem zi0 {P : Program} {w : World} {K : PySem.W.Frag} {mg : Str → Option Value} {base : Heap} {f : Addr} {fd : FuncData} {k : Nat} (F : Fun K "_law_comes" "_law_comes" zb8 f fd) (hm : mg "_law_comes" = some (.ref f)) (hb : zbg K fd ["_law_bow", "_law_place_here"] []) : zaC P w K mg base (k + 1) "_law_comes" zbO := by
 refine zaC.mk' (own' := []) F zfW hm hb rfl rfl fun X E hX C L => ?_
 obtain ⟨cdv, A, outer, s, H, rfl⟩ := hX
 have nd := zfW.nd
 exact (@zah _ _ _ _ _ _ _ _ _ _ (@znA _ _ _ _ _ _ _ _ _ _ (@zaa _ _ 1 _ _ (by rfl) (by walk_at "o3") (by decide) (by decide)) (@zhX _ _ _ _ [2, 3, 4] 3 C.calm (@zbm _ _ _ _ _ (@zbU _ _ (2) _ nd rfl (by walk_at "o2") (by walk_at "o4")) (@zbm _ _ _ _ _ (@zbU _ _ (3) _ nd rfl (by walk_at "o2") (by walk_at "o4")) (@zbm _ _ _ _ _ (@zbU _ _ (4) _ nd rfl (by walk_at "o2") (by walk_at "o4")) (@zfZ _) (by rfl)) (by rfl)) (by rfl)) (by rfl) (by rfl) (by rfl)) (by rfl) (by rfl) (by rfl) (by rfl)) (@zah _ _ _ _ _ _ _ _ _ _ (@zan _ _ _ _ _ _ _ _ 5 nd (@za6 _ _ _ _ _ _ _ (@za6 _ _ _ _ _ _ _ (@zaq _ _ _ _ _ _ _ (@zaq _ _ _ _ _ _ _ (@zam _ _ _ _ _ _ _ (@zaa _ _ 0 _ _ (by rfl) (by walk_at "o3") (by decide) (by decide)) (@zae _ _ _ _ _) (by intro _ _ ; rfl)) (@zaa _ _ 2 _ _ (by rfl) (by walk_at "o3") (by decide) (by decide))) (@zaa _ _ 2 _ _ (by rfl) (by walk_at "o3") (by decide) (by decide))) (@zaq _ _ _ _ _ _ _ (@zaq _ _ _ _ _ _ _ (@zam _ _ _ _ _ _ _ (@zaa _ _ 0 _ _ (by rfl) (by walk_at "o3") (by decide) (by decide)) (@zae _ _ _ _ _) (by intro _ _ ; rfl)) (@zaa _ _ 3 _ _ (by rfl) (by walk_at "o3") (by decide) (by decide))) (@zaa _ _ 3 _ _ (by rfl) (by walk_at "o3") (by decide) (by decide)))) (@zaq _ _ _ _ _ _ _ (@zaq _ _ _ _ _ _ _ (@zam _ _ _ _ _ _ _ (@zaa _ _ 0 _ _ (by rfl) (by walk_at "o3") (by decide) (by decide)) (@zae _ _ _ _ _) (by intro _ _ ; rfl)) (@zaa _ _ 4 _ _ (by rfl) (by walk_at "o3") (by decide) (by decide))) (@zaa _ _ 4 _ _ (by rfl) (by walk_at "o3") (by decide) (by decide)))) (by rfl) (by walk_at "o2") (by rfl) (by walk_at "o4")) (@zak _ _ _ _ _ _ _ (@zaB _ _ _ _ _ _ _ _ (@za6 _ _ _ _ _ _ _ (@za6 _ _ _ _ _ _ _ (@za6 _ _ _ _ _ _ _ (@zaa _ _ 5 _ _ (by rfl) (by walk_at "o3") (by decide) (by decide)) (@zaq _ _ _ _ _ _ _ (@zaq _ _ _ _ _ _ _ (@zam _ _ _ _ _ _ _ (@zaa _ _ 0 _ _ (by rfl) (by walk_at "o3") (by decide) (by decide)) (@zae _ _ _ _ _) (by intro _ _ ; rfl)) (@zaa _ _ 2 _ _ (by rfl) (by walk_at "o3") (by decide) (by decide))) (@zaa _ _ 3 _ _ (by rfl) (by walk_at "o3") (by decide) (by decide)))) (@zaq _ _ _ _ _ _ _ (@zaq _ _ _ _ _ _ _ (@zam _ _ _ _ _ _ _ (@zaa _ _ 0 _ _ (by rfl) (by walk_at "o3") (by decide) (by decide)) (@zae _ _ _ _ _) (by intro _ _ ; rfl)) (@zaa _ _ 2 _ _ (by rfl) (by walk_at "o3") (by decide) (by decide))) (@zaa _ _ 4 _ _ (by rfl) (by walk_at "o3") (by decide) (by decide)))) (@zaq _ _ _ _ _ _ _ (@zaq _ _ _ _ _ _ _ (@zam _ _ _ _ _ _ _ (@zaa _ _ 0 _ _ (by rfl) (by walk_at "o3") (by decide) (by decide)) (@zae _ _ _ _ _) (by intro _ _ ; rfl)) (@zaa _ _ 3 _ _ (by rfl) (by walk_at "o3") (by decide) (by decide))) (@zaa _ _ 4 _ _ (by rfl) (by walk_at "o3") (by decide) (by decide))))))))
abbrev zb9 : Stmt := top 31
theorem zfX : zaw ["_law_found"] ["_law_found"] (zag zb9) := ⟨rfl, rfl, rfl, by decide +kernel, rfl, by decide +kernel, by decide +kernel⟩
set_option maxHeartbeats 4000000 in
theorem zi3 {P : Program} {w : World} {K : PySem.W.Frag} {mg : Str → Option Value} {base : Heap} {f : Addr} {fd : FuncData} {k : Nat} (F : Fun K "_law_whole" "_law_whole" zb9 f fd) (hm : mg "_law_whole" = some (.ref f)) (hb : zbg K fd ["_law_found"] []) (n_isinstance : mg "isinstance" = none) (n_int : mg "int" = none) (n_bool : mg "bool" = none) : zaC P w K mg base (k + 1) "_law_whole" zcr := by
 refine zaC.mk' (own' := []) F zfX hm hb rfl rfl fun X E hX C L => ?_
 obtain ⟨cdv, A, outer, s, H, rfl⟩ := hX
 have nd := zfX.nd
 exact (@zak _ _ _ _ _ _ _ (@zaB _ _ _ _ _ _ _ _ (@zhV _ _ _ _ _ _ _ _ (@zeZ _ _ _ _ _ _ _ n_isinstance (@zad _ _ _ _ _ _ (@zaa _ _ 0 _ _ (by rfl) (by walk_at "o3") (by decide) (by decide)) (@zad _ _ _ _ _ _ (@ziG _ _ _ _ _ n_int zqI (by rfl) (by decide) (by decide)) (@zai _ _) (by rfl)) (by rfl)) (by rfl) (by rfl) (by rfl)) (@zhU _ _ _ _ _ _ (@zqC _ _ _ _ _ (@zeZ _ _ _ _ _ _ _ n_isinstance (@zad _ _ _ _ _ _ (@zaa _ _ 0 _ _ (by rfl) (by walk_at "o3") (by decide) (by decide)) (@zad _ _ _ _ _ _ (@ziG _ _ _ _ _ n_bool zky (by rfl) (by decide) (by decide)) (@zai _ _) (by rfl)) (by rfl)) (by rfl) (by rfl) (by rfl)))))))
abbrev zbc : Stmt := top 42
theorem zfd : zaw ["_law_bow", "_law_five"] ["_law_bow", "_law_five"] (zag zbc) := ⟨rfl, rfl, rfl, by decide +kernel, rfl, by decide +kernel, by decide +kernel⟩
set_option maxHeartbeats 4000000 in
theorem zhL {P : Program} {w : World} {K : PySem.W.Frag} {mg : Str → Option Value} {base : Heap} {f : Addr} {fd : FuncData} {k : Nat} (F : Fun K "_law_is_bow" "_law_is_bow" zbc f fd) (hm : mg "_law_is_bow" = some (.ref f)) (hb : zbg K fd ["_law_bow", "_law_five"] []) (n_isinstance : mg "isinstance" = none) (n_tuple : mg "tuple" = none) (n_len : mg "len" = none) (F__law_whole : zaC P w K mg base k "_law_whole" zcr) (F__law_is_lowest : zaC P w K mg base k "_law_is_lowest" zbi) (F__law_comes : zaC P w K mg base k "_law_comes" zbO) : zaC P w K mg base (k + 1) "_law_is_bow" zb4 := by
 refine zaC.mk' (own' := []) F zfd hm hb rfl rfl fun X E hX C L => ?_
 obtain ⟨cdv, A, outer, s, H, rfl⟩ := hX
 have nd := zfd.nd
 exact (@zah _ _ _ _ _ _ _ _ _ _ (@zcL _ _ _ _ _ _ _ _ _ _ _ _ (@DW.dt _ _ _ _ (@ziI _ _ _ _ _ _ _ _ (@zdL _ _ _ _ _ (@zcO _ _ _ _ (@zeZ _ _ _ _ _ _ _ n_isinstance (@zad _ _ _ _ _ _ (@zaa _ _ 0 _ _ (by rfl) (by walk_at "o3") (by decide) (by decide)) (@zad _ _ _ _ _ _ (@ziG _ _ _ _ _ n_tuple ziL (by rfl) (by decide) (by decide)) (@zai _ _) (by rfl)) (by rfl)) (by rfl) (by rfl) (by rfl)) (by intro _ ; rfl))) (@ziI _ _ _ _ _ _ _ _ (@zaH _ _ _ _ _ _ _ _ _ (@zeS _ _ _ C) (@zfw _ _ _ _ _ _ _ n_len (@zad _ _ _ _ _ _ (@zaa _ _ 0 _ _ (by rfl) (by walk_at "o3") (by decide) (by decide)) (@zai _ _) (by rfl)) (by rfl) (by rfl) (by rfl)) (@zae _ _ _ _ _) (by first | exact zal _ (by decide) (by decide) | rfl)) (@zgK _ _ _ _ _ (@zaH _ _ _ _ _ _ _ _ _ (@zeS _ _ _ C) (@DF.val _ _ _ _ (@zfu _ _ _ _ _ _ _ _ _ _ _ _ _ _ _ C.calm (LC.of (k := 1) (NY := ["_law_one", "_law_bow", "_law_five"]) (N := ["_law_bow", "_law_five"]) (sc0 := (zag zbc)) rfl rfl (by decide +kernel)) rfl (@zcl _ _ _ _ _ (@zaa _ _ 0 _ _ (by rfl) (by walk_at "o3") (by decide) (by decide))) (fun _ _ _ _ nd2 => ⟨(@zaJ _ _ 0 _ nd2 (by rfl) (by walk_at "o2") (by walk_at "o4")), (@zfh _ _ _ _ (@zdL _ _ _ _ _ (@zcO _ _ _ _ (@zao _ _ _ _ _ _ _ _ _ _ (C.lc _ _ _ _ _ _) F__law_whole (@zad _ _ _ _ _ _ (@zaa _ _ 0 _ _ (by rfl) (by walk_at "o3") (by decide) (by decide)) (@zai _ _) (by rfl)) (by rfl) (by decide) (by rfl) (by rfl)) (by intro _ ; rfl)))), (@zaa _ _ 0 _ _ (by rfl) (by walk_at "o3") (by decide) (by decide))⟩) (by intro _ ; rfl))) (@DF.val _ _ _ _ (@zbJ _ _ _ _ _ (@zai _ _))) (by first | exact zal _ (by decide) (by decide) | rfl)))))) (@zak _ _ _ _ _ _ _ (@zaB _ _ _ _ _ _ _ _ (@zep _ _ _ _ _))) (@zaZ _ _ _ _)) (@zah _ _ _ _ _ _ _ _ _ _ (@zcL _ _ _ _ _ _ _ _ _ _ _ _ (@DW.dt _ _ _ _ (@ziI _ _ _ _ _ _ _ _ (@zaH _ _ _ _ _ _ _ _ _ (@zdM _ _ _ C) (@zaa _ _ 0 _ _ (by rfl) (by walk_at "o3") (by decide) (by decide)) (@zce _ _ _ _ _ _ (@zad _ _ _ _ _ _ (@zae _ _ _ _ _) (@zad _ _ _ _ _ _ (@zae _ _ _ _ _) (@zad _ _ _ _ _ _ (@zae _ _ _ _ _) (@zad _ _ _ _ _ _ (@zae _ _ _ _ _) (@zad _ _ _ _ _ _ (@zae _ _ _ _ _) (@zad _ _ _ _ _ _ (@zae _ _ _ _ _) (@zai _ _) (by rfl)) (by rfl)) (by rfl)) (by rfl)) (by rfl)) (by rfl))) (by first | exact zal _ (by decide) (by decide) | rfl)) (@zgK _ _ _ _ _ (@zdL _ _ _ _ _ (@zcO _ _ _ _ (@zao _ _ _ _ _ _ _ _ _ _ C F__law_is_lowest (@zad _ _ _ _ _ _ (@zaa _ _ 0 _ _ (by rfl) (by walk_at "o3") (by decide) (by decide)) (@zai _ _) (by rfl)) (by rfl) (by decide) (by rfl) (by rfl)) (by intro _ ; rfl)))))) (@zak _ _ _ _ _ _ _ (@zaB _ _ _ _ _ _ _ _ (@zep _ _ _ _ _))) (@zaZ _ _ _ _)) (@zak _ _ _ _ _ _ _ (@zaB _ _ _ _ _ _ _ _ (@zc4 _ _ _ _ _ _ _ _ _ (@zdM _ _ _ C) (@DF.val _ _ _ _ (@zfu _ _ _ _ _ _ _ _ _ _ _ _ _ _ _ C.calm (LC.of (k := 1) (NY := ["_law_place_here", "_law_bow", "_law_five"]) (N := ["_law_bow", "_law_five"]) (sc0 := (zag zbc)) rfl rfl (by decide +kernel)) rfl (@zcl _ _ _ _ _ (@zaa _ _ 1 _ _ (by rfl) (by walk_at "o3") (by decide) (by decide))) (fun _ _ _ _ nd2 => ⟨(@zaJ _ _ 0 _ nd2 (by rfl) (by walk_at "o2") (by walk_at "o4")), (@zfh _ _ _ _ (@zaH _ _ _ _ _ _ _ _ _ (@zeS _ _ _ (C.lc _ _ _ _ _ _)) (@zao _ _ _ _ _ _ _ _ _ _ (C.lc _ _ _ _ _ _) F__law_comes (@zad _ _ _ _ _ _ (@zaa _ _ 1 _ _ (by rfl) (by walk_at "o3") (by decide) (by decide)) (@zad _ _ _ _ _ _ (@zaa _ _ 0 _ _ (by rfl) (by walk_at "o3") (by decide) (by decide)) (@zai _ _) (by rfl)) (by rfl)) (by rfl) (by decide) (by rfl) (by rfl)) (@zae _ _ _ _ _) (by first | exact zal _ (by decide) (by decide) | rfl))), (@zaa _ _ 0 _ _ (by rfl) (by walk_at "o3") (by decide) (by decide))⟩) (by intro _ ; rfl))) (@DF.val _ _ _ _ (@zbJ _ _ _ _ _ (@zai _ _))) (by first | exact zal _ (by decide) (by decide) | rfl))))))
abbrev zbQ : Stmt := top 44
theorem zfY : zaw ["_law_five", "_law_others", "_law_step", "_law_handed", "_law_bow", "_law_place_here", "_law_told"] ["_law_five", "_law_others", "_law_step"] (zag zbQ) := ⟨rfl, rfl, rfl, by decide +kernel, rfl, by decide +kernel, by decide +kernel⟩
set_option maxHeartbeats 4000000 in
theorem zi4 {P : Program} {w : World} {K : PySem.W.Frag} {mg : Str → Option Value} {base : Heap} {f : Addr} {fd : FuncData} {k : Nat} (F : Fun K "_law_right" "_law_right" zbQ f fd) (hm : mg "_law_right" = some (.ref f)) (hb : zbg K fd ["_law_five", "_law_others", "_law_step"] []) (n_list : mg "list" = none) (n_isinstance : mg "isinstance" = none) (n_bool : mg "bool" = none) (n_range : mg "range" = none) (F__law_lines : zaC P w K mg base k "_law_lines" zcu) (F__law_refused : zaC P w K mg base k "_law_refused" zaM) (F_bow_of : zaC P w K mg base k "bow_of" zbG) (F__law_is_bow : zaC P w K mg base k "_law_is_bow" zb4) (F_on_bow : zaC P w K mg base k "on_bow" zeQ) (F__law_comes : zaC P w K mg base k "_law_comes" zbO) : zaC P w K mg base (k + 1) "_law_right" zbA := by
 refine zaC.mk' (own' := []) F zfY hm hb rfl rfl fun X E hX C L => ?_
 obtain ⟨cdv, A, outer, s, H, rfl⟩ := hX
 have nd := zfY.nd
 exact (@zah _ _ _ _ _ _ _ _ _ _ (@zan _ _ _ _ _ _ _ _ 3 nd (@DF.val _ _ _ _ (@zso _ _ _ _ _ _ _ n_list (@zad _ _ _ _ _ _ (@zaa _ _ 0 _ _ (by rfl) (by walk_at "o3") (by decide) (by decide)) (@zai _ _) (by rfl)) (by rfl) (by rfl) (by rfl))) (by rfl) (by walk_at "o2") (by rfl) (by walk_at "o4")) (@zah _ _ _ _ _ _ _ _ _ _ (@zcL _ _ _ _ _ _ _ _ _ _ _ _ (@zcO _ _ _ _ (@zao _ _ _ _ _ _ _ _ _ _ C F__law_lines (@zad _ _ _ _ _ _ (@zaa _ _ 0 _ _ (by rfl) (by walk_at "o3") (by decide) (by decide)) (@zai _ _) (by rfl)) (by rfl) (by decide) (by rfl) (by rfl)) (by intro _ ; rfl)) (@zak _ _ _ _ _ _ _ (@zaB _ _ _ _ _ _ _ _ (@zhV _ _ _ _ _ _ _ _ (@zao _ _ _ _ _ _ _ _ _ _ C F__law_refused (@zad _ _ _ _ _ _ (@zaa _ _ 3 _ _ (by rfl) (by walk_at "o3") (by decide) (by decide)) (@zai _ _) (by rfl)) (by rfl) (by decide) (by rfl) (by rfl)) (@zhU _ _ _ _ _ _ (@zc4 _ _ _ _ _ _ _ _ _ (@zdM _ _ _ C) (@zaa _ _ 3 _ _ (by rfl) (by walk_at "o3") (by decide) (by decide)) (@zaa _ _ 0 _ _ (by rfl) (by walk_at "o3") (by decide) (by decide)) (by first | exact zal _ (by decide) (by decide) | rfl)))))) (@zaZ _ _ _ _)) (@zah _ _ _ _ _ _ _ _ _ _ (@zan _ _ _ _ _ _ _ _ 4 nd (@zao _ _ _ _ _ _ _ _ _ _ C F_bow_of (@zad _ _ _ _ _ _ (@zaa _ _ 3 _ _ (by rfl) (by walk_at "o3") (by decide) (by decide)) (@zai _ _) (by rfl)) (by rfl) (by decide) (by rfl) (by rfl)) (by rfl) (by walk_at "o2") (by rfl) (by walk_at "o4")) (@zah _ _ _ _ _ _ _ _ _ _ (@zcL _ _ _ _ _ _ _ _ _ _ _ _ (@DW.dt _ _ _ _ (@ziI _ _ _ _ _ _ _ _ (@zaH _ _ _ _ _ _ _ _ _ (@zeS _ _ _ C) (@zaa _ _ 3 _ _ (by rfl) (by walk_at "o3") (by decide) (by decide)) (@zaa _ _ 0 _ _ (by rfl) (by walk_at "o3") (by decide) (by decide)) (by first | exact zal _ (by decide) (by decide) | rfl)) (@zgK _ _ _ _ _ (@zdL _ _ _ _ _ (@zcO _ _ _ _ (@zao _ _ _ _ _ _ _ _ _ _ C F__law_is_bow (@zad _ _ _ _ _ _ (@zaa _ _ 4 _ _ (by rfl) (by walk_at "o3") (by decide) (by decide)) (@zad _ _ _ _ _ _ (@zaa _ _ 0 _ _ (by rfl) (by walk_at "o3") (by decide) (by decide)) (@zai _ _) (by rfl)) (by rfl)) (by rfl) (by decide) (by rfl) (by rfl)) (by intro _ ; rfl)))))) (@zak _ _ _ _ _ _ _ (@zaB _ _ _ _ _ _ _ _ (@zep _ _ _ _ _))) (@zaZ _ _ _ _)) (@zah _ _ _ _ _ _ _ _ _ _ (@zdi _ _ _ _ _ _ _ _ _ _ _ _ L C.calm (@zcl _ _ _ _ _ (@zaa _ _ 1 _ _ (by rfl) (by walk_at "o3") (by decide) (by decide))) (@zaJ _ _ 5 _ nd (by rfl) (by walk_at "o2") (by walk_at "o4")) (@zah _ _ _ _ _ _ _ _ _ _ (@zan _ _ _ _ _ _ _ _ 6 nd (@zao _ _ _ _ _ _ _ _ _ _ C F_on_bow (@zad _ _ _ _ _ _ (@zaa _ _ 4 _ _ (by rfl) (by walk_at "o3") (by decide) (by decide)) (@zad _ _ _ _ _ _ (@zaa _ _ 5 _ _ (by rfl) (by walk_at "o3") (by decide) (by decide)) (@zai _ _) (by rfl)) (by rfl)) (by rfl) (by decide) (by rfl) (by rfl)) (by rfl) (by walk_at "o2") (by rfl) (by walk_at "o4")) (@zak _ _ _ _ _ _ _ (@zcL _ _ _ _ _ _ _ _ _ _ _ _ (@DW.dt _ _ _ _ (@ziI _ _ _ _ _ _ _ _ (@zdL _ _ _ _ _ (@zcO _ _ _ _ (@zeZ _ _ _ _ _ _ _ n_isinstance (@zad _ _ _ _ _ _ (@zaa _ _ 6 _ _ (by rfl) (by walk_at "o3") (by decide) (by decide)) (@zad _ _ _ _ _ _ (@ziG _ _ _ _ _ n_bool zky (by rfl) (by decide) (by decide)) (@zai _ _) (by rfl)) (by rfl)) (by rfl) (by rfl) (by rfl)) (by intro _ ; rfl))) (@zgK _ _ _ _ _ (@zaH _ _ _ _ _ _ _ _ _ (@zeS _ _ _ C) (@zaa _ _ 6 _ _ (by rfl) (by walk_at "o3") (by decide) (by decide)) (@zc4 _ _ _ _ _ _ _ _ _ (@zdM _ _ _ C) (@zao _ _ _ _ _ _ _ _ _ _ C F__law_comes (@zad _ _ _ _ _ _ (@zaa _ _ 4 _ _ (by rfl) (by walk_at "o3") (by decide) (by decide)) (@zad _ _ _ _ _ _ (@zaa _ _ 5 _ _ (by rfl) (by walk_at "o3") (by decide) (by decide)) (@zai _ _) (by rfl)) (by rfl)) (by rfl) (by decide) (by rfl) (by rfl)) (@zae _ _ _ _ _) (by first | exact zal _ (by decide) (by decide) | rfl)) (by first | exact zal _ (by decide) (by decide) | rfl))))) (@zak _ _ _ _ _ _ _ (@zaB _ _ _ _ _ _ _ _ (@zep _ _ _ _ _))) (@zaZ _ _ _ _)))) (by rfl) (by intro _ ; rfl)) (@zak _ _ _ _ _ _ _ (@zaB _ _ _ _ _ _ _ _ (@zc4 _ _ _ _ _ _ _ _ _ (@zdM _ _ _ C) (@zao _ _ _ _ _ _ _ _ _ _ C F_bow_of (@zad _ _ _ _ _ _ (@DF.val _ _ _ _ (@zfu _ _ _ _ _ _ _ _ _ _ _ _ _ _ _ C.calm (LC.of (k := 1) (NY := ["_law_k", "_law_five", "_law_others", "_law_step", "_law_handed", "_law_bow", "_law_place_here", "_law_told"]) (N := ["_law_five", "_law_others", "_law_step", "_law_handed", "_law_bow", "_law_place_here", "_law_told"]) (sc0 := (zag zbQ)) rfl rfl (by decide +kernel)) rfl (@zbh _ _ _ _ _ _ _ n_range (@zad _ _ _ _ _ _ (@zae _ _ _ _ _) (@zai _ _) (by rfl)) (by rfl) (by rfl)) (fun _ _ _ _ nd2 => ⟨(@zaJ _ _ 0 _ nd2 (by rfl) (by walk_at "o2") (by walk_at "o4")), (@zcJ _ _), (@zam _ _ _ _ _ _ _ (@zaa _ _ 1 _ _ (by rfl) (by walk_at "o3") (by decide) (by decide)) (@zbw _ _ _ _ _ _ _ (@za6 _ _ _ _ _ _ _ (@zaq _ _ _ _ _ _ _ (@zaa _ _ 3 _ _ (by rfl) (by walk_at "o3") (by decide) (by decide)) (@zaa _ _ 0 _ _ (by rfl) (by walk_at "o3") (by decide) (by decide))) (@zae _ _ _ _ _)) (@zae _ _ _ _ _)) (by intro _ _ ; rfl))⟩) (by intro _ ; rfl))) (@zai _ _) (by rfl)) (by rfl) (by decide) (by rfl) (by rfl)) (@zaa _ _ 4 _ _ (by rfl) (by walk_at "o3") (by decide) (by decide)) (by first | exact zal _ (by decide) (by decide) | rfl)))))))))
abbrev zhM : Stmt := top 45
theorem zrA : zaw ["_law_script", "_law_cell", "_law_some", "_law_rows", "_law_curve_here", "_law_drawn_ones", "_law_five", "_law_odd", "_law_few"] ["_law_script"] (zag zhM) := ⟨rfl, rfl, rfl, by decide +kernel, rfl, by decide +kernel, by decide +kernel⟩
set_option maxHeartbeats 4000000 in
theorem zuO {P : Program} {w : World} {K : PySem.W.Frag} {mg : Str → Option Value} {base : Heap} {f : Addr} {fd : FuncData} {k : Nat} (F : Fun K "law" "law" zhM f fd) (n_range : mg "range" = none) (n_tuple : mg "tuple" = none) (F__law_numbers : zaC P w K mg base k "_law_numbers" zaX) (F__law_change : zaC P w K mg base k "_law_change" zbM) (F__law_curve : zaC P w K mg base k "_law_curve" zct) (F__law_place : zaC P w K mg base k "_law_place" za1) (F__law_right : zaC P w K mg base k "_law_right" zbA) (F__law_refused : zaC P w K mg base k "_law_refused" zaM) : zhN P w K mg base (CXe P w) (k + 1) f fd ["_law_script"] (spD K mg zfP) := by
 refine zsp (own' := []) F zrA rfl rfl fun X E hX C L => ?_
 obtain ⟨cdv, A, outer, s, H, rfl⟩ := hX
 have nd := zrA.nd
 exact (@zah _ _ _ _ _ _ _ _ _ _ (@zdi _ _ _ _ _ _ _ _ _ _ _ _ L C.calm (@zcl _ _ _ _ _ (@ziN _ _ _ _ _ _ _ _ _ _ (@za6 _ _ _ _ _ _ _ (@DF.val _ _ _ _ (@zbJ _ _ _ _ _ (@zad _ _ _ _ _ _ (@zae _ _ _ _ _) (@zai _ _) (by rfl)))) (@zaa _ _ 0 _ _ (by rfl) (by walk_at "o3") (by decide) (by decide))) (@zfj _ _) (@zc5 _ _ _ _ (@zae _ _ _ _ _)))) (@zaJ _ _ 1 _ nd (by rfl) (by walk_at "o2") (by walk_at "o4")) (@zah _ _ _ _ _ _ _ _ _ _ (@zan _ _ _ _ _ _ _ _ 2 nd (@zao _ _ _ _ _ _ _ _ _ _ C F__law_numbers (@zad _ _ _ _ _ _ (@zaa _ _ 1 _ _ (by rfl) (by walk_at "o3") (by decide) (by decide)) (@zad _ _ _ _ _ _ (@zae _ _ _ _ _) (@zai _ _) (by rfl)) (by rfl)) (by rfl) (by decide) (by rfl) (by rfl)) (by rfl) (by walk_at "o2") (by rfl) (by walk_at "o4")) (@zah _ _ _ _ _ _ _ _ _ _ (@zan _ _ _ _ _ _ _ _ 3 nd (@zao _ _ _ _ _ _ _ _ _ _ C F__law_change (@zad _ _ _ _ _ _ (@ziN _ _ _ _ _ _ _ _ _ _ (@zaa _ _ 2 _ _ (by rfl) (by walk_at "o3") (by decide) (by decide)) (@zfj _ _) (@zc5 _ _ _ _ (@zae _ _ _ _ _))) (@zai _ _) (by rfl)) (by rfl) (by decide) (by rfl) (by rfl)) (by rfl) (by walk_at "o2") (by rfl) (by walk_at "o4")) (@zah _ _ _ _ _ _ _ _ _ _ (@zan _ _ _ _ _ _ _ _ 4 nd (@zao _ _ _ _ _ _ _ _ _ _ C F__law_curve (@zad _ _ _ _ _ _ (@ziN _ _ _ _ _ _ _ _ _ _ (@zaa _ _ 2 _ _ (by rfl) (by walk_at "o3") (by decide) (by decide)) (@zc5 _ _ _ _ (@zae _ _ _ _ _)) (@zc5 _ _ _ _ (@zae _ _ _ _ _))) (@zad _ _ _ _ _ _ (@zaa _ _ 3 _ _ (by rfl) (by walk_at "o3") (by decide) (by decide)) (@zai _ _) (by rfl)) (by rfl)) (by rfl) (by decide) (by rfl) (by rfl)) (by rfl) (by walk_at "o2") (by rfl) (by walk_at "o4")) (@zah _ _ _ _ _ _ _ _ _ _ (@zfv _ _ _ _ _ _ _ _ _ _ _ _ _ _ _ _ _ _ _ _ 5 C.calm nd (LC.of (k := 1) (NY := ["_law_k", "_law_script", "_law_cell", "_law_some", "_law_rows", "_law_curve_here", "_law_drawn_ones", "_law_five", "_law_odd", "_law_few"]) (N := ["_law_script", "_law_cell", "_law_some", "_law_rows", "_law_curve_here", "_law_drawn_ones", "_law_five", "_law_odd", "_law_few"]) (sc0 := (zag zhM)) rfl rfl (by decide +kernel)) rfl (@zbh _ _ _ _ _ _ _ n_range (@zad _ _ _ _ _ _ (@zae _ _ _ _ _) (@zai _ _) (by rfl)) (by rfl) (by rfl)) (fun _ _ _ _ nd2 => ⟨(@zaJ _ _ 0 _ nd2 (by rfl) (by walk_at "o2") (by walk_at "o4")), (@zcJ _ _), (@zao _ _ _ _ _ _ _ _ _ _ (C.lc _ _ _ _ _ _) F__law_place (@zad _ _ _ _ _ _ (@ziN _ _ _ _ _ _ _ _ _ _ (@zaa _ _ 3 _ _ (by rfl) (by walk_at "o3") (by decide) (by decide)) (@zc5 _ _ _ _ (@za6 _ _ _ _ _ _ _ (@zae _ _ _ _ _) (@zaq _ _ _ _ _ _ _ (@zae _ _ _ _ _) (@zaa _ _ 0 _ _ (by rfl) (by walk_at "o3") (by decide) (by decide))))) (@zc5 _ _ _ _ (@za6 _ _ _ _ _ _ _ (@zae _ _ _ _ _) (@zaq _ _ _ _ _ _ _ (@zae _ _ _ _ _) (@zaa _ _ 0 _ _ (by rfl) (by walk_at "o3") (by decide) (by decide)))))) (@zai _ _) (by rfl)) (by rfl) (by decide) (by rfl) (by rfl))⟩) (by rfl) (by rfl) (by rfl) (by rfl) (by intro _ ; rfl)) (@zah _ _ _ _ _ _ _ _ _ _ (@zan _ _ _ _ _ _ _ _ 6 nd (@ziN _ _ _ _ _ _ _ _ _ _ (@zaa _ _ 4 _ _ (by rfl) (by walk_at "o3") (by decide) (by decide)) (@zfj _ _) (@zc5 _ _ _ _ (@zae _ _ _ _ _))) (by rfl) (by walk_at "o2") (by rfl) (by walk_at "o4")) (@zah _ _ _ _ _ _ _ _ _ _ (@zcL _ _ _ _ _ _ _ _ _ _ _ _ (@zaH _ _ _ _ _ _ _ _ _ (@zdM _ _ _ C) (@zbw _ _ _ _ _ _ _ (@zam _ _ _ _ _ _ _ (@zaa _ _ 2 _ _ (by rfl) (by walk_at "o3") (by decide) (by decide)) (@zae _ _ _ _ _) (by intro _ _ ; rfl)) (@zae _ _ _ _ _)) (@zae _ _ _ _ _) (by first | exact zal _ (by decide) (by decide) | rfl)) (@zak _ _ _ _ _ _ _ (@zan _ _ _ _ _ _ _ _ 6 nd (@ziN _ _ _ _ _ _ _ _ _ _ (@zaa _ _ 5 _ _ (by rfl) (by walk_at "o3") (by decide) (by decide)) (@zfj _ _) (@zc5 _ _ _ _ (@zae _ _ _ _ _))) (by rfl) (by walk_at "o2") (by rfl) (by walk_at "o4"))) (@zaZ _ _ _ _)) (@zah _ _ _ _ _ _ _ _ _ _ (@zcL _ _ _ _ _ _ _ _ _ _ _ _ (@zdL _ _ _ _ _ (@zcO _ _ _ _ (@zao _ _ _ _ _ _ _ _ _ _ C F__law_right (@zad _ _ _ _ _ _ (@zaa _ _ 6 _ _ (by rfl) (by walk_at "o3") (by decide) (by decide)) (@zad _ _ _ _ _ _ (@DF.val _ _ _ _ (@zbJ _ _ _ _ _ (@zad _ _ _ _ _ _ (@zam _ _ _ _ _ _ _ (@zaa _ _ 4 _ _ (by rfl) (by walk_at "o3") (by decide) (by decide)) (@zae _ _ _ _ _) (by intro _ _ ; rfl)) (@zad _ _ _ _ _ _ (@zam _ _ _ _ _ _ _ (@zaa _ _ 5 _ _ (by rfl) (by walk_at "o3") (by decide) (by decide)) (@zae _ _ _ _ _) (by intro _ _ ; rfl)) (@zai _ _) (by rfl)) (by rfl)))) (@zad _ _ _ _ _ _ (@za6 _ _ _ _ _ _ _ (@zae _ _ _ _ _) (@zbw _ _ _ _ _ _ _ (@zam _ _ _ _ _ _ _ (@zaa _ _ 2 _ _ (by rfl) (by walk_at "o3") (by decide) (by decide)) (@zae _ _ _ _ _) (by intro _ _ ; rfl)) (@zae _ _ _ _ _))) (@zai _ _) (by rfl)) (by rfl)) (by rfl)) (by rfl) (by decide) (by rfl) (by rfl)) (by intro _ ; rfl))) (@zak _ _ _ _ _ _ _ (@zaB _ _ _ _ _ _ _ _ (@zep _ _ _ _ _))) (@zaZ _ _ _ _)) (@zah _ _ _ _ _ _ _ _ _ _ (@zan _ _ _ _ _ _ _ _ 7 nd (@zam _ _ _ _ _ _ _ (@DF.val _ _ _ _ (@zbJ _ _ _ _ _ (@zad _ _ _ _ _ _ (@znq _ _ _ _) (@zad _ _ _ _ _ _ (@zqA _ _ _ _ _) (@zad _ _ _ _ _ _ (@zce _ _ _ _ _ _ (@zad _ _ _ _ _ _ (@zae _ _ _ _ _) (@zad _ _ _ _ _ _ (@zae _ _ _ _ _) (@zad _ _ _ _ _ _ (@zae _ _ _ _ _) (@zai _ _) (by rfl)) (by rfl)) (by rfl))) (@zad _ _ _ _ _ _ (@zce _ _ _ _ _ _ (@zad _ _ _ _ _ _ (@zae _ _ _ _ _) (@zad _ _ _ _ _ _ (@zae _ _ _ _ _) (@zad _ _ _ _ _ _ (@zae _ _ _ _ _) (@zai _ _) (by rfl)) (by rfl)) (by rfl))) (@zad _ _ _ _ _ _ (@zce _ _ _ _ _ _ (@zad _ _ _ _ _ _ (@zae _ _ _ _ _) (@zad _ _ _ _ _ _ (@zae _ _ _ _ _) (@zai _ _) (by rfl)) (by rfl))) (@zad _ _ _ _ _ _ (@DF.val _ _ _ _ (@zbJ _ _ _ _ _ (@zad _ _ _ _ _ _ (@zae _ _ _ _ _) (@zad _ _ _ _ _ _ (@zae _ _ _ _ _) (@zad _ _ _ _ _ _ (@zae _ _ _ _ _) (@zai _ _) (by rfl)) (by rfl)) (by rfl)))) (@zad _ _ _ _ _ _ (@zce _ _ _ _ _ _ (@zad _ _ _ _ _ _ (@zep _ _ _ _ _) (@zad _ _ _ _ _ _ (@zae _ _ _ _ _) (@zad _ _ _ _ _ _ (@zae _ _ _ _ _) (@zai _ _) (by rfl)) (by rfl)) (by rfl))) (@zai _ _) (by rfl)) (by rfl)) (by rfl)) (by rfl)) (by rfl)) (by rfl)) (by rfl)))) (@zbw _ _ _ _ _ _ _ (@zam _ _ _ _ _ _ _ (@zaa _ _ 2 _ _ (by rfl) (by walk_at "o3") (by decide) (by decide)) (@zae _ _ _ _ _) (by intro _ _ ; rfl)) (@zae _ _ _ _ _)) (by intro _ _ ; rfl)) (by rfl) (by walk_at "o2") (by rfl) (by walk_at "o4")) (@zah _ _ _ _ _ _ _ _ _ _ (@zan _ _ _ _ _ _ _ _ 8 nd (@zam _ _ _ _ _ _ _ (@DF.val _ _ _ _ (@zbJ _ _ _ _ _ (@zad _ _ _ _ _ _ (@ziN _ _ _ _ _ _ _ _ _ _ (@zaa _ _ 6 _ _ (by rfl) (by walk_at "o3") (by decide) (by decide)) (@zfj _ _) (@zc5 _ _ _ _ (@zae _ _ _ _ _))) (@zad _ _ _ _ _ _ (@za6 _ _ _ _ _ _ _ (@zaa _ _ 6 _ _ (by rfl) (by walk_at "o3") (by decide) (by decide)) (@DF.val _ _ _ _ (@zbJ _ _ _ _ _ (@zad _ _ _ _ _ _ (@zam _ _ _ _ _ _ _ (@zaa _ _ 4 _ _ (by rfl) (by walk_at "o3") (by decide) (by decide)) (@zae _ _ _ _ _) (by intro _ _ ; rfl)) (@zai _ _) (by rfl))))) (@zad _ _ _ _ _ _ (@zle _ _ _ _ _ _ _ n_tuple (@zad _ _ _ _ _ _ (@zaa _ _ 6 _ _ (by rfl) (by walk_at "o3") (by decide) (by decide)) (@zai _ _) (by rfl)) (by rfl) (by rfl) (by rfl)) (@zad _ _ _ _ _ _ (@znq _ _ _ _) (@zad _ _ _ _ _ _ (@DF.val _ _ _ _ (@zbJ _ _ _ _ _ (@zai _ _))) (@zad _ _ _ _ _ _ (@za6 _ _ _ _ _ _ _ (@ziN _ _ _ _ _ _ _ _ _ _ (@zaa _ _ 6 _ _ (by rfl) (by walk_at "o3") (by decide) (by decide)) (@zfj _ _) (@zc5 _ _ _ _ (@zae _ _ _ _ _))) (@DF.val _ _ _ _ (@zbJ _ _ _ _ _ (@zad _ _ _ _ _ _ (@zaa _ _ 7 _ _ (by rfl) (by walk_at "o3") (by decide) (by decide)) (@zai _ _) (by rfl))))) (@zad _ _ _ _ _ _ (@za6 _ _ _ _ _ _ _ (@DF.val _ _ _ _ (@zbJ _ _ _ _ _ (@zad _ _ _ _ _ _ (@zaa _ _ 7 _ _ (by rfl) (by walk_at "o3") (by decide) (by decide)) (@zai _ _) (by rfl)))) (@ziN _ _ _ _ _ _ _ _ _ _ (@zaa _ _ 6 _ _ (by rfl) (by walk_at "o3") (by decide) (by decide)) (@zc5 _ _ _ _ (@zae _ _ _ _ _)) (@zfj _ _))) (@zai _ _) (by rfl)) (by rfl)) (by rfl)) (by rfl)) (by rfl)) (by rfl)) (by rfl)))) (@zbw _ _ _ _ _ _ _ (@zam _ _ _ _ _ _ _ (@zaa _ _ 2 _ _ (by rfl) (by walk_at "o3") (by decide) (by decide)) (@zae _ _ _ _ _) (by intro _ _ ; rfl)) (@zae _ _ _ _ _)) (by intro _ _ ; rfl)) (by rfl) (by walk_at "o2") (by rfl) (by walk_at "o4")) (@zak _ _ _ _ _ _ _ (@zcL _ _ _ _ _ _ _ _ _ _ _ _ (@zdL _ _ _ _ _ (@zcO _ _ _ _ (@zao _ _ _ _ _ _ _ _ _ _ C F__law_refused (@zad _ _ _ _ _ _ (@zaa _ _ 8 _ _ (by rfl) (by walk_at "o3") (by decide) (by decide)) (@zai _ _) (by rfl)) (by rfl) (by decide) (by rfl) (by rfl)) (by intro _ ; rfl))) (@zak _ _ _ _ _ _ _ (@zaB _ _ _ _ _ _ _ _ (@zep _ _ _ _ _))) (@zaZ _ _ _ _)))))))))))) (by rfl) (by intro _ ; rfl)) (@zak _ _ _ _ _ _ _ (@zaB _ _ _ _ _ _ _ _ (@zep _ _ _ _ _))))
set_option maxHeartbeats 4000000 in
theorem all_mk {l : PySem.W.OpenLaw} {w : World} {K : PySem.W.Frag} {h : Heap} {mg : Str → Option Value} {fa f0 f1 f2 f3 f4 f5 f6 f7 f8 f9 f10 f11 f12 f13 f14 f15 f16 f17 f18 f19 f20 f21 f22 f23 f24 f25 f26 f27 f28 f29 f30 f31 f32 f33 : Addr} (X : K.In h) (G : h.Ns mainGlobals mg) (hfa : mg "law" = some (.ref fa))
  {od0 an0 od1 an1 od2 an2 od3 an3 od4 an4 od5 an5 od6 an6 od7 an7 od8 an8 od9 an9 od10 an10 od11 an11 od12 an12 od13 an13 od14 an14 od15 an15 od16 an16 od17 an17 od18 an18 od19 an19 od20 an20 od21 an21 od22 an22 od23 an23 od24 an24 od25 an25 od26 an26 od27 an27 od28 an28 od29 an29 od30 an30 od31 an31 od32 an32 od33 an33 : Option Addr} {sl0 sl1 sl2 sl3 sl4 sl5 sl6 sl7 sl8 sl9 sl10 sl11 sl12 sl13 sl14 sl15 sl16 sl17 sl18 sl19 sl20 sl21 sl22 sl23 sl24 sl25 sl26 sl27 sl28 sl29 sl30 sl31 sl32 sl33 : Array (Option Value)} {oc0 kV0 dc0 pm0 cd0 ct0 oc1 kV1 dc1 pm1 cd1 ct1 oc2 kV2 dc2 pm2 cd2 ct2 oc3 kV3 dc3 pm3 cd3 ct3 oc4 kV4 dc4 pm4 cd4 ct4 oc5 kV5 dc5 pm5 cd5 ct5 oc6 kV6 dc6 pm6 cd6 ct6 oc7 kV7 dc7 pm7 cd7 ct7 oc8 kV8 dc8 pm8 cd8 ct8 oc9 kV9 dc9 pm9 cd9 ct9 oc10 kV10 dc10 pm10 cd10 ct10 oc11 kV11 dc11 pm11 cd11 ct11 oc12 kV12 dc12 pm12 cd12 ct12 oc13 kV13 dc13 pm13 cd13 ct13 oc14 kV14 dc14 pm14 cd14 ct14 oc15 kV15 dc15 pm15 cd15 ct15 oc16 kV16 dc16 pm16 cd16 ct16 oc17 kV17 dc17 pm17 cd17 ct17 oc18 kV18 dc18 pm18 cd18 ct18 oc19 kV19 dc19 pm19 cd19 ct19 oc20 kV20 dc20 pm20 cd20 ct20 oc21 kV21 dc21 pm21 cd21 ct21 oc22 kV22 dc22 pm22 cd22 ct22 oc23 kV23 dc23 pm23 cd23 ct23 oc24 kV24 dc24 pm24 cd24 ct24 oc25 kV25 dc25 pm25 cd25 ct25 oc26 kV26 dc26 pm26 cd26 ct26 oc27 kV27 dc27 pm27 cd27 ct27 oc28 kV28 dc28 pm28 cd28 ct28 oc29 kV29 dc29 pm29 cd29 ct29 oc30 kV30 dc30 pm30 cd30 ct30 oc31 kV31 dc31 pm31 cd31 ct31 oc32 kV32 dc32 pm32 cd32 ct32 oc33 kV33 dc33 pm33 cd33 ct33 : Value}
  {C_ChalkError C_NoPlace C_Same C_NoRatio C_NoBow : Addr}
  (a0 : PySem.W.nsIn K mainGlobals "_law_numbers" = some (some (.ref f0))) (l0 : K.lookup f0 = some ⟨oc0, od0, .func (PySem.W.fnOf "_law_numbers" "_law_numbers" (zax zbB) (zau zbB) (zag zbB) .none kV0 dc0 pm0 an0 cd0 ct0), sl0⟩) (c0 : PySem.W.codeIn K cd0 "_law_numbers" = true) (k0 : PySem.W.keepIn K (.ref f0) = true)
  (a1 : PySem.W.nsIn K mainGlobals "_law_det" = some (some (.ref f1))) (l1 : K.lookup f1 = some ⟨oc1, od1, .func (PySem.W.fnOf "_law_det" "_law_det" (zax zcV) (zau zcV) (zag zcV) .none kV1 dc1 pm1 an1 cd1 ct1), sl1⟩) (c1 : PySem.W.codeIn K cd1 "_law_det" = true) (k1 : PySem.W.keepIn K (.ref f1) = true)
  (a2 : PySem.W.nsIn K mainGlobals "_law_change" = some (some (.ref f2))) (l2 : K.lookup f2 = some ⟨oc2, od2, .func (PySem.W.fnOf "_law_change" "_law_change" (zax zba) (zau zba) (zag zba) .none kV2 dc2 pm2 an2 cd2 ct2), sl2⟩) (c2 : PySem.W.codeIn K cd2 "_law_change" = true) (k2 : PySem.W.keepIn K (.ref f2) = true)
  (a3 : PySem.W.nsIn K mainGlobals "_law_lowest" = some (some (.ref f3))) (l3 : K.lookup f3 = some ⟨oc3, od3, .func (PySem.W.fnOf "_law_lowest" "_law_lowest" (zax zbs) (zau zbs) (zag zbs) .none kV3 dc3 pm3 an3 cd3 ct3), sl3⟩) (c3 : PySem.W.codeIn K cd3 "_law_lowest" = true) (k3 : PySem.W.keepIn K (.ref f3) = true)
  (a4 : PySem.W.nsIn K mainGlobals "_law_dot" = some (some (.ref f4))) (l4 : K.lookup f4 = some ⟨oc4, od4, .func (PySem.W.fnOf "_law_dot" "_law_dot" (zax zcW) (zau zcW) (zag zcW) .none kV4 dc4 pm4 an4 cd4 ct4), sl4⟩) (c4 : PySem.W.codeIn K cd4 "_law_dot" = true) (k4 : PySem.W.keepIn K (.ref f4) = true)
  (a5 : PySem.W.nsIn K mainGlobals "_law_led" = some (some (.ref f5))) (l5 : K.lookup f5 = some ⟨oc5, od5, .func (PySem.W.fnOf "_law_led" "_law_led" (zax zcX) (zau zcX) (zag zcX) .none kV5 dc5 pm5 an5 cd5 ct5), sl5⟩) (c5 : PySem.W.codeIn K cd5 "_law_led" = true) (k5 : PySem.W.keepIn K (.ref f5) = true)
  (a6 : PySem.W.nsIn K mainGlobals "_law_curve" = some (some (.ref f6))) (l6 : K.lookup f6 = some ⟨oc6, od6, .func (PySem.W.fnOf "_law_curve" "_law_curve" (zax zb5) (zau zb5) (zag zb5) .none kV6 dc6 pm6 an6 cd6 ct6), sl6⟩) (c6 : PySem.W.codeIn K cd6 "_law_curve" = true) (k6 : PySem.W.keepIn K (.ref f6) = true)
  (a7 : PySem.W.nsIn K mainGlobals "_law_place" = some (some (.ref f7))) (l7 : K.lookup f7 = some ⟨oc7, od7, .func (PySem.W.fnOf "_law_place" "_law_place" (zax zb6) (zau zb6) (zag zb6) .none kV7 dc7 pm7 an7 cd7 ct7), sl7⟩) (c7 : PySem.W.codeIn K cd7 "_law_place" = true) (k7 : PySem.W.keepIn K (.ref f7) = true)
  (a8 : PySem.W.nsIn K mainGlobals "_law_lines" = some (some (.ref f8))) (l8 : K.lookup f8 = some ⟨oc8, od8, .func (PySem.W.fnOf "_law_lines" "_law_lines" (zax zb7) (zau zb7) (zag zb7) .none kV8 dc8 pm8 an8 cd8 ct8), sl8⟩) (c8 : PySem.W.codeIn K cd8 "_law_lines" = true) (k8 : PySem.W.keepIn K (.ref f8) = true)
  (a9 : PySem.W.nsIn K mainGlobals "divisor" = some (some (.ref f9))) (l9 : K.lookup f9 = some ⟨oc9, od9, .func (PySem.W.fnOf "divisor" "divisor" (zax zdW) (zau zdW) (zag zdW) .none kV9 dc9 pm9 an9 cd9 ct9), sl9⟩) (c9 : PySem.W.codeIn K cd9 "divisor" = true) (k9 : PySem.W.keepIn K (.ref f9) = true)
  (a10 : PySem.W.nsIn K mainGlobals "in_form" = some (some (.ref f10))) (l10 : K.lookup f10 = some ⟨oc10, od10, .func (PySem.W.fnOf "in_form" "in_form" (zax zdc) (zau zdc) (zag zdc) .none kV10 dc10 pm10 an10 cd10 ct10), sl10⟩) (c10 : PySem.W.codeIn K cd10 "in_form" = true) (k10 : PySem.W.keepIn K (.ref f10) = true)
  (a11 : PySem.W.nsIn K mainGlobals "cross" = some (some (.ref f11))) (l11 : K.lookup f11 = some ⟨oc11, od11, .func (PySem.W.fnOf "cross" "cross" (zax zf7) (zau zf7) (zag zf7) .none kV11 dc11 pm11 an11 cd11 ct11), sl11⟩) (c11 : PySem.W.codeIn K cd11 "cross" = true) (k11 : PySem.W.keepIn K (.ref f11) = true)
  (a12 : PySem.W.nsIn K mainGlobals "between_two" = some (some (.ref f12))) (l12 : K.lookup f12 = some ⟨oc12, od12, .func (PySem.W.fnOf "between_two" "between_two" (zax zbT) (zau zbT) (zag zbT) .none kV12 dc12 pm12 an12 cd12 ct12), sl12⟩) (c12 : PySem.W.codeIn K cd12 "between_two" = true) (k12 : PySem.W.keepIn K (.ref f12) = true)
  (a13 : PySem.W.nsIn K mainGlobals "through" = some (some (.ref f13))) (l13 : K.lookup f13 = some ⟨oc13, od13, .func (PySem.W.fnOf "through" "through" (zax zdX) (zau zdX) (zag zdX) .none kV13 dc13 pm13 an13 cd13 ct13), sl13⟩) (c13 : PySem.W.codeIn K cd13 "through" = true) (k13 : PySem.W.keepIn K (.ref f13) = true)
  (a14 : PySem.W.nsIn K mainGlobals "dot" = some (some (.ref f14))) (l14 : K.lookup f14 = some ⟨oc14, od14, .func (PySem.W.fnOf "dot" "dot" (zax zmK) (zau zmK) (zag zmK) .none kV14 dc14 pm14 an14 cd14 ct14), sl14⟩) (c14 : PySem.W.codeIn K cd14 "dot" = true) (k14 : PySem.W.keepIn K (.ref f14) = true)
  (a15 : PySem.W.nsIn K mainGlobals "lies" = some (some (.ref f15))) (l15 : K.lookup f15 = some ⟨oc15, od15, .func (PySem.W.fnOf "lies" "lies" (zax zit) (zau zit) (zag zit) .none kV15 dc15 pm15 an15 cd15 ct15), sl15⟩) (c15 : PySem.W.codeIn K cd15 "lies" = true) (k15 : PySem.W.keepIn K (.ref f15) = true)
  (a16 : PySem.W.nsIn K mainGlobals "on_one" = some (some (.ref f16))) (l16 : K.lookup f16 = some ⟨oc16, od16, .func (PySem.W.fnOf "on_one" "on_one" (zax zdA) (zau zdA) (zag zdA) .none kV16 dc16 pm16 an16 cd16 ct16), sl16⟩) (c16 : PySem.W.codeIn K cd16 "on_one" = true) (k16 : PySem.W.keepIn K (.ref f16) = true)
  (a17 : PySem.W.nsIn K mainGlobals "has_three_on_one" = some (some (.ref f17))) (l17 : K.lookup f17 = some ⟨oc17, od17, .func (PySem.W.fnOf "has_three_on_one" "has_three_on_one" (zax zaW) (zau zaW) (zag zaW) .none kV17 dc17 pm17 an17 cd17 ct17), sl17⟩) (c17 : PySem.W.codeIn K cd17 "has_three_on_one" = true) (k17 : PySem.W.keepIn K (.ref f17) = true)
  (a18 : PySem.W.nsIn K mainGlobals "is_whole" = some (some (.ref f18))) (l18 : K.lookup f18 = some ⟨oc18, od18, .func (PySem.W.fnOf "is_whole" "is_whole" (zax zcY) (zau zcY) (zag zcY) .none kV18 dc18 pm18 an18 cd18 ct18), sl18⟩) (c18 : PySem.W.codeIn K cd18 "is_whole" = true) (k18 : PySem.W.keepIn K (.ref f18) = true)
  (a19 : PySem.W.nsIn K mainGlobals "makes_place" = some (some (.ref f19))) (l19 : K.lookup f19 = some ⟨oc19, od19, .func (PySem.W.fnOf "makes_place" "makes_place" (zax zbt) (zau zbt) (zag zbt) .none kV19 dc19 pm19 an19 cd19 ct19), sl19⟩) (c19 : PySem.W.codeIn K cd19 "makes_place" = true) (k19 : PySem.W.keepIn K (.ref f19) = true)
  (a20 : PySem.W.nsIn K mainGlobals "is_place" = some (some (.ref f20))) (l20 : K.lookup f20 = some ⟨oc20, od20, .func (PySem.W.fnOf "is_place" "is_place" (zax zcZ) (zau zcZ) (zag zcZ) .none kV20 dc20 pm20 an20 cd20 ct20), sl20⟩) (c20 : PySem.W.codeIn K cd20 "is_place" = true) (k20 : PySem.W.keepIn K (.ref f20) = true)
  (a21 : PySem.W.nsIn K mainGlobals "is_floor" = some (some (.ref f21))) (l21 : K.lookup f21 = some ⟨oc21, od21, .func (PySem.W.fnOf "is_floor" "is_floor" (zax zcx) (zau zcx) (zag zcx) .none kV21 dc21 pm21 an21 cd21 ct21), sl21⟩) (c21 : PySem.W.codeIn K cd21 "is_floor" = true) (k21 : PySem.W.keepIn K (.ref f21) = true)
  (a22 : PySem.W.nsIn K mainGlobals "look_at_bent" = some (some (.ref f22))) (l22 : K.lookup f22 = some ⟨oc22, od22, .func (PySem.W.fnOf "look_at_bent" "look_at_bent" (zax zbC) (zau zbC) (zag zbC) .none kV22 dc22 pm22 an22 cd22 ct22), sl22⟩) (c22 : PySem.W.codeIn K cd22 "look_at_bent" = true) (k22 : PySem.W.keepIn K (.ref f22) = true)
  (a23 : PySem.W.nsIn K mainGlobals "lowest" = some (some (.ref f23))) (l23 : K.lookup f23 = some ⟨oc23, od23, .func (PySem.W.fnOf "lowest" "lowest" (zax zdB) (zau zdB) (zag zdB) .none kV23 dc23 pm23 an23 cd23 ct23), sl23⟩) (c23 : PySem.W.codeIn K cd23 "lowest" = true) (k23 : PySem.W.keepIn K (.ref f23) = true)
  (a24 : PySem.W.nsIn K mainGlobals "pair_as_bow" = some (some (.ref f24))) (l24 : K.lookup f24 = some ⟨oc24, od24, .func (PySem.W.fnOf "pair_as_bow" "pair_as_bow" (zax zbb) (zau zbb) (zag zbb) .none kV24 dc24 pm24 an24 cd24 ct24), sl24⟩) (c24 : PySem.W.codeIn K cd24 "pair_as_bow" = true) (k24 : PySem.W.keepIn K (.ref f24) = true)
  (a25 : PySem.W.nsIn K mainGlobals "bow_of" = some (some (.ref f25))) (l25 : K.lookup f25 = some ⟨oc25, od25, .func (PySem.W.fnOf "bow_of" "bow_of" (zax zeb) (zau zeb) (zag zeb) .none kV25 dc25 pm25 an25 cd25 ct25), sl25⟩) (c25 : PySem.W.codeIn K cd25 "bow_of" = true) (k25 : PySem.W.keepIn K (.ref f25) = true)
  (a26 : PySem.W.nsIn K mainGlobals "on_bow" = some (some (.ref f26))) (l26 : K.lookup f26 = some ⟨oc26, od26, .func (PySem.W.fnOf "on_bow" "on_bow" (zax zec) (zau zec) (zag zec) .none kV26 dc26 pm26 an26 cd26 ct26), sl26⟩) (c26 : PySem.W.codeIn K cd26 "on_bow" = true) (k26 : PySem.W.keepIn K (.ref f26) = true)
  (a27 : PySem.W.nsIn K mainGlobals "_law_refused" = some (some (.ref f27))) (l27 : K.lookup f27 = some ⟨oc27, od27, .func (PySem.W.fnOf "_law_refused" "_law_refused" (zax zbD) (zau zbD) (zag zbD) .none kV27 dc27 pm27 an27 cd27 ct27), sl27⟩) (c27 : PySem.W.codeIn K cd27 "_law_refused" = true) (k27 : PySem.W.keepIn K (.ref f27) = true)
  (a28 : PySem.W.nsIn K mainGlobals "_law_is_lowest" = some (some (.ref f28))) (l28 : K.lookup f28 = some ⟨oc28, od28, .func (PySem.W.fnOf "_law_is_lowest" "_law_is_lowest" (zax zaY) (zau zaY) (zag zaY) .none kV28 dc28 pm28 an28 cd28 ct28), sl28⟩) (c28 : PySem.W.codeIn K cd28 "_law_is_lowest" = true) (k28 : PySem.W.keepIn K (.ref f28) = true)
  (a29 : PySem.W.nsIn K mainGlobals "_law_comes" = some (some (.ref f29))) (l29 : K.lookup f29 = some ⟨oc29, od29, .func (PySem.W.fnOf "_law_comes" "_law_comes" (zax zb8) (zau zb8) (zag zb8) .none kV29 dc29 pm29 an29 cd29 ct29), sl29⟩) (c29 : PySem.W.codeIn K cd29 "_law_comes" = true) (k29 : PySem.W.keepIn K (.ref f29) = true)
  (a30 : PySem.W.nsIn K mainGlobals "_law_whole" = some (some (.ref f30))) (l30 : K.lookup f30 = some ⟨oc30, od30, .func (PySem.W.fnOf "_law_whole" "_law_whole" (zax zb9) (zau zb9) (zag zb9) .none kV30 dc30 pm30 an30 cd30 ct30), sl30⟩) (c30 : PySem.W.codeIn K cd30 "_law_whole" = true) (k30 : PySem.W.keepIn K (.ref f30) = true)
  (a31 : PySem.W.nsIn K mainGlobals "_law_is_bow" = some (some (.ref f31))) (l31 : K.lookup f31 = some ⟨oc31, od31, .func (PySem.W.fnOf "_law_is_bow" "_law_is_bow" (zax zbc) (zau zbc) (zag zbc) .none kV31 dc31 pm31 an31 cd31 ct31), sl31⟩) (c31 : PySem.W.codeIn K cd31 "_law_is_bow" = true) (k31 : PySem.W.keepIn K (.ref f31) = true)
  (a32 : PySem.W.nsIn K mainGlobals "_law_right" = some (some (.ref f32))) (l32 : K.lookup f32 = some ⟨oc32, od32, .func (PySem.W.fnOf "_law_right" "_law_right" (zax zbQ) (zau zbQ) (zag zbQ) .none kV32 dc32 pm32 an32 cd32 ct32), sl32⟩) (c32 : PySem.W.codeIn K cd32 "_law_right" = true) (k32 : PySem.W.keepIn K (.ref f32) = true)
  (a33 : PySem.W.nsIn K mainGlobals "law" = some (some (.ref f33))) (l33 : K.lookup f33 = some ⟨oc33, od33, .func (PySem.W.fnOf "law" "law" (zax zhM) (zau zhM) (zag zhM) .none kV33 dc33 pm33 an33 cd33 ct33), sl33⟩) (c33 : PySem.W.codeIn K cd33 "law" = true) (k33 : PySem.W.keepIn K (.ref f33) = true)
  (z_max : PySem.W.nsIn K mainGlobals "max" = some none)
  (z_range : PySem.W.nsIn K mainGlobals "range" = some none)
  (z_abs : PySem.W.nsIn K mainGlobals "abs" = some none)
  (z_len : PySem.W.nsIn K mainGlobals "len" = some none)
  (z_all : PySem.W.nsIn K mainGlobals "all" = some none)
  (z_isinstance : PySem.W.nsIn K mainGlobals "isinstance" = some none)
  (z_int : PySem.W.nsIn K mainGlobals "int" = some none)
  (z_bool : PySem.W.nsIn K mainGlobals "bool" = some none)
  (z_tuple : PySem.W.nsIn K mainGlobals "tuple" = some none)
  (z_list : PySem.W.nsIn K mainGlobals "list" = some none)
  (z_set : PySem.W.nsIn K mainGlobals "set" = some none)
  (z_zip : PySem.W.nsIn K mainGlobals "zip" = some none)
  (z_sum : PySem.W.nsIn K mainGlobals "sum" = some none)
  (z_ValueError : PySem.W.nsIn K mainGlobals "ValueError" = some none)
  (e_ChalkError : PySem.W.nsIn K mainGlobals "ChalkError" = some (some (.ref C_ChalkError)))
  (e_NoPlace : PySem.W.nsIn K mainGlobals "NoPlace" = some (some (.ref C_NoPlace)))
  (e_Same : PySem.W.nsIn K mainGlobals "Same" = some (some (.ref C_Same)))
  (e_NoRatio : PySem.W.nsIn K mainGlobals "NoRatio" = some (some (.ref C_NoRatio)))
  (e_NoBow : PySem.W.nsIn K mainGlobals "NoBow" = some (some (.ref C_NoBow)))
  (y_NoBow : PySem.W.excIn K C_NoBow [.type "ValueError", .type "Exception", .type "BaseException", .type "object"] "ValueError.__new__" = true)
  (xga_NoBow : PySem.W.findIn K (.ref C_NoBow) "__getattribute__" = some (some (.builtin "BaseException.__getattribute__")))
  (xgh_NoBow : PySem.W.findIn K (.ref C_NoBow) "__getattr__" = some none)
  (xbs_NoBow : PySem.W.mroIn K C_NoBow (.type "BaseException") = some true)
  (xob_NoBow : PySem.W.mroIn K C_NoBow (.type "object") = some true)
  (xca_NoBow : PySem.W.findIn K (.ref C_NoBow) "__class__" = some (some (.builtin "object.__class__")))
  (xvv_NoBow : PySem.W.kitOne K (.ref C_NoBow) (.type "ValueError") = some true)
  (t_NoBow_ChalkError : PySem.W.kitOne K (.ref C_NoBow) (.ref C_ChalkError) = some true)
  (u_NoBow_ChalkError : PySem.W.exmOne K (.ref C_NoBow) (.ref C_ChalkError) = some true)
  (t_NoBow_NoPlace : PySem.W.kitOne K (.ref C_NoBow) (.ref C_NoPlace) = some false)
  (t_NoBow_Same : PySem.W.kitOne K (.ref C_NoBow) (.ref C_Same) = some false)
  (v_NoFloor : PySem.W.nsIn K mainGlobals "NoFloor" = some none)
  (v_Endless : PySem.W.nsIn K mainGlobals "Endless" = some none)
  (v_NoDeed : PySem.W.nsIn K mainGlobals "NoDeed" = some none)
  (v_NoText : PySem.W.nsIn K mainGlobals "NoText" = some none)
  (v_NoName : PySem.W.nsIn K mainGlobals "NoName" = some none)
  (v_TooMany : PySem.W.nsIn K mainGlobals "TooMany" = some none)
  (v_NoChange : PySem.W.nsIn K mainGlobals "NoChange" = some none)
  (v_NoFrame : PySem.W.nsIn K mainGlobals "NoFrame" = some none)
  (v_NoValue : PySem.W.nsIn K mainGlobals "NoValue" = some none)
  (v_Unlike : PySem.W.nsIn K mainGlobals "Unlike" = some none)
  (t_NoBow_NoRatio : PySem.W.kitOne K (.ref C_NoBow) (.ref C_NoRatio) = some false)
  (t_NoBow_NoBow : PySem.W.kitOne K (.ref C_NoBow) (.ref C_NoBow) = some true)
  (u_NoBow_NoBow : PySem.W.exmOne K (.ref C_NoBow) (.ref C_NoBow) = some true)
  (v_NoRow : PySem.W.nsIn K mainGlobals "NoRow" = some none)
  (xcg : PySem.W.specialIn K (.builtin "object.__class__") "__get__" = some (some (.builtin "getset_descriptor.__get__"))) (xct : PySem.W.takesIn K (.builtin "object.__class__") = some true)
  {t_MOST_PEGS : Tok} (q_MOST_PEGS : PySem.W.nsIn K mainGlobals "MOST_PEGS" = some (some (.int 12 t_MOST_PEGS)))
  (hlaw : ∀ ns : List Int, ns.length ≤ 63 → zfP [.lst (ns.map .int)] = .ok (.bl true))
  : ∃ fd : FuncData, (∀ (s : Shared) (v : Value), BindsTo s fd ⟨[v], []⟩ [("_law_script", v)]) ∧ ∀ base : Heap, K.In base → base.Ns mainGlobals mg → zhN l.prog w K mg base (CXe l.prog w) 11 fa fd ["_law_script"] (zpW K) := by
 have e := hfa.symm.trans (PySem.W.mg_of X G a33)
 cases e
 have F0 := zaT (st := zbB) l0 c0 k0
 have b0 := F0.binds (ps := ["_law_cell", "_law_many"]) fun _ _ _ _ _ _ us hl => match us, hl with | [_, _], _ => rfl
 have m0 := PySem.W.mg_of X G a0
 have F1 := zaT (st := zcV) l1 c1 k1
 have b1 := F1.binds (ps := ["_law_one", "_law_other", "_law_third"]) fun _ _ _ _ _ _ us hl => match us, hl with | [_, _, _], _ => rfl
 have m1 := PySem.W.mg_of X G a1
 have F2 := zaT (st := zba) l2 c2 k2
 have b2 := F2.binds (ps := ["_law_some"]) fun _ _ _ _ _ _ us hl => match us, hl with | [_], _ => rfl
 have m2 := PySem.W.mg_of X G a2
 have F3 := zaT (st := zbs) l3 c3 k3
 have b3 := F3.binds (ps := ["_law_x", "_law_y", "_law_z"]) fun _ _ _ _ _ _ us hl => match us, hl with | [_, _, _], _ => rfl
 have m3 := PySem.W.mg_of X G a3
 have F4 := zaT (st := zcW) l4 c4 k4
 have b4 := F4.binds (ps := ["_law_one", "_law_other"]) fun _ _ _ _ _ _ us hl => match us, hl with | [_, _], _ => rfl
 have m4 := PySem.W.mg_of X G a4
 have F5 := zaT (st := zcX) l5 c5 k5
 have b5 := F5.binds (ps := ["_law_rows", "_law_place_here"]) fun _ _ _ _ _ _ us hl => match us, hl with | [_, _], _ => rfl
 have m5 := PySem.W.mg_of X G a5
 have F6 := zaT (st := zb5) l6 c6 k6
 have b6 := F6.binds (ps := ["_law_some", "_law_rows"]) fun _ _ _ _ _ _ us hl => match us, hl with | [_, _], _ => rfl
 have m6 := PySem.W.mg_of X G a6
 have F7 := zaT (st := zb6) l7 c7 k7
 have b7 := F7.binds (ps := ["_law_some"]) fun _ _ _ _ _ _ us hl => match us, hl with | [_], _ => rfl
 have m7 := PySem.W.mg_of X G a7
 have F8 := zaT (st := zb7) l8 c8 k8
 have b8 := F8.binds (ps := ["_law_places"]) fun _ _ _ _ _ _ us hl => match us, hl with | [_], _ => rfl
 have m8 := PySem.W.mg_of X G a8
 have F9 := zaT (st := zdW) l9 c9 k9
 have b9 := F9.binds (ps := ["one", "other"]) fun _ _ _ _ _ _ us hl => match us, hl with | [_, _], _ => rfl
 have m9 := PySem.W.mg_of X G a9
 have F10 := zaT (st := zdc) l10 c10 k10
 have b10 := F10.binds (ps := ["numbers"]) fun _ _ _ _ _ _ us hl => match us, hl with | [_], _ => rfl
 have m10 := PySem.W.mg_of X G a10
 have F11 := zaT (st := zf7) l11 c11 k11
 have b11 := F11.binds (ps := ["one", "other"]) fun _ _ _ _ _ _ us hl => match us, hl with | [_, _], _ => rfl
 have m11 := PySem.W.mg_of X G a11
 have F12 := zaT (st := zbT) l12 c12 k12
 have b12 := F12.binds (ps := ["one", "other"]) fun _ _ _ _ _ _ us hl => match us, hl with | [_, _], _ => rfl
 have m12 := PySem.W.mg_of X G a12
 have F13 := zaT (st := zdX) l13 c13 k13
 have b13 := F13.binds (ps := ["one", "other"]) fun _ _ _ _ _ _ us hl => match us, hl with | [_, _], _ => rfl
 have m13 := PySem.W.mg_of X G a13
 have F14 := zaT (st := zmK) l14 c14 k14
 have b14 := F14.binds (ps := ["one", "other"]) fun _ _ _ _ _ _ us hl => match us, hl with | [_, _], _ => rfl
 have m14 := PySem.W.mg_of X G a14
 have F15 := zaT (st := zit) l15 c15 k15
 have b15 := F15.binds (ps := ["place", "line"]) fun _ _ _ _ _ _ us hl => match us, hl with | [_, _], _ => rfl
 have m15 := PySem.W.mg_of X G a15
 have F16 := zaT (st := zdA) l16 c16 k16
 have b16 := F16.binds (ps := ["places"]) fun _ _ _ _ _ _ us hl => match us, hl with | [_], _ => rfl
 have m16 := PySem.W.mg_of X G a16
 have F17 := zaT (st := zaW) l17 c17 k17
 have b17 := F17.binds (ps := ["places"]) fun _ _ _ _ _ _ us hl => match us, hl with | [_], _ => rfl
 have m17 := PySem.W.mg_of X G a17
 have F18 := zaT (st := zcY) l18 c18 k18
 have b18 := F18.binds (ps := ["thing"]) fun _ _ _ _ _ _ us hl => match us, hl with | [_], _ => rfl
 have m18 := PySem.W.mg_of X G a18
 have F19 := zaT (st := zbt) l19 c19 k19
 have b19 := F19.binds (ps := ["three"]) fun _ _ _ _ _ _ us hl => match us, hl with | [_], _ => rfl
 have m19 := PySem.W.mg_of X G a19
 have F20 := zaT (st := zcZ) l20 c20 k20
 have b20 := F20.binds (ps := ["thing"]) fun _ _ _ _ _ _ us hl => match us, hl with | [_], _ => rfl
 have m20 := PySem.W.mg_of X G a20
 have F21 := zaT (st := zcx) l21 c21 k21
 have b21 := F21.binds (ps := ["thing"]) fun _ _ _ _ _ _ us hl => match us, hl with | [_], _ => rfl
 have m21 := PySem.W.mg_of X G a21
 have F22 := zaT (st := zbC) l22 c22 k22
 have b22 := F22.binds (ps := ["places", "many"]) fun _ _ _ _ _ _ us hl => match us, hl with | [_, _], _ => rfl
 have m22 := PySem.W.mg_of X G a22
 have F23 := zaT (st := zdB) l23 c23 k23
 have b23 := F23.binds (ps := ["numbers"]) fun _ _ _ _ _ _ us hl => match us, hl with | [_], _ => rfl
 have m23 := PySem.W.mg_of X G a23
 have F24 := zaT (st := zbb) l24 c24 k24
 have b24 := F24.binds (ps := ["pair"]) fun _ _ _ _ _ _ us hl => match us, hl with | [_], _ => rfl
 have m24 := PySem.W.mg_of X G a24
 have F25 := zaT (st := zeb) l25 c25 k25
 have b25 := F25.binds (ps := ["five"]) fun _ _ _ _ _ _ us hl => match us, hl with | [_], _ => rfl
 have m25 := PySem.W.mg_of X G a25
 have F26 := zaT (st := zec) l26 c26 k26
 have b26 := F26.binds (ps := ["bow", "place"]) fun _ _ _ _ _ _ us hl => match us, hl with | [_, _], _ => rfl
 have m26 := PySem.W.mg_of X G a26
 have F27 := zaT (st := zbD) l27 c27 k27
 have b27 := F27.binds (ps := ["_law_thing"]) fun _ _ _ _ _ _ us hl => match us, hl with | [_], _ => rfl
 have m27 := PySem.W.mg_of X G a27
 have F28 := zaT (st := zaY) l28 c28 k28
 have b28 := F28.binds (ps := ["_law_bow"]) fun _ _ _ _ _ _ us hl => match us, hl with | [_], _ => rfl
 have m28 := PySem.W.mg_of X G a28
 have F29 := zaT (st := zb8) l29 c29 k29
 have b29 := F29.binds (ps := ["_law_bow", "_law_place_here"]) fun _ _ _ _ _ _ us hl => match us, hl with | [_, _], _ => rfl
 have m29 := PySem.W.mg_of X G a29
 have F30 := zaT (st := zb9) l30 c30 k30
 have b30 := F30.binds (ps := ["_law_found"]) fun _ _ _ _ _ _ us hl => match us, hl with | [_], _ => rfl
 have m30 := PySem.W.mg_of X G a30
 have F31 := zaT (st := zbc) l31 c31 k31
 have b31 := F31.binds (ps := ["_law_bow", "_law_five"]) fun _ _ _ _ _ _ us hl => match us, hl with | [_, _], _ => rfl
 have m31 := PySem.W.mg_of X G a31
 have F32 := zaT (st := zbQ) l32 c32 k32
 have b32 := F32.binds (ps := ["_law_five", "_law_others", "_law_step"]) fun _ _ _ _ _ _ us hl => match us, hl with | [_, _, _], _ => rfl
 have m32 := PySem.W.mg_of X G a32
 have F33 := zaT (st := zhM) l33 c33 k33
 have m33 := PySem.W.mg_of X G a33
 have n_max := PySem.W.mg_none_of X G z_max
 have n_range := PySem.W.mg_none_of X G z_range
 have n_abs := PySem.W.mg_none_of X G z_abs
 have n_len := PySem.W.mg_none_of X G z_len
 have n_all := PySem.W.mg_none_of X G z_all
 have n_isinstance := PySem.W.mg_none_of X G z_isinstance
 have n_int := PySem.W.mg_none_of X G z_int
 have n_bool := PySem.W.mg_none_of X G z_bool
 have n_tuple := PySem.W.mg_none_of X G z_tuple
 have n_list := PySem.W.mg_none_of X G z_list
 have n_set := PySem.W.mg_none_of X G z_set
 have n_zip := PySem.W.mg_none_of X G z_zip
 have n_sum := PySem.W.mg_none_of X G z_sum
 have n_ValueError := PySem.W.mg_none_of X G z_ValueError
 have c_ChalkError := PySem.W.mg_of X G e_ChalkError
 have c_NoPlace := PySem.W.mg_of X G e_NoPlace
 have c_Same := PySem.W.mg_of X G e_Same
 have c_NoRatio := PySem.W.mg_of X G e_NoRatio
 have c_NoBow := PySem.W.mg_of X G e_NoBow
 have nv_NoFloor := PySem.W.mg_none_of X G v_NoFloor
 have nv_Endless := PySem.W.mg_none_of X G v_Endless
 have nv_NoDeed := PySem.W.mg_none_of X G v_NoDeed
 have nv_NoText := PySem.W.mg_none_of X G v_NoText
 have nv_NoName := PySem.W.mg_none_of X G v_NoName
 have nv_TooMany := PySem.W.mg_none_of X G v_TooMany
 have nv_NoChange := PySem.W.mg_none_of X G v_NoChange
 have nv_NoFrame := PySem.W.mg_none_of X G v_NoFrame
 have nv_NoValue := PySem.W.mg_none_of X G v_NoValue
 have nv_Unlike := PySem.W.mg_none_of X G v_Unlike
 have nv_NoRow := PySem.W.mg_none_of X G v_NoRow
 have x_NoBow : zno K mg "NoBow" C_NoBow := zno.mk' c_NoBow ⟨by (obtain ⟨_, hc, _⟩ := PySem.W.kw_along xga_NoBow; rw [hc]; rfl), xga_NoBow, xgh_NoBow, xbs_NoBow, xob_NoBow, xca_NoBow, xcg, xct⟩ xvv_NoBow (zum (zbx.of (b := true) c_ChalkError t_NoBow_ChalkError (fun _ => u_NoBow_ChalkError)) (zbx.of (b := false) c_NoPlace t_NoBow_NoPlace (fun z => nomatch z)) (zbx.of (b := false) c_Same t_NoBow_Same (fun z => nomatch z)) (zbx.no nv_NoFloor) (zbx.no nv_Endless) (zbx.no nv_NoDeed) (zbx.no nv_NoText) (zbx.no nv_NoName) (zbx.no nv_TooMany) (zbx.no nv_NoChange) (zbx.no nv_NoFrame) (zbx.no nv_NoValue) (zbx.no nv_Unlike) (zbx.of (b := false) c_NoRatio t_NoBow_NoRatio (fun z => nomatch z)) (zbx.of (b := true) c_NoBow t_NoBow_NoBow (fun _ => u_NoBow_NoBow)) (zbx.no nv_NoRow))
 refine ⟨PySem.W.fnOf "law" "law" (zax zhM) (zau zhM) (zag zhM) .none kV33 dc33 pm33 an33 cd33 ct33, fun s v => .of_eq rfl, fun base _ _ => ?_⟩
 have k_MOST_PEGS_is : ∃ u v, mg "MOST_PEGS" = some u ∧ zcb v u ∧ ∀ G, Rep K mg G zc7 v := ⟨_, .int 12, PySem.W.mg_of X G q_MOST_PEGS, ⟨_, rfl⟩, fun _ => rfl⟩
 have G0 : zaC l.prog w K mg base 1 "_law_numbers" zaX := zhn (k := 0) F0 m0 b0 n_max n_range
 have G1 : zaC l.prog w K mg base 1 "_law_det" zbk := zkK (k := 0) F1 m1 b1
 have G2 : zaC l.prog w K mg base 2 "_law_change" zbM := zhG (k := 1) F2 m2 b2 n_range G1
 have G3 : zaC l.prog w K mg base 1 "_law_lowest" zaL := zhH (k := 0) F3 m3 b3 n_abs
 have G4 : zaC l.prog w K mg base 1 "_law_dot" zcG := zkL (k := 0) F4 m4 b4
 have G5 : zaC l.prog w K mg base 2 "_law_led" zbN := zkM (k := 1) F5 m5 b5 G3 G4
 have G6 : zaC l.prog w K mg base 3 "_law_curve" zct := ziX (k := 2) F6 m6 b6 n_range n_len G5
 have G7 : zaC l.prog w K mg base 2 "_law_place" za1 := ziY (k := 1) F7 m7 b7 G3
 have G8 : zaC l.prog w K mg base 2 "_law_lines" zcu := ziZ (k := 1) F8 m8 b8 n_range n_len G1
 have G9 : zaC l.prog w K mg base 1 "divisor" zbK := zmH (k := 0) F9 m9 b9 n_abs
 have G10 : zaC l.prog w K mg base 2 "in_form" zci := zmI (k := 1) F10 m10 b10 G9
 have G11 : zaC l.prog w K mg base 1 "cross" zf2 := zqo (k := 0) F11 m11 b11
 have G12 : zaC l.prog w K mg base 3 "between_two" za5 := zhI (k := 2) F12 m12 b12 G10 (G11.mono (by decide : 1 ≤ 2))
 have G13 : zaC l.prog w K mg base 4 "through" zaS := zmJ (k := 3) F13 m13 b13 G12
 have G14 : zaC l.prog w K mg base 1 "dot" zhc := zuN (k := 0) F14 m14 b14
 have G15 : zaC l.prog w K mg base 2 "lies" zdO := zsQ (k := 1) F15 m15 b15 G14
 have G16 : zaC l.prog w K mg base 5 "on_one" zbL := zo1 (k := 4) F16 m16 b16 n_len n_all G13 (G15.mono (by decide : 2 ≤ 4))
 have G17 : zaC l.prog w K mg base 6 "has_three_on_one" zaV := zfp (k := 5) F17 m17 b17 n_range n_len G16
 have G18 : zaC l.prog w K mg base 1 "is_whole" zcp := zkN (k := 0) F18 m18 b18 n_isinstance n_int n_bool
 have G19 : zaC l.prog w K mg base 2 "makes_place" zbn := zhJ (k := 1) F19 m19 b19 n_all G18
 have G20 : zaC l.prog w K mg base 3 "is_place" zav := zkO (k := 2) F20 m20 b20 n_isinstance n_tuple n_len G19 G10
 have G21 : zaC l.prog w K mg base 4 "is_floor" zaG := zkP (k := 3) F21 m21 b21 n_isinstance n_list n_len n_all n_set k_MOST_PEGS_is G20
 have G22 : zaC l.prog w K mg base 7 "look_at_bent" zaQ := zhu (k := 6) F22 m22 b22 c_NoBow y_NoBow x_NoBow n_len (G21.mono (by decide : 4 ≤ 6)) G17
 have G23 : zaC l.prog w K mg base 2 "lowest" zeP := zo2 (k := 1) F23 m23 b23 n_tuple G9
 have G24 : zaC l.prog w K mg base 1 "pair_as_bow" zbq := zhK (k := 0) F24 m24 b24 n_range
 have G25 : zaC l.prog w K mg base 8 "bow_of" zbG := zo3 (k := 7) F25 m25 b25 n_zip G22 (G13.mono (by decide : 4 ≤ 7)) (G14.mono (by decide : 1 ≤ 7)) (G24.mono (by decide : 1 ≤ 7)) (G23.mono (by decide : 2 ≤ 7))
 have G26 : zaC l.prog w K mg base 1 "on_bow" zeQ := zo4 (k := 0) F26 m26 b26 n_sum n_zip
 have G27 : zaC l.prog w K mg base 9 "_law_refused" zaM := zhv (k := 8) F27 m27 b27 c_ChalkError c_Same c_NoRatio c_NoPlace c_NoBow n_isinstance n_ValueError G25
 have G28 : zaC l.prog w K mg base 1 "_law_is_lowest" zbi := zf8 (k := 0) F28 m28 b28 n_abs
 have G29 : zaC l.prog w K mg base 1 "_law_comes" zbO := zi0 (k := 0) F29 m29 b29
 have G30 : zaC l.prog w K mg base 1 "_law_whole" zcr := zi3 (k := 0) F30 m30 b30 n_isinstance n_int n_bool
 have G31 : zaC l.prog w K mg base 2 "_law_is_bow" zb4 := zhL (k := 1) F31 m31 b31 n_isinstance n_tuple n_len G30 G28 G29
 have G32 : zaC l.prog w K mg base 10 "_law_right" zbA := zi4 (k := 9) F32 m32 b32 n_list n_isinstance n_bool n_range (G8.mono (by decide : 2 ≤ 9)) G27 (G25.mono (by decide : 8 ≤ 9)) (G31.mono (by decide : 2 ≤ 9)) (G26.mono (by decide : 1 ≤ 9)) (G29.mono (by decide : 1 ≤ 9))
 exact zun (zuO (P := l.prog) (w := w) (base := base) (k := 10) F33 n_range n_tuple (G0.mono (by decide : 1 ≤ 10)) (G2.mono (by decide : 2 ≤ 10)) (G6.mono (by decide : 3 ≤ 10)) (G7.mono (by decide : 2 ≤ 10)) G32 (G27.mono (by decide : 9 ≤ 10))) hlaw
end Kx
def PySem.W.Fast.tw11396947174941783270 := 0
def PySem.W.Fast.tw11651175896373048551 := 0
def PySem.W.Fast.tw16672407119251922727 := 0
def PySem.W.Fast.tw11260391365946826825 := 0
def PySem.W.Fast.tw17228943533203501193 := 0
def PySem.W.Fast.tw1078888685560667723 := 0
def PySem.W.Fast.tw18137837385450676075 := 0
def PySem.W.Fast.tw4297858636638523404 := 0
def PySem.W.Fast.tw15119419564537241485 := 0
def PySem.W.Fast.tw11645001308390977102 := 0
def PySem.W.Fast.tw5674739063122502574 := 0
def PySem.W.Fast.tw545760115480335921 := 0
def PySem.W.Fast.tw4292853517260331921 := 0
def PySem.W.Fast.tw15818292438036986005 := 0
def PySem.W.Fast.tw2617923367456970774 := 0
def PySem.W.Fast.tw3726846514258518872 := 0
def PySem.W.Fast.tw10300087986420997080 := 0
def PySem.W.Fast.tw14820170326893607387 := 0
def PySem.W.Fast.tw12479090895025940636 := 0
def PySem.W.Fast.tw16284907435212716508 := 0
def PySem.W.Fast.tw21985646465857084 := 0
open PySem PySem.W PyProof.Rows
set_option maxRecDepth 100000 in
set_option maxHeartbeats 0 in
theorem PySem.Challenge.cw_chalkline_k77_bows_holds : PySem.Challenge.rw_chalkline_k77_bows.Holds := by
 w_on; o_law; k_head; (case hw => w_witness2)
 k_fill
 refine DL.walkD (l := PySem.Challenge.rw_chalkline_k77_bows) 11 ⟨rfl, by decide, by decide⟩ rfl rfl (fun w h Y => PySem.W.kIn_of Y) ?F
 case F =>
  intro w mg fa h KX G hmg
  refine' Kx.all_mk KX G hmg ?a0 ?l0 ?c0 ?k0 ?a1 ?l1 ?c1 ?k1 ?a2 ?l2 ?c2 ?k2 ?a3 ?l3 ?c3 ?k3 ?a4 ?l4 ?c4 ?k4 ?a5 ?l5 ?c5 ?k5 ?a6 ?l6 ?c6 ?k6 ?a7 ?l7 ?c7 ?k7 ?a8 ?l8 ?c8 ?k8 ?a9 ?l9 ?c9 ?k9 ?a10 ?l10 ?c10 ?k10 ?a11 ?l11 ?c11 ?k11 ?a12 ?l12 ?c12 ?k12 ?a13 ?l13 ?c13 ?k13 ?a14 ?l14 ?c14 ?k14 ?a15 ?l15 ?c15 ?k15 ?a16 ?l16 ?c16 ?k16 ?a17 ?l17 ?c17 ?k17 ?a18 ?l18 ?c18 ?k18 ?a19 ?l19 ?c19 ?k19 ?a20 ?l20 ?c20 ?k20 ?a21 ?l21 ?c21 ?k21 ?a22 ?l22 ?c22 ?k22 ?a23 ?l23 ?c23 ?k23 ?a24 ?l24 ?c24 ?k24 ?a25 ?l25 ?c25 ?k25 ?a26 ?l26 ?c26 ?k26 ?a27 ?l27 ?c27 ?k27 ?a28 ?l28 ?c28 ?k28 ?a29 ?l29 ?c29 ?k29 ?a30 ?l30 ?c30 ?k30 ?a31 ?l31 ?c31 ?k31 ?a32 ?l32 ?c32 ?k32 ?a33 ?l33 ?c33 ?k33 ?z_max ?z_range ?z_abs ?z_len ?z_all ?z_isinstance ?z_int ?z_bool ?z_tuple ?z_list ?z_set ?z_zip ?z_sum ?z_ValueError ?e_ChalkError ?e_NoPlace ?e_Same ?e_NoRatio ?e_NoBow ?y_NoBow ?xga_NoBow ?xgh_NoBow ?xbs_NoBow ?xob_NoBow ?xca_NoBow ?xvv_NoBow ?t_NoBow_ChalkError ?u_NoBow_ChalkError ?t_NoBow_NoPlace ?t_NoBow_Same ?v_NoFloor ?v_Endless ?v_NoDeed ?v_NoText ?v_NoName ?v_TooMany ?v_NoChange ?v_NoFrame ?v_NoValue ?v_Unlike ?t_NoBow_NoRatio ?t_NoBow_NoBow ?u_NoBow_NoBow ?v_NoRow ?xcg ?xct ?q_MOST_PEGS ?hlaw
  (case a0 => k_is)
  (case l0 => k_is)
  (case c0 => k_is)
  (case k0 => k_is)
  (case a1 => k_is)
  (case l1 => k_is)
  (case c1 => k_is)
  (case k1 => k_is)
  (case a2 => k_is)
  (case l2 => k_is)
  (case c2 => k_is)
  (case k2 => k_is)
  (case a3 => k_is)
  (case l3 => k_is)
  (case c3 => k_is)
  (case k3 => k_is)
  (case a4 => k_is)
  (case l4 => k_is)
  (case c4 => k_is)
  (case k4 => k_is)
  (case a5 => k_is)
  (case l5 => k_is)
  (case c5 => k_is)
  (case k5 => k_is)
  (case a6 => k_is)
  (case l6 => k_is)
  (case c6 => k_is)
  (case k6 => k_is)
  (case a7 => k_is)
  (case l7 => k_is)
  (case c7 => k_is)
  (case k7 => k_is)
  (case a8 => k_is)
  (case l8 => k_is)
  (case c8 => k_is)
  (case k8 => k_is)
  (case a9 => k_is)
  (case l9 => k_is)
  (case c9 => k_is)
  (case k9 => k_is)
  (case a10 => k_is)
  (case l10 => k_is)
  (case c10 => k_is)
  (case k10 => k_is)
  (case a11 => k_is)
  (case l11 => k_is)
  (case c11 => k_is)
  (case k11 => k_is)
  (case a12 => k_is)
  (case l12 => k_is)
  (case c12 => k_is)
  (case k12 => k_is)
  (case a13 => k_is)
  (case l13 => k_is)
  (case c13 => k_is)
  (case k13 => k_is)
  (case a14 => k_is)
  (case l14 => k_is)
  (case c14 => k_is)
  (case k14 => k_is)
  (case a15 => k_is)
  (case l15 => k_is)
  (case c15 => k_is)
  (case k15 => k_is)
  (case a16 => k_is)
  (case l16 => k_is)
  (case c16 => k_is)
  (case k16 => k_is)
  (case a17 => k_is)
  (case l17 => k_is)
  (case c17 => k_is)
  (case k17 => k_is)
  (case a18 => k_is)
  (case l18 => k_is)
  (case c18 => k_is)
  (case k18 => k_is)
  (case a19 => k_is)
  (case l19 => k_is)
  (case c19 => k_is)
  (case k19 => k_is)
  (case a20 => k_is)
  (case l20 => k_is)
  (case c20 => k_is)
  (case k20 => k_is)
  (case a21 => k_is)
  (case l21 => k_is)
  (case c21 => k_is)
  (case k21 => k_is)
  (case a22 => k_is)
  (case l22 => k_is)
  (case c22 => k_is)
  (case k22 => k_is)
  (case a23 => k_is)
  (case l23 => k_is)
  (case c23 => k_is)
  (case k23 => k_is)
  (case a24 => k_is)
  (case l24 => k_is)
  (case c24 => k_is)
  (case k24 => k_is)
  (case a25 => k_is)
  (case l25 => k_is)
  (case c25 => k_is)
  (case k25 => k_is)
  (case a26 => k_is)
  (case l26 => k_is)
  (case c26 => k_is)
  (case k26 => k_is)
  (case a27 => k_is)
  (case l27 => k_is)
  (case c27 => k_is)
  (case k27 => k_is)
  (case a28 => k_is)
  (case l28 => k_is)
  (case c28 => k_is)
  (case k28 => k_is)
  (case a29 => k_is)
  (case l29 => k_is)
  (case c29 => k_is)
  (case k29 => k_is)
  (case a30 => k_is)
  (case l30 => k_is)
  (case c30 => k_is)
  (case k30 => k_is)
  (case a31 => k_is)
  (case l31 => k_is)
  (case c31 => k_is)
  (case k31 => k_is)
  (case a32 => k_is)
  (case l32 => k_is)
  (case c32 => k_is)
  (case k32 => k_is)
  (case a33 => k_is)
  (case l33 => k_is)
  (case c33 => k_is)
  (case k33 => k_is)
  (case z_max => k_is)
  (case z_range => k_is)
  (case z_abs => k_is)
  (case z_len => k_is)
  (case z_all => k_is)
  (case z_isinstance => k_is)
  (case z_int => k_is)
  (case z_bool => k_is)
  (case z_tuple => k_is)
  (case z_list => k_is)
  (case z_set => k_is)
  (case z_zip => k_is)
  (case z_sum => k_is)
  (case z_ValueError => k_is)
  (case e_ChalkError => k_is)
  (case e_NoPlace => k_is)
  (case e_Same => k_is)
  (case e_NoRatio => k_is)
  (case e_NoBow => k_is)
  (case y_NoBow => k_exc)
  (case xga_NoBow => k_is)
  (case xgh_NoBow => k_is)
  (case xbs_NoBow => k_is)
  (case xob_NoBow => k_is)
  (case xca_NoBow => k_is)
  (case xvv_NoBow => kit_is)
  (case t_NoBow_ChalkError => kit_is)
  (case u_NoBow_ChalkError => kts_exm)
  (case t_NoBow_NoPlace => kit_is)
  (case t_NoBow_Same => kit_is)
  (case v_NoFloor => k_is)
  (case v_Endless => k_is)
  (case v_NoDeed => k_is)
  (case v_NoText => k_is)
  (case v_NoName => k_is)
  (case v_TooMany => k_is)
  (case v_NoChange => k_is)
  (case v_NoFrame => k_is)
  (case v_NoValue => k_is)
  (case v_Unlike => k_is)
  (case t_NoBow_NoRatio => kit_is)
  (case t_NoBow_NoBow => kit_is)
  (case u_NoBow_NoBow => kts_exm)
  (case v_NoRow => k_is)
  (case xcg => k_is)
  (case xct => k_is)
  (case q_MOST_PEGS => k_is)
  (case hlaw => exact Lk77.law_ok)
end