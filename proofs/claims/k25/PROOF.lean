import PyProof.Rows.All
import Wide.All
import OpenK.AllK
import Wide.FinOn
import Lean
import PyProof.EqAt
import PyProof.EqKinds
import PyProof.TupleCall
import PyProof.NeKinds
import KE.KTryMore
import PyProof.NsDelKeeps
import PySem.SetTable
import PyProof.StrLawsChain
import PyProof.StrBlockL
import KE.KIntText
import PyProof.DictTable
import PyProof.SliceStr2
import PyProof.MeetsStr
import PyProof.StrWalks
import PyProof.TupleKey
import PyProof.SetKind
import PyProof.Rows.SetFrom
import PyProof.ZipIter
import PyProof.Rows.ZipGen
import PyProof.LayNew
import PyProof.ExcInit
import PyProof.ExcClass3
import PyProof.EnumFor
import PyProof.EnumMake
import PyProof.EnumStmt
import PyProof.Rows.StrNews
import PySem.Challenge.RW_chalkline_k25_no_plan
section
set_option Elab.async false
set_option linter.all false
set_option maxRecDepth 100000
namespace L2
open PySem PySem.Spec PyProof.Rows
abbrev Key := Sum Int Str
def keyIs : Key → Value → Bool
  | .inl k, v => Value.isInt k v
  | .inr x, v => Value.isStrOf x v
def keyH (w : World) : Key → Int
  | .inl k => hashInt k
  | .inr x => hashStr w x
theorem keyIs_shape : ∀ {k : Key} {v : Value}, keyIs k v = true → (∃ i t, k = Sum.inl i ∧ v = Value.int i t) ∨ (∃ x t, k = Sum.inr x ∧ v = Value.str x t)
  | .inl i, v, h => by
    obtain ⟨t, e⟩ := Value.isInt_shape (k := i) (v := v) h
    exact .inl ⟨i, t, rfl, e⟩
  | .inr x, v, h => by
    obtain ⟨t, e⟩ := Value.isStrOf_shape (x := x) (v := v) h
    exact .inr ⟨x, t, rfl, e⟩
theorem key_ll (a b : Int) : decide ((Sum.inl a : Key) = Sum.inl b) = (a == b) := by
  by_cases e : a = b
  · subst e; simp
  · have h : ¬ (Sum.inl a : Key) = Sum.inl b := fun q => e (Sum.inl.inj q)
    rw [decide_eq_false h]
    exact (beq_eq_false_iff_ne.mpr e).symm
theorem key_rr (a b : Str) : decide ((Sum.inr a : Key) = Sum.inr b) = decide (a = b) := by
  by_cases e : a = b
  · subst e; simp
  · have h : ¬ (Sum.inr a : Key) = Sum.inr b := fun q => e (Sum.inr.inj q)
    rw [decide_eq_false h, decide_eq_false e]
theorem key_lr (a : Int) (b : Str) : decide ((Sum.inl a : Key) = Sum.inr b) = false := decide_eq_false (fun q => nomatch q)
theorem key_rl (a : Str) (b : Int) : decide ((Sum.inr a : Key) = Sum.inl b) = false := decide_eq_false (fun q => nomatch q)
def mixKind (prog : Program) (w : World) : PySem.KeyKind prog w Key where
  is := keyIs
  hash := keyH w
  inj := fun v a b ha hb => by
    rcases keyIs_shape ha with ⟨i, t, rfl, rfl⟩ | ⟨x, t, rfl, rfl⟩
    · rcases keyIs_shape hb with ⟨j, u, rfl, e⟩ | ⟨y, u, rfl, e⟩
      · injection e with e1 _; rw [e1]
      · exact nomatch e
    · rcases keyIs_shape hb with ⟨j, u, rfl, e⟩ | ⟨y, u, rfl, e⟩
      · exact nomatch e
      · injection e with e1 _; rw [e1]
  byValue := fun k v h => by
    rcases keyIs_shape h with ⟨i, t, rfl, rfl⟩ | ⟨x, t, rfl, rfl⟩ <;> rfl
  pyHash := fun hv h => by
    rcases keyIs_shape hv with ⟨i, t, rfl, rfl⟩ | ⟨x, t, rfl, rfl⟩
    · exact wpAny_pyHash_int h
    · exact wpAny_pyHash_str h
  eqBool := fun hu hv h => by
    rcases keyIs_shape hu with ⟨i, t, rfl, rfl⟩ | ⟨x, t, rfl, rfl⟩
    · rcases keyIs_shape hv with ⟨j, u, rfl, rfl⟩ | ⟨y, u, rfl, rfl⟩
      · rw [key_ll] at h; exact wpAny_eqBool_int h
      · rw [key_lr] at h; exact SeqAt.EqAt.int_str i t y u _ _ _ _ h
    · rcases keyIs_shape hv with ⟨j, u, rfl, rfl⟩ | ⟨y, u, rfl, rfl⟩
      · rw [key_rl] at h; exact SeqAt.EqAt.str_int x t j u _ _ _ _ h
      · rw [key_rr] at h; exact wpAny_eqBool_str h
  «strs» := fun k x t v h => by
    rcases keyIs_shape h with ⟨i, u, rfl, e⟩ | ⟨y, u, rfl, e⟩
    · exact nomatch e
    · injection e with e1 _
      subst e1
      cases v <;> rfl
end L2
namespace L2
open PySem PySem.Spec PyProof.Rows
inductive V where
  | non | bl (b : Bool) | int (i : Int) | str (x : Str) | byt (b : Array UInt8) | flt (b : UInt64) | ref (a : Addr) | ty (n : String)
  deriving DecidableEq
def RelV : V → Value → Prop
  | .non, u => u = Value.none
  | .bl b, u => u = Value.bool b
  | .int i, u => ∃ t, u = Value.int i t
  | .str x, u => ∃ t, u = Value.str x t
  | .byt b, u => ∃ t, u = Value.bytes b t
  | .flt b, u => ∃ t, u = Value.float b t
  | .ref a, u => u = Value.ref a
  | .ty n, u => u = Value.type n
abbrev Vals : List V → List Value → Prop := Paired RelV
theorem Vals.length {xs : List V} {us : List Value} (r : Vals xs us) : xs.length = us.length := Paired.length r
theorem Vals.get : ∀ {xs : List V} {us : List Value} {i : Nat} {x : V}, Vals xs us → xs[i]? = some x → ∃ u, us[i]? = some u ∧ RelV x u
  | _, _, _, _, .nil, e => by simp at e
  | _, _, 0, _, .cons r _, e => by simp at e; subst e; exact ⟨_, rfl, r⟩
  | _, _, i + 1, x, .cons _ t, e => by
    obtain ⟨u, h1, h2⟩ := Vals.get (i := i) (x := x) t (by simpa using e)
    exact ⟨u, by simpa using h1, h2⟩
theorem Vals.append : ∀ {xs ys : List V} {us ws : List Value}, Vals xs us → Vals ys ws → Vals (xs ++ ys) (us ++ ws)
  | _, _, _, _, .nil, s => s
  | _, _, _, _, .cons r t, s => .cons r (Vals.append t s)
theorem Vals.take : ∀ {xs : List V} {us : List Value} (n : Nat), Vals xs us → Vals (xs.take n) (us.take n)
  | _, _, 0, _ => .nil
  | _, _, _ + 1, .nil => .nil
  | _, _, n + 1, .cons r t => .cons r (Vals.take n t)
theorem Vals.drop : ∀ {xs : List V} {us : List Value} (n : Nat), Vals xs us → Vals (xs.drop n) (us.drop n)
  | _, _, 0, r => r
  | _, _, _ + 1, .nil => .nil
  | _, _, n + 1, .cons _ t => Vals.drop n t
def RelO : Option V → Option Value → Prop
  | some v, some u => RelV v u
  | none, none => True
  | _, _ => False
def KV {κ : Type} : List (κ × V) → List (κ × Value) → Prop := Paired fun (p : κ × V) (q : κ × Value) => p.1 = q.1 ∧ RelV p.2 q.2
def kV : Key → V
  | .inl i => .int i
  | .inr x => .str x
inductive HO where
  | lst (xs : List V)
  | tup (xs : List V)
  | dK (kvs : List (Key × V)) | dT (kvs : List (List Key × V))
  | set (S : Int → Bool) (n : Nat)
  | ins (C dx : Addr) (fs : List (Str × V))
  | own (x : Addr)
  | xd (fs : List (Str × V))
  | met (f x : Addr)
  | rng (lo hi : Int)
  | frz (o : Obj) (u : HO)
  | tbl (ps : Array Value)
  | ext (φ : Heap → Prop)
abbrev Hp := Addr → Option HO
def upd (H : Hp) (a : Addr) (o : HO) : Hp := fun b => if b = a then some o else H b
theorem upd_same {H : Hp} {a : Addr} {o : HO} : upd H a o a = some o := by unfold upd; rw [if_pos rfl]
theorem upd_ne {H : Hp} {a b : Addr} {o : HO} (h : b ≠ a) : upd H a o b = H b := by unfold upd; rw [if_neg h]
theorem ne_of_none {H : Hp} {a b : Addr} {o : HO} (h : H a = some o) (h' : H b = none) : a ≠ b := by
  intro e; subst e; rw [h] at h'; cases h'
section
variable (P : Program) (w : World)
def ObjOk (H : Hp) (h : Heap) (a : Addr) : HO → Prop
  | .lst xs => xs.length ≤ sizeLine ∧ ∃ (its : List Value) (n : Nat), Vals xs its ∧ h.get? a = some { cls := .type "list", data := .seq its.toArray n }
  | .tup xs => xs.length ≤ sizeLine ∧ ∃ its : List Value, Vals xs its ∧ IsTup h a its.toArray
  | .dK kvs => kvs.length ≤ sizeLine ∧ (a == sysModules) = false ∧ ∃ vs, KV kvs vs ∧ h.DictOf (mixKind P w) a vs
  | .dT kvs => kvs.length ≤ sizeLine ∧ (a == sysModules) = false ∧ ∃ xs : List (List Key × Addr × Value),
      Paired (fun (p : List Key × V) (q : List Key × Addr × Value) => p.1 = q.1 ∧ H q.2.1 = some (.tup (p.1.map kV)) ∧ RelV p.2 q.2.2) kvs xs ∧
      ∃ o es ep, h.get? a = some o ∧ o.ExactDict ∧ o.data = .dict es ep ∧ es.toList = xs.map (entryOfKey (tupleKind (mixKind P w))) ∧ (xs.map (·.1)).Nodup
  | .set S n => h.SetOf (intKind P w) a S n
  | .ins C dx fs => H dx = some (.own a) ∧ fs.length ≤ 1000 ∧ dx ≠ a ∧ h.get? a = some (PySem.W.instObj C dx) ∧
      ∃ mA, h.Ns1 dx mA ∧ (∀ f, RelO (fs.lookup f) (mA f)) ∧ PySem.Within mA (fs.map (·.1))
  | .own _ => ∃ o, h.get? a = some o
  | .xd fs => ∃ mA, h.Ns1 a mA ∧ ∀ f, RelO (fs.lookup f) (mA f)
  | .rng lo hi => ∃ t u v, h.get? a = some { cls := .type "range", data := .fields #[.int lo t, .int hi u, .int 1 v] }
  | .frz o u => h.get? a = some o ∧ ObjOk H h a u
  | .tbl ps => h.get? a = some { cls := .none, data := .fields ps }
  | .met f x => h.get? a = some (PySem.W.methodObj (.ref f) (.ref x))
  | .ext φ => φ h ∧ (∃ o, h.get? a = some o) ∧ ∀ h1 h2 : Heap, φ h1 → (∀ o, h1.get? a = some o → h2.get? a = some o) → φ h2
def HOk (H : Hp) (h : Heap) : Prop := ∀ a o, H a = some o → ObjOk P w H h a o
end
section
variable {P : Program} {w : World} {H H' : Hp} {h h' : Heap} {a : Addr} {o : HO}
theorem ObjOk.lt (x : ObjOk P w H h a o) : a < h.objs.size := by
  cases o with
  | lst xs => obtain ⟨_, _, _, _, e⟩ := x; exact Heap.lt_size e
  | tup xs => obtain ⟨_, _, _, p⟩ := x; exact p.lt
  | dK kvs => obtain ⟨_, _, _, _, o, _, _, e, _⟩ := x; exact Heap.lt_size e
  | dT kvs => obtain ⟨_, _, _, _, o, _, _, e, _⟩ := x; exact Heap.lt_size e
  | set S n => obtain ⟨o, _, _, _, e, _⟩ := x; exact Heap.lt_size e
  | ins C dx fs => obtain ⟨_, _, _, e, _⟩ := x; exact Heap.lt_size e
  | own y => obtain ⟨_, e⟩ := x; exact Heap.lt_size e
  | xd fs => obtain ⟨_, ⟨_, _, _, e, _⟩, _⟩ := x; exact Heap.lt_size e
  | rng lo hi => obtain ⟨_, _, _, e⟩ := x; exact Heap.lt_size e
  | frz ob u => obtain ⟨e, _⟩ := x; exact Heap.lt_size e
  | tbl ps => exact Heap.lt_size (show h.get? a = some _ from x)
  | met f y => exact Heap.lt_size (show h.get? a = some _ from x)
  | ext φ => obtain ⟨_, ⟨_, e⟩, _⟩ := x; exact Heap.lt_size e
theorem Paired.mapP {α β : Type} {F G : α → β → Prop} : ∀ {l₁ : List α} {l₂ : List β}, Paired F l₁ l₂ → (∀ a b, F a b → G a b) → Paired G l₁ l₂
  | _, _, .nil, _ => .nil
  | _, _, .cons r t, f => .cons (f _ _ r) (Paired.mapP t f)
theorem ObjOk.stay (x : ObjOk P w H h a o) (k : ∀ b u, (b = a ∨ H b = some (.own a)) → h.get? b = some u → h'.get? b = some u)
    (ho : ∀ b, H b = some (.own a) → H' b = some (.own a)) (ht : ∀ b xs, H b = some (.tup xs) → H' b = some (.tup xs)) : ObjOk P w H' h' a o := by
  induction o with
  | lst xs => obtain ⟨z, its, n, r, e⟩ := x; exact ⟨z, its, n, r, k _ _ (.inl rfl) e⟩
  | tup xs => obtain ⟨z, its, r, ob, e, c⟩ := x; exact ⟨z, its, r, ob, k _ _ (.inl rfl) e, c⟩
  | dK kvs => obtain ⟨z, y, vs, r, ob, es, ep, e, c⟩ := x; exact ⟨z, y, vs, r, ob, es, ep, k _ _ (.inl rfl) e, c⟩
  | dT kvs =>
    obtain ⟨z, y, xs, r, ob, es, ep, e, c⟩ := x
    exact ⟨z, y, xs, Paired.mapP r fun p q z => ⟨z.1, ht _ _ z.2.1, z.2.2⟩, ob, es, ep, k _ _ (.inl rfl) e, c⟩
  | set S n => obtain ⟨ob, es, ep, t, e, c⟩ := x; exact ⟨ob, es, ep, t, k _ _ (.inl rfl) e, c⟩
  | ins C dx fs =>
    obtain ⟨d, z, ne, e, mA, ⟨od, es, ep, e2, c⟩, r⟩ := x
    exact ⟨ho _ d, z, ne, k _ _ (.inl rfl) e, mA, ⟨od, es, ep, k _ _ (.inr d) e2, c⟩, r⟩
  | own y => obtain ⟨ob, e⟩ := x; exact ⟨ob, k _ _ (.inl rfl) e⟩
  | xd fs => obtain ⟨mA, ⟨od, es, ep, e, c⟩, r⟩ := x; exact ⟨mA, ⟨od, es, ep, k _ _ (.inl rfl) e, c⟩, r⟩
  | rng lo hi => obtain ⟨t, u, v, e⟩ := x; exact ⟨t, u, v, k _ _ (.inl rfl) e⟩
  | frz ob u ih => obtain ⟨e, q⟩ := x; exact ⟨k _ _ (.inl rfl) e, ih q⟩
  | tbl ps =>
    have e : h.get? a = some { cls := .none, data := .fields ps } := x
    show h'.get? a = some { cls := .none, data := .fields ps }
    exact k a _ (.inl rfl) e
  | met f y =>
    have e : h.get? a = some (PySem.W.methodObj (.ref f) (.ref y)) := x
    show h'.get? a = some (PySem.W.methodObj (.ref f) (.ref y))
    exact k a _ (.inl rfl) e
  | ext φ => obtain ⟨p, ⟨o, e⟩, st⟩ := x; exact ⟨st _ _ p fun o q => k _ _ (.inl rfl) q, ⟨o, k _ _ (.inl rfl) e⟩, st⟩
theorem HOk.lt (x : HOk P w H h) (e : H a = some o) : a < h.objs.size := (x a o e).lt
theorem HOk.fresh (x : HOk P w H h) (e : h.objs.size ≤ a) : H a = none := by
  cases q : H a with
  | none => rfl
  | some u => exact absurd (Nat.lt_of_lt_of_le (x.lt q) e) (Nat.lt_irrefl _)
theorem HOk.kept (x : HOk P w H h) (k : ∀ b u, h.get? b = some u → h'.get? b = some u) : HOk P w H h' := fun a o e =>
  (x a o e).stay (fun b u _ q => k b u q) (fun _ q => q) fun _ _ q => q
theorem HOk.laid (x : HOk P w H h) (k : ∀ b u, h.get? b = some u → h'.get? b = some u) (hp : h.objs.size ≤ a) (new : ObjOk P w (upd H a o) h' a o) : HOk P w (upd H a o) h' := fun b u e => by
  have hn := x.fresh hp
  by_cases hb : b = a
  · subst hb; rw [upd_same] at e; cases e; exact new
  · rw [upd_ne hb] at e
    exact (x b u e).stay (fun c v _ q => k c v q) (fun c q => by rw [upd_ne (ne_of_none q hn)]; exact q) fun c xs q => by rw [upd_ne (ne_of_none q hn)]; exact q
end
def Rd (H : Hp) (a : Addr) (u : HO) : Prop := H a = some u ∨ ∃ o, H a = some (.frz o u)
theorem Rd.ok {P : Program} {w : World} {H : Hp} {h : Heap} {a : Addr} {u : HO} (r : Rd H a u) (x : HOk P w H h) : ObjOk P w H h a u := by
  rcases r with r | ⟨o, r⟩
  · exact x a u r
  · obtain ⟨_, q⟩ := x a _ r
    exact q
def Mut : Option HO → Prop
  | some (.lst _) => True
  | some (.dK _) => True
  | some (.dT _) => True
  | some (.set _ _) => True
  | some (.ins _ _ _) => True
  | some (.ext _) => True
  | _ => False
section
variable {P : Program} {w : World} {H : Hp} {h h' : Heap} {x e : Addr} {o' : HO}
theorem HOk.write (ok : HOk P w H h) (mu : Mut (H x)) (he : e = x ∨ H e = some (.own x)) (k : ∀ b u, b ≠ e → h.get? b = some u → h'.get? b = some u) (heo : ∃ u, h'.get? e = some u)
    (new : ObjOk P w (upd H x o') h' x o') : HOk P w (upd H x o') h' := fun b u q => by
  have nown : ∀ c y, H c = some (.own y) → c ≠ x := fun c y r z => by subst z; rw [r] at mu; exact mu
  have ntup : ∀ c xs, H c = some (.tup xs) → c ≠ x := fun c xs r z => by subst z; rw [r] at mu; exact mu
  by_cases hb : b = x
  · subst hb; rw [upd_same] at q; cases q; exact new
  · rw [upd_ne hb] at q
    by_cases hbe : b = e
    · have q' : H b = some (.own x) := by
        rcases he with z | z
        · exact absurd (hbe.trans z) hb
        · rw [hbe]; exact z
      rw [q] at q'; cases q'
      obtain ⟨v, hv⟩ := heo
      exact ⟨v, by rw [hbe]; exact hv⟩
    · refine (ok b u q).stay (fun c v hc r => k c v ?_ r) (fun c r => by rw [upd_ne (nown c b r)]; exact r) fun c xs r => by rw [upd_ne (ntup c xs r)]; exact r
      rcases hc with rfl | hc
      · exact hbe
      · rintro rfl
        rcases he with z | z
        · exact nown c b hc z
        · rw [hc] at z; cases z; exact hb rfl
end
structure Un (fs ex : List Addr) (H H' : Hp) (h h' : Heap) : Prop where
  keep : ∀ b o, h.get? b = some o → H b = none → b ∉ fs → b ∉ ex → h'.get? b = some o
  slot : ∀ b o, h.get? b = some o → H b = none → b ∈ fs → b ∉ ex → ∃ sl, h'.get? b = some { o with slots := sl }
  free : ∀ b o, h.get? b = some o → H b = none → b ∉ ex → H' b = none
  there : ∀ b o, h.get? b = some o → b ∉ ex → ∃ o', h'.get? b = some o'
  tups : ∀ b xs, H b = some (.tup xs) → H' b = some (.tup xs)
  frzs : ∀ b o u, H b = some (.frz o u) → H' b = some (.frz o u)
  tbls : ∀ b ps, H b = some (.tbl ps) → ∃ more, H' b = some (.tbl (ps ++ more))
section
variable {fs fs' ex ex' : List Addr} {H H1 H2 : Hp} {h h1 h2 h' : Heap} {a x e : Addr} {o : HO}
theorem Un.any (u : Un fs ex H H1 h h1) {b : Addr} {ob : Obj} (q : h.get? b = some ob) (n : H b = none) (hx : b ∉ ex) : ∃ sl, h1.get? b = some { ob with slots := sl } := by
  by_cases hb : b ∈ fs
  · exact u.slot b ob q n hb hx
  · exact ⟨ob.slots, u.keep b ob q n hb hx⟩
theorem Un.kept (k : ∀ b u, h.get? b = some u → h'.get? b = some u) : Un fs ex H H h h' :=
  ⟨fun b ob q _ _ _ => k b ob q, fun b ob q _ _ _ => ⟨ob.slots, k b ob q⟩, fun _ _ _ n _ => n, fun b ob q _ => ⟨ob, k b ob q⟩, fun _ _ q => q, fun _ _ _ q => q, fun _ ps q => ⟨#[], by rw [q]; simp⟩⟩
theorem Un.refl : Un fs ex H H h h := Un.kept fun _ _ q => q
theorem Un.laid (k : ∀ b u, h.get? b = some u → h'.get? b = some u) (hp : h.objs.size ≤ a) (hn : H a = none) : Un fs ex H (upd H a o) h h' where
  keep := fun b u q _ _ _ => k b u q
  slot := fun b u q _ _ _ => ⟨u.slots, k b u q⟩
  free := fun b u q n _ => by rw [upd_ne (Nat.ne_of_lt (Nat.lt_of_lt_of_le (Heap.lt_size q) hp))]; exact n
  there := fun b u q _ => ⟨u, k b u q⟩
  tups := fun b xs q => by rw [upd_ne (ne_of_none q hn)]; exact q
  frzs := fun b u xs q => by rw [upd_ne (ne_of_none q hn)]; exact q
  tbls := fun b ps q => ⟨#[], by rw [upd_ne (ne_of_none q hn), q]; simp⟩
theorem Un.write (mu : Mut (H x)) (he : e = x ∨ H e = some (.own x)) (k : ∀ b u, b ≠ e → h.get? b = some u → h'.get? b = some u) (heo : ∃ u, h'.get? e = some u) : Un fs ex H (upd H x o) h h' := by
  have hx : ∀ b, H b = none → b ≠ x := fun b n z => by subst z; rw [n] at mu; exact mu
  have hb : ∀ b, H b = none → b ≠ e := fun b n z => by
    subst z
    rcases he with r | r
    · exact hx b n r
    · rw [n] at r; cases r
  have hm : ∀ b u, H b = some u → ¬ Mut (some u) → b ≠ x := fun b u q nm z => by subst z; rw [q] at mu; exact nm mu
  refine ⟨fun b u q n _ _ => k b u (hb b n) q, fun b u q n _ _ => ⟨u.slots, k b u (hb b n) q⟩, fun b u q n _ => by rw [upd_ne (hx b n)]; exact n, fun b u q _ => ?_,
    fun b xs q => by rw [upd_ne (hm b _ q fun z => z)]; exact q, fun b u xs q => by rw [upd_ne (hm b _ q fun z => z)]; exact q, fun b ps q => ⟨#[], by rw [upd_ne (hm b _ q fun z => z), q]; simp⟩⟩
  by_cases hbe : b = e
  · subst hbe; exact heo
  · exact ⟨u, k b u hbe q⟩
end
def trk (h : Heap) (H : Hp) : List Addr := (List.range h.objs.size).filter fun a => (H a).isSome
def hidT (h : Heap) (H : Hp) : Heap := PySem.W.hideAll h (trk h H)
theorem hidT_size (h : Heap) (H : Hp) : (hidT h H).objs.size = h.objs.size := PySem.W.hideAll_size _ _
theorem hidT_get {h : Heap} {H : Hp} {b : Addr} {o : Obj} (e : h.get? b = some o) (n : H b = none) : (hidT h H).get? b = some o :=
  PySem.W.hideAll_get _ e fun hm => by
    have q : (H b).isSome = true := (List.mem_filter.mp hm).2
    rw [n] at q; simp at q
theorem of_hidT {h : Heap} {H : Hp} {b : Addr} {o : Obj} (e : (hidT h H).get? b = some o) : h.get? b = some o ∧ H b = none := by
  have e' : h.get? b = some o := PySem.W.of_hideAll (trk h H) e
  refine ⟨e', ?_⟩
  cases q : H b with
  | none => rfl
  | some x =>
    have hm : b ∈ trk h H := List.mem_filter.mpr ⟨List.mem_range.mpr (Heap.lt_size e'), by simp [q]⟩
    have z : (hidT h H).get? b = none := PySem.W.hideAll_none (trk h H) hm
    rw [z] at e; cases e
def allNews (g h : Heap) (L : Addr) : List (Addr × Obj) := (List.range h.objs.size).filterMap fun a => if a = L ∨ (g.get? a).isSome = true then none else (h.get? a).map fun o => (a, o)
def rest (g h : Heap) (L d : Addr) : List (Addr × Obj) := (allNews g h L).filter fun p => decide (p.1 ≠ d)
end L2
namespace L2
open PySem PySem.Spec PyProof.Rows
structure Mod (K : PySem.W.Frag) (mg : Str → Option Value) (base : Heap) : Prop where
  kin : K.In base
  glob : base.Ns mainGlobals mg
  blt : ∃ mb, base.Ns builtinsNs mb ∧ ∀ x : Str, x ≠ "__name__" → mb x = bootBuiltins x
  nolimit : base.NoLimit
structure Cx where
  prog : Program
  w : World
  K : PySem.W.Frag
  mg : Str → Option Value
  base : Heap
  A : Around
  N : List Str
  s₀ : Shared
  H₀ : Hp
  env : Env
  outer : List Env
  stack : List Env
  ex : List Addr
  fn : Str → Bool
  calm : Bool
  pn : List (Addr × Obj)
  xe : Value → Shared → Prop
def frs (l : List Env) : List Addr := l.filterMap (·.frame)
abbrev Cx.fs (X : Cx) : List Addr := frs X.outer
def Vis (sc : Scope) (x : Str) : Prop := sc.names.lookup x = some .local ∨ sc.names.lookup x = some .cell ∨ sc.names.lookup x = some .free
def Loc (sc : Scope) (x : Str) : Prop := sc.names.lookup x = some .local ∨ sc.names.lookup x = some .cell
def Look (env : Env) (h : Heap) (m : Str → Option Value) (x : Str) (u : Value) : Prop :=
  (env.kindOf x = some .local ∧ m x = some u) ∨ ((env.kindOf x = some .cell ∨ env.kindOf x = some .free) ∧ ∃ c, env.cells.lookup x = some c ∧ h.IsCell c (some u))
structure Cx.Ok (X : Cx) : Prop where
  mod : Mod X.K X.mg X.base
  kind : X.env.scope.kind = .function
  glob : X.env.globals = mainGlobals
  blt : X.env.builtins = builtinsNs
  above : X.s₀.heap.objs.size ≤ X.env.locals
  inj : ∀ x y c, X.env.cells.lookup x = some c → X.env.cells.lookup y = some c → x = y
  has : ∀ x, (X.env.kindOf x = some .cell ∨ X.env.kindOf x = some .free) → ∃ c, X.env.cells.lookup x = some c
  cab : ∀ x c, X.fn x = true → X.env.cells.lookup x = some c → X.s₀.heap.objs.size ≤ c
  hd : X.calm = true → X.A.handled = none
  frames : X.A.frames = some X.stack
  stk : X.stack = X.outer ∨ (X.stack = X.env :: X.outer ∧ X.env.frame = some X.env.locals)
  exf : ∀ b ∈ X.ex, b ≠ X.env.locals ∧ ∀ x c, X.env.cells.lookup x = some c → c ≠ b
  bs : ∀ b o, X.base.get? b = some o → X.s₀.heap.get? b = some o ∧ X.H₀ b = none
  bsz : X.base.objs.size ≤ X.s₀.heap.objs.size
  noex : ∀ b o, X.base.get? b = some o → b ∉ X.ex
  exfs : ∀ b ∈ X.ex, b ∉ X.fs
  funs : X.s₀.heap.FunFrames X.base X.outer
  frf : ∀ b ∈ X.fs, X.H₀ b = none
structure Inv (X : Cx) (pins : List (Addr × Obj)) (σ : List (Option V)) (H : Hp) (s : Shared) : Prop where
  ok : X.Ok
  os : s.os = X.s₀.os
  bare : AllBare s.gens
  base : Un X.fs X.ex X.H₀ H X.s₀.heap s.heap
  loc : ∃ m, s.heap.Ns X.env.locals m ∧ ∀ (i : Nat) (x : Str) (v : V), X.N[i]? = some x → σ[i]? = some (some v) → Vis X.env.scope x → ∃ u, RelV v u ∧ Look X.env s.heap m x u
  cell : ∀ x c, X.env.cells.lookup x = some c → ∃ v, s.heap.IsCell c v
  free : H X.env.locals = none
  freeC : ∀ x c, X.env.cells.lookup x = some c → H c = none
  pin : ∀ p ∈ X.pn ++ pins, s.heap.get? p.1 = some p.2 ∧ H p.1 = none ∧ p.1 ≠ X.env.locals ∧ p.1 ∉ X.fs ∧ ∀ v, p.2.data ≠ .cell v
  hok : HOk X.prog X.w H s.heap
  len : σ.length = X.N.length
section
variable {X : Cx} {pins : List (Addr × Obj)} {σ : List (Option V)} {H H' : Hp} {s : Shared} {h' : Heap}
theorem Cx.Ok.nofr (ok : X.Ok) {b : Addr} {o : Obj} (e : X.base.get? b = some o) : b ∉ X.fs := fun hb => by
  have := (ok.funs.mem hb).1
  rw [e] at this; cases this
theorem Inv.bs (I : Inv X pins σ H s) : ∀ b o, X.base.get? b = some o → s.heap.get? b = some o ∧ H b = none := fun b o e =>
  ⟨I.base.keep b o (I.ok.bs b o e).1 (I.ok.bs b o e).2 (I.ok.nofr e) (I.ok.noex b o e), I.base.free b o (I.ok.bs b o e).1 (I.ok.bs b o e).2 (I.ok.noex b o e)⟩
theorem Inv.bk (I : Inv X pins σ H s) : ∀ b o, X.base.get? b = some o → s.heap.get? b = some o := fun b o e => (I.bs b o e).1
theorem Inv.mod (I : Inv X pins σ H s) : Mod X.K X.mg X.base := I.ok.mod
theorem Inv.kIn (I : Inv X pins σ H s) : X.K.In s.heap := I.ok.mod.kin.keeps I.bk
theorem Inv.fr (I : Inv X pins σ H s) : ∃ m, Fr X.base X.env.locals s.heap m :=
  let ⟨m, hn, _⟩ := I.loc
  ⟨m, hn, I.bk, Nat.le_trans I.ok.bsz I.ok.above⟩
theorem Inv.lt (I : Inv X pins σ H s) : X.env.locals < s.heap.objs.size := let ⟨_, hn, _⟩ := I.loc; hn.lt
theorem Inv.sz (I : Inv X pins σ H s) : X.s₀.heap.objs.size ≤ s.heap.objs.size := Nat.le_trans I.ok.above (Nat.le_of_lt I.lt)
theorem Inv.nofs (I : Inv X pins σ H s) {a : Addr} (h : s.heap.objs.size ≤ a) : a ∉ X.fs := fun hb => by
  obtain ⟨_, o, ho, _⟩ := I.ok.funs.mem hb
  exact absurd (Nat.lt_of_lt_of_le (Heap.lt_size ho) (Nat.le_trans I.sz h)) (Nat.lt_irrefl _)
theorem Inv.cne (I : Inv X pins σ H s) : ∀ x c, X.env.cells.lookup x = some c → c ≠ X.env.locals := fun x c e z => by
  obtain ⟨v, o, ho, hd⟩ := I.cell x c e
  obtain ⟨m, ⟨o', es, ep, ho', hd', _⟩, _⟩ := I.loc
  rw [z, ho'] at ho; cases ho; rw [hd'] at hd; cases hd
theorem Inv.funs (I : Inv X pins σ H s) : s.heap.FunFrames X.base X.outer := by
  have all : ∀ (l : List Env), (∀ b ∈ frs l, b ∈ X.fs) → X.s₀.heap.FunFrames X.base l → s.heap.FunFrames X.base l := by
    intro l
    induction l with
    | nil => intro _ _; trivial
    | cons env r ih =>
      intro hs hl
      obtain ⟨hk, ⟨L, o, hf, hn, ho, hd⟩, hr⟩ := hl
      have hL : L ∈ X.fs := hs L (by unfold frs; rw [List.filterMap_cons, hf]; exact List.mem_cons_self)
      obtain ⟨sl, e⟩ := I.base.slot L o ho (I.ok.frf L hL) hL fun z => I.ok.exfs L z hL
      exact ⟨hk, ⟨L, _, hf, hn, e, hd⟩, ih (fun b hb => hs b (by unfold frs; rw [List.filterMap_cons, hf]; exact List.mem_cons_of_mem _ hb)) hr⟩
  exact all X.outer (fun _ hb => hb) I.ok.funs
theorem Inv.stack (I : Inv X pins σ H s) : s.heap.FunFrames X.base X.stack := by
  rcases I.ok.stk with e | ⟨e, hf⟩
  · rw [e]; exact I.funs
  · rw [e]
    obtain ⟨m, hn, _⟩ := I.loc
    refine .cons (by rw [I.ok.kind]; decide) hf hn ?_ I.funs
    exact Heap.get?_none_of_le (Nat.le_trans I.ok.bsz I.ok.above)
theorem Inv.stkSub (I : Inv X pins σ H s) : ∀ b ∈ frs X.stack, b ∈ X.env.locals :: X.fs := fun b hb => by
  rcases I.ok.stk with e | ⟨e, hf⟩
  · rw [e] at hb; exact List.mem_cons_of_mem _ hb
  · rw [e] at hb
    unfold frs at hb
    rw [List.filterMap_cons, hf] at hb
    exact hb
theorem Inv.stkFree (I : Inv X pins σ H s) : ∀ b ∈ frs X.stack, H b = none := fun b hb => by
  rcases List.mem_cons.mp (I.stkSub b hb) with e | hb
  · rw [e]; exact I.free
  · obtain ⟨_, o, ho, _⟩ := I.ok.funs.mem hb
    exact I.base.free b o ho (I.ok.frf b hb) fun z => I.ok.exfs b z hb
theorem Inv.step {g' : Array GenState} {t' : Nat} {d' : Drawn} {ch : List Addr} (I : Inv X pins σ H s)
    (hch : ∀ b ∈ ch, (b ∈ X.ex ∨ X.s₀.heap.objs.size ≤ b) ∧ b ≠ X.env.locals ∧ (∀ x c, X.env.cells.lookup x = some c → c ≠ b) ∧ ∀ p ∈ X.pn ++ pins, p.1 ≠ b)
    (keep : ∀ b o, b ≠ X.env.locals → b ∉ X.fs → b ∉ ch → s.heap.get? b = some o → H b = none → h'.get? b = some o)
    (slot : ∀ b o, b ≠ X.env.locals → b ∈ X.fs → b ∉ ch → s.heap.get? b = some o → H b = none → ∃ sl, h'.get? b = some { o with slots := sl }) (free : ∀ b o, b ∉ ch → s.heap.get? b = some o → H b = none → H' b = none)
    (there : ∀ b o, b ∉ ch → s.heap.get? b = some o → ∃ o', h'.get? b = some o')
    (tups : ∀ b xs, H b = some (.tup xs) → H' b = some (.tup xs)) (frzs : ∀ b o u, H b = some (.frz o u) → H' b = some (.frz o u)) (tbls : ∀ b ps, H b = some (.tbl ps) → ∃ more, H' b = some (.tbl (ps ++ more)))
    (ns : ∀ m, s.heap.Ns X.env.locals m → h'.Ns X.env.locals m) (hok : HOk X.prog X.w H' h') (hg : AllBare g') :
    Inv X pins σ H' { s with heap := h', gens := g', drawn := d', toks := t' } := by
  have neL : ∀ b o, X.s₀.heap.get? b = some o → b ≠ X.env.locals := fun b o e => Nat.ne_of_lt (Nat.lt_of_lt_of_le (Heap.lt_size e) I.ok.above)
  have neC : ∀ b o, X.s₀.heap.get? b = some o → b ∉ X.ex → b ∉ ch := fun b o e hx hb => by
    rcases (hch b hb).1 with z | z
    · exact hx z
    · exact absurd (Nat.lt_of_lt_of_le (Heap.lt_size e) z) (Nat.lt_irrefl _)
  have cellK : ∀ x c, X.env.cells.lookup x = some c → ∀ v, s.heap.IsCell c v → h'.IsCell c v := fun x c e v ⟨o, ho, hd⟩ => by
    have nch : c ∉ ch := fun z => (hch c z).2.2.1 x c e rfl
    by_cases hc : c ∈ X.fs
    · obtain ⟨sl, q⟩ := slot c o (I.cne x c e) hc nch ho (I.freeC x c e)
      exact ⟨_, q, hd⟩
    · exact ⟨o, keep c o (I.cne x c e) hc nch ho (I.freeC x c e), hd⟩
  refine ⟨I.ok, I.os, hg, ⟨fun b o e n hb hx => ?_, fun b o e n hb hx => ?_, fun b o e n hx => ?_, fun b o e hx => ?_, fun b xs e => tups b xs (I.base.tups b xs e), fun b o xs e => frzs b o xs (I.base.frzs b o xs e), fun b ps e => ?_⟩, ?_, fun x c e => ?_, ?_, fun x c e => ?_, fun p hp => ?_, hok, I.len⟩
  · exact keep b o (neL b o e) hb (neC b o e hx) (I.base.keep b o e n hb hx) (I.base.free b o e n hx)
  · obtain ⟨sl, e1⟩ := I.base.slot b o e n hb hx
    obtain ⟨sl', e2⟩ := slot b _ (neL b o e) hb (neC b o e hx) e1 (I.base.free b o e n hx)
    exact ⟨sl', e2⟩
  · obtain ⟨o', e1⟩ := I.base.there b o e hx
    exact free b o' (neC b o e hx) e1 (I.base.free b o e n hx)
  · obtain ⟨o', e1⟩ := I.base.there b o e hx
    exact there b o' (neC b o e hx) e1
  · obtain ⟨m1, e1⟩ := I.base.tbls b ps e
    obtain ⟨m2, e2⟩ := tbls b _ e1
    exact ⟨m1 ++ m2, by rw [e2, Array.append_assoc]⟩
  · obtain ⟨m, hn, hl⟩ := I.loc
    refine ⟨m, ns m hn, fun i x v e1 e2 e3 => ?_⟩
    obtain ⟨u, r, l⟩ := hl i x v e1 e2 e3
    refine ⟨u, r, ?_⟩
    rcases l with l | ⟨k, c, e, z⟩
    · exact .inl l
    · exact .inr ⟨k, c, e, cellK x c e _ z⟩
  · obtain ⟨v, z⟩ := I.cell x c e
    exact ⟨v, cellK x c e v z⟩
  · obtain ⟨m, ⟨o, _, _, ho, _⟩, _⟩ := I.loc
    exact free _ o (fun z => (hch _ z).2.1 rfl) ho I.free
  · obtain ⟨v, o, ho, hd⟩ := I.cell x c e
    exact free c o (fun z => (hch c z).2.2.1 x c e rfl) ho (I.freeC x c e)
  · obtain ⟨e, n, ne, nf, d⟩ := I.pin p hp
    have nch : p.1 ∉ ch := fun z => (hch p.1 z).2.2.2 p hp rfl
    exact ⟨keep p.1 p.2 ne nf nch e n, free p.1 p.2 nch e n, ne, nf, d⟩
theorem Inv.un {t' : Nat} (I : Inv X pins σ H s) (u : Un X.fs [] H H' s.heap h') (hok : HOk X.prog X.w H' h') : Inv X pins σ H' { s with heap := h', toks := t' } := by
  obtain ⟨m, ⟨o, es, ep, ho, r⟩, _⟩ := id I.loc
  obtain ⟨sl, hL⟩ := u.any ho I.free (by simp)
  exact I.step (g' := s.gens) (d' := s.drawn) (ch := []) (fun _ z => nomatch z) (fun b o _ hb _ e n => u.keep b o e n hb (by simp)) (fun b o _ hb _ e n => u.slot b o e n hb (by simp)) (fun b o _ e n => u.free b o e n (by simp)) (fun b o _ e => u.there b o e (by simp)) u.tups u.frzs u.tbls (fun m' hm => by
    obtain ⟨o', es', ep', ho', r'⟩ := hm
    rw [ho] at ho'; cases ho'
    exact ⟨_, es', ep', hL, r'⟩) hok I.bare
theorem Inv.call {g' : Array GenState} {t' : Nat} {d' : Drawn} {ch : List Addr} (I : Inv X pins σ H s) (u : Un (frs X.stack) ch H H' s.heap h') (hok : HOk X.prog X.w H' h') (hg : AllBare g')
    (hch : ∀ b ∈ ch, (b ∈ X.ex ∨ X.s₀.heap.objs.size ≤ b) ∧ b ≠ X.env.locals ∧ (∀ x c, X.env.cells.lookup x = some c → c ≠ b) ∧ ∀ p ∈ X.pn ++ pins, p.1 ≠ b) :
    Inv X pins σ H' { s with heap := h', gens := g', drawn := d', toks := t' } := by
  obtain ⟨m, ⟨o, es, ep, ho, r⟩, _⟩ := id I.loc
  obtain ⟨sl, hL⟩ := u.any ho I.free fun z => (hch _ z).2.1 rfl
  exact I.step (ch := ch) hch (fun b o hL hb hc e n => u.keep b o e n (fun z => (List.mem_cons.mp (I.stkSub b z)).elim hL hb) hc) (fun b o _ _ hc e n => u.any e n hc) (fun b o hc e n => u.free b o e n hc) (fun b o hc e => u.there b o e hc) u.tups u.frzs u.tbls (fun m' hm => by
    obtain ⟨o', es', ep', ho', r'⟩ := hm
    rw [ho] at ho'; cases ho'
    exact ⟨_, es', ep', hL, r'⟩) hok hg
theorem Inv.turned {t' : Nat} {it : Addr} (I : Inv X pins σ H s) (k : ∀ b o, b ≠ it → s.heap.get? b = some o → h'.get? b = some o) (hn : H it = none) (hL : it ≠ X.env.locals)
    (h1 : it ∈ X.ex ∨ X.s₀.heap.objs.size ≤ it) (h2 : ∀ x c, X.env.cells.lookup x = some c → c ≠ it) (h3 : ∀ p ∈ X.pn ++ pins, p.1 ≠ it) : Inv X pins σ H { s with heap := h', toks := t' } := by
  have nit : ∀ b u, H b = some u → b ≠ it := fun b u e z => by rw [z, hn] at e; cases e
  refine I.step (g' := s.gens) (d' := s.drawn) (ch := [it]) (fun b hb => ?_) (fun b o _ _ hc e _ => k b o (fun z => hc (by simp [z])) e) (fun b o _ _ hc e _ => ⟨o.slots, k b o (fun z => hc (by simp [z])) e⟩) (fun _ _ _ _ n => n)
    (fun b o hc e => ⟨o, k b o (fun z => hc (by simp [z])) e⟩) (fun _ _ e => e) (fun _ _ _ e => e) (fun b ps e => ⟨#[], by rw [e]; simp⟩) (fun m hm => ?_) (fun b u e => ?_) I.bare
  · have e : b = it := by simpa using hb
    subst e
    exact ⟨h1, hL, h2, h3⟩
  · obtain ⟨o, es, ep, ho, r⟩ := hm
    exact ⟨o, es, ep, k _ o (Ne.symm hL) ho, r⟩
  · refine (I.hok b u e).stay (fun c v hc q => k c v ?_ q) (fun _ q => q) fun _ _ q => q
    rcases hc with z | z
    · rw [z]; exact nit b u e
    · exact nit c _ z
theorem Inv.tok (I : Inv X pins σ H s) (t : Nat) : Inv X pins σ H { s with toks := t } := I.un (h' := s.heap) (t' := t) Un.refl I.hok
theorem Inv.kept {t' : Nat} (I : Inv X pins σ H s) (k : ∀ b u, s.heap.get? b = some u → h'.get? b = some u) : Inv X pins σ H { s with heap := h', toks := t' } := I.un (Un.kept k) (I.hok.kept k)
theorem Inv.laid {a : Addr} {o : HO} {t' : Nat} (I : Inv X pins σ H s) (k : ∀ b u, s.heap.get? b = some u → h'.get? b = some u) (hp : s.heap.objs.size ≤ a) (new : ObjOk X.prog X.w (upd H a o) h' a o) :
    Inv X pins σ (upd H a o) { s with heap := h', toks := t' } := I.un (Un.laid k hp (I.hok.fresh hp)) (I.hok.laid k hp new)
theorem Inv.write {x e : Addr} {o : HO} {t' : Nat} (I : Inv X pins σ H s) (mu : Mut (H x)) (he : e = x ∨ H e = some (.own x)) (k : ∀ b u, b ≠ e → s.heap.get? b = some u → h'.get? b = some u) (heo : ∃ u, h'.get? e = some u)
    (new : ObjOk X.prog X.w (upd H x o) h' x o) : Inv X pins σ (upd H x o) { s with heap := h', toks := t' } := I.un (Un.write mu he k heo) (I.hok.write mu he k heo new)
theorem Inv.weak {σ' : List (Option V)} (I : Inv X pins σ H s) (hl : σ'.length = σ.length) (w : ∀ (i : Nat) v, σ'[i]? = some (some v) → σ[i]? = some (some v)) : Inv X pins σ' H s :=
  ⟨I.ok, I.os, I.bare, I.base, let ⟨m, hn, hl'⟩ := I.loc; ⟨m, hn, fun i x v e1 e2 e3 => hl' i x v e1 (w i v e2) e3⟩, I.cell, I.free, I.freeC, I.pin, I.hok, hl.trans I.len⟩
theorem Inv.pins_of {pins' : List (Addr × Obj)} (I : Inv X pins σ H s) (h : ∀ p ∈ pins', s.heap.get? p.1 = some p.2 ∧ H p.1 = none ∧ p.1 ≠ X.env.locals ∧ p.1 ∉ X.fs ∧ ∀ v, p.2.data ≠ .cell v) : Inv X pins' σ H s :=
  ⟨I.ok, I.os, I.bare, I.base, I.loc, I.cell, I.free, I.freeC, fun p hp => (List.mem_append.mp hp).elim (fun z => I.pin p (List.mem_append_left _ z)) (h p), I.hok, I.len⟩
theorem nodup_ix {N : List Str} (hN : N.Nodup) {i j : Nat} {x : Str} (a : N[i]? = some x) (b : N[j]? = some x) : i = j := by
  obtain ⟨h1, e1⟩ := List.getElem?_eq_some_iff.mp a
  obtain ⟨h2, e2⟩ := List.getElem?_eq_some_iff.mp b
  exact (List.getElem_inj hN).mp (e1.trans e2.symm)
theorem store_ok2 {M : Model} {A : Around} {E : Value → Shared → Prop} {i : Nat} {x : Str} {v : V} {u : Value} {Q : Unit → Shared → Prop} (I : Inv X pins σ H s) (hN : X.N.Nodup) (hi : X.N[i]? = some x) (hx : Loc X.env.scope x) (r : RelV v u)
    (h : ∀ s', Inv X pins (σ.set i (some v)) H s' → (∃ a, Heap.SameBut a s.heap s'.heap ∧ (a = X.env.locals ∨ X.env.cells.lookup x = some a)) → Q () s') (hf : X.fn x = true ∨ X.env.scope.names.lookup x = some .local := by first | exact .inl rfl | exact .inr rfl | assumption) : wpAny M A (storeName X.env x u) Q E s := by
  obtain ⟨m, hn, hl⟩ := id I.loc
  have hcls : (X.env.scope.kind == .class || (X.env.scope.kind == .module && X.env.locals != X.env.globals)) = false := by rw [I.ok.kind]; rfl
  have hiσ : i < σ.length := by rw [I.len]; exact (List.getElem?_eq_some_iff.mp hi).1
  have cne := I.cne
  have tracked : ∀ {a : Addr} {h' : Heap}, (∃ o, s.heap.get? a = some o ∧ H a = none) → Heap.SameBut a s.heap h' → HOk X.prog X.w H h' := fun {a h'} ha hs b ob e => by
    obtain ⟨_, _, hfree⟩ := ha
    refine (I.hok b ob e).stay (fun c w' hc q => (hs.2 c ?_).trans q) (fun _ q => q) fun _ _ q => q
    rintro rfl
    rcases hc with rfl | hc
    · rw [hfree] at e; cases e
    · rw [hfree] at hc; cases hc
  rcases hx with hk | hk
  · refine wpAny_storeName_local hk hn (fun h' hn' hs => ?_) hcls
    obtain ⟨oL, _, _, hoL, _⟩ := id hn
    refine h _ ⟨I.ok, I.os, I.bare, ⟨fun b o e n hb hx => ?_, fun b o e n hb hx => ?_, I.base.free, fun b o e hx => ?_, I.base.tups, I.base.frzs, I.base.tbls⟩, ⟨_, hn', fun j y v' e1 e2 e3 => ?_⟩, fun y c e => ?_, I.free, I.freeC, fun p hp => ?_, tracked ⟨oL, hoL, I.free⟩ hs, by simpa using I.len⟩ ⟨_, hs, .inl rfl⟩
    · exact (hs.2 b (Nat.ne_of_lt (Nat.lt_of_lt_of_le (Heap.lt_size e) I.ok.above))).trans (I.base.keep b o e n hb hx)
    · obtain ⟨sl, e1⟩ := I.base.slot b o e n hb hx
      exact ⟨sl, (hs.2 b (Nat.ne_of_lt (Nat.lt_of_lt_of_le (Heap.lt_size e) I.ok.above))).trans e1⟩
    · obtain ⟨o', e1⟩ := I.base.there b o e hx
      exact ⟨o', (hs.2 b (Nat.ne_of_lt (Nat.lt_of_lt_of_le (Heap.lt_size e) I.ok.above))).trans e1⟩
    · by_cases hj : j = i
      · subst hj
        rw [hi] at e1; cases e1
        rw [List.getElem?_set_self hiσ] at e2
        cases e2
        exact ⟨u, r, .inl ⟨hk, by simp⟩⟩
      · rw [List.getElem?_set_ne (Ne.symm hj)] at e2
        obtain ⟨u', r', q⟩ := hl j y v' e1 e2 e3
        refine ⟨u', r', ?_⟩
        rcases q with ⟨k, e⟩ | ⟨k, c, e, z⟩
        · refine .inl ⟨k, ?_⟩
          have : y ≠ x := fun e => hj (nodup_ix hN e1 (e ▸ hi))
          simp [this, e]
        · exact .inr ⟨k, c, e, z.sameBut hs (cne y c e)⟩
    · obtain ⟨w', z⟩ := I.cell y c e
      exact ⟨w', z.sameBut hs (cne y c e)⟩
    · obtain ⟨e, n, ne, nf, d⟩ := I.pin p hp
      exact ⟨(hs.2 p.1 ne).trans e, n, ne, nf, d⟩
  · have hfn : X.fn x = true := by
      rcases hf with z | z
      · exact z
      · rw [z] at hk; cases hk
    obtain ⟨c, hc⟩ := I.ok.has x (.inl hk)
    obtain ⟨w', z⟩ := I.cell x c hc
    refine wpAny_storeName_cell I.ok.kind hk hc z (fun h' hc' hs => ?_)
    obtain ⟨oc, hoc, hocd⟩ := id z
    refine h { s with heap := h' } ⟨I.ok, I.os, I.bare, ⟨fun b o e n hb hx => ?_, fun b o e n hb hx => ?_, I.base.free, fun b o e hx => ?_, I.base.tups, I.base.frzs, I.base.tbls⟩, ⟨m, hn.sameBut hs (Ne.symm (cne x c hc)), fun j y v' e1 e2 e3 => ?_⟩, fun y c' e => ?_, I.free, I.freeC, fun p hp => ?_, tracked ⟨oc, hoc, I.freeC x c hc⟩ hs, by simpa using I.len⟩ ⟨c, hs, .inr hc⟩
    · exact (hs.2 b (Nat.ne_of_lt (Nat.lt_of_lt_of_le (Heap.lt_size e) (I.ok.cab x c hfn hc)))).trans (I.base.keep b o e n hb hx)
    · obtain ⟨sl, e1⟩ := I.base.slot b o e n hb hx
      exact ⟨sl, (hs.2 b (Nat.ne_of_lt (Nat.lt_of_lt_of_le (Heap.lt_size e) (I.ok.cab x c hfn hc)))).trans e1⟩
    · obtain ⟨o', e1⟩ := I.base.there b o e hx
      exact ⟨o', (hs.2 b (Nat.ne_of_lt (Nat.lt_of_lt_of_le (Heap.lt_size e) (I.ok.cab x c hfn hc)))).trans e1⟩
    · by_cases hj : j = i
      · subst hj
        rw [hi] at e1; cases e1
        rw [List.getElem?_set_self hiσ] at e2
        cases e2
        exact ⟨u, r, .inr ⟨.inl hk, c, hc, hc'⟩⟩
      · rw [List.getElem?_set_ne (Ne.symm hj)] at e2
        obtain ⟨u', r', q⟩ := hl j y v' e1 e2 e3
        refine ⟨u', r', ?_⟩
        rcases q with q | ⟨k, c', e, z'⟩
        · exact .inl q
        · refine .inr ⟨k, c', e, z'.sameBut hs ?_⟩
          rintro rfl
          exact hj (nodup_ix hN e1 (I.ok.inj _ _ _ e hc ▸ hi))
    · by_cases hcc : c' = c
      · subst hcc; exact ⟨_, hc'⟩
      · obtain ⟨w2, z2⟩ := I.cell y c' e
        exact ⟨w2, z2.sameBut hs hcc⟩
    · obtain ⟨e, n, ne, nf, d⟩ := I.pin p hp
      refine ⟨(hs.2 p.1 ?_).trans e, n, ne, nf, d⟩
      intro q
      rw [q, hoc] at e
      have q' : oc = p.2 := Option.some.inj e
      exact d w' (by rw [← q']; exact hocd)
theorem store_ok {M : Model} {A : Around} {E : Value → Shared → Prop} {i : Nat} {x : Str} {v : V} {u : Value} {Q : Unit → Shared → Prop} (I : Inv X pins σ H s) (hN : X.N.Nodup) (hi : X.N[i]? = some x) (hx : Loc X.env.scope x) (r : RelV v u)
    (h : ∀ s', Inv X pins (σ.set i (some v)) H s' → Q () s') (hf : X.fn x = true ∨ X.env.scope.names.lookup x = some .local := by first | exact .inl rfl | exact .inr rfl | assumption) : wpAny M A (storeName X.env x u) Q E s :=
  store_ok2 I hN hi hx r (fun s' I' _ => h s' I') hf
theorem Inv.call' {s' : Shared} {ch : List Addr} (I : Inv X pins σ H s) (ho : s'.os = s.os) (u : Un (frs X.stack) ch H H' s.heap s'.heap) (hok : HOk X.prog X.w H' s'.heap) (hg : AllBare s'.gens)
    (hch : ∀ b ∈ ch, (b ∈ X.ex ∨ X.s₀.heap.objs.size ≤ b) ∧ b ≠ X.env.locals ∧ (∀ x c, X.env.cells.lookup x = some c → c ≠ b) ∧ ∀ p ∈ X.pn ++ pins, p.1 ≠ b) : Inv X pins σ H' s' := by
  obtain ⟨h', g', d', t', o'⟩ := s'
  have e : o' = s.os := ho
  subst e
  exact I.call (g' := g') (t' := t') (d' := d') u hok hg hch
end
abbrev XK := Value → Option Addr → Hp → Prop
abbrev St := List (Option V)
abbrev VK := V → Hp → Prop
abbrev TE := St → Hp → VK → Prop
abbrev TT := St → Hp → (Bool → Hp → Prop) → Prop
abbrev TA := St → Hp → (List V → Hp → Prop) → Prop
structure Ends where
  nx : St → Hp → Prop
  rt : VK
  bk : St → Hp → Prop := fun _ _ => False
  ct : St → Hp → Prop := fun _ _ => False
abbrev TS := Ends → St → Hp → Prop
def EP (X : Cx) (pins : List (Addr × Obj)) (σ : St) (Q : VK) (u : Value) (s' : Shared) : Prop := ∃ v H', Inv X pins σ H' s' ∧ RelV v u ∧ Q v H'
def TP (X : Cx) (pins : List (Addr × Obj)) (σ : St) (Q : Bool → Hp → Prop) (b : Bool) (s' : Shared) : Prop := ∃ H', Inv X pins σ H' s' ∧ Q b H'
def AP (X : Cx) (pins : List (Addr × Obj)) (σ : St) (Q : List V → Hp → Prop) (us : List Value) (s' : Shared) : Prop := ∃ vs H', Inv X pins σ H' s' ∧ Vals vs us ∧ Q vs H'
def SP (X : Cx) (pins : List (Addr × Obj)) (D : Ends) (f : Flow) (s' : Shared) : Prop :=
  match f with
  | .next => ∃ σ' H', Inv X pins σ' H' s' ∧ D.nx σ' H'
  | .brk => ∃ σ' H', Inv X pins σ' H' s' ∧ D.bk σ' H'
  | .cont => ∃ σ' H', Inv X pins σ' H' s' ∧ D.ct σ' H'
  | .ret u => ∃ v σ' H', Inv X pins σ' H' s' ∧ RelV v u ∧ D.rt v H'
def PE (X : Cx) (e : Expr) (t : TE) : Prop :=
  ∀ (pins : List (Addr × Obj)) (s : Shared) (σ : St) (H : Hp) (Q : VK), Inv X pins σ H s → t σ H Q → wpAny (model X.prog X.w) X.A (eval e X.env) (EP X pins σ Q) X.xe s
def PT (X : Cx) (e : Expr) (t : TT) : Prop :=
  ∀ (pins : List (Addr × Obj)) (s : Shared) (σ : St) (H : Hp) (Q : Bool → Hp → Prop), Inv X pins σ H s → t σ H Q → wpAny (model X.prog X.w) X.A (isTrue e X.env (eval e X.env)) (TP X pins σ Q) X.xe s
def PW (X : Cx) (e : Expr) (t : TT) : Prop :=
  ∀ (whole : Sem Value) (pins : List (Addr × Obj)) (s : Shared) (σ : St) (H : Hp) (Q : Bool → Hp → Prop), Inv X pins σ H s → t σ H Q → wpAny (model X.prog X.w) X.A (isTrue e X.env whole) (TP X pins σ Q) X.xe s
def PA (X : Cx) (es : List Expr) (t : TA) : Prop :=
  ∀ (pos : Pos) (pins : List (Addr × Obj)) (s : Shared) (σ : St) (H : Hp) (Q : List V → Hp → Prop), Inv X pins σ H s → t σ H Q → wpAny (model X.prog X.w) X.A (spliced (backTo pos (starEach es X.env))) (AP X pins σ Q) X.xe s
def PS (X : Cx) (st : Stmt) (t : TS) : Prop :=
  ∀ (pins : List (Addr × Obj)) (s : Shared) (σ : St) (H : Hp) (D : Ends), Inv X pins σ H s → t D σ H → wpAny (model X.prog X.w) X.A (exec st X.env) (SP X pins D) X.xe s
def PSs (X : Cx) (st : List Stmt) (t : TS) : Prop :=
  ∀ (pins : List (Addr × Obj)) (s : Shared) (σ : St) (H : Hp) (D : Ends), Inv X pins σ H s → t D σ H → wpAny (model X.prog X.w) X.A (execs st X.env) (SP X pins D) X.xe s
theorem thn {α : Type} {t : Sem α} {Q Q' : α → Shared → Prop} {M : Model} {A : Around} {E : Value → Shared → Prop} {s : Shared} (h : wpAny M A t Q E s) (hQ : ∀ a s, Q a s → Q' a s) : wpAny M A t Q' E s := wpAny_mono h hQ fun _ _ x => x
end L2
namespace L2
open PySem PySem.Spec PyProof.Rows
section
variable {X : Cx}
theorem bin {a b : Expr} {ta tb : TE} (ha : PE X a ta) (hb : PE X b tb) {pins : List (Addr × Obj)} {s : Shared} {σ : St} {H : Hp} {R : V → V → Hp → Prop} (I : Inv X pins σ H s) (h : ta σ H fun x H1 => tb σ H1 fun y H2 => R x y H2)
    {α : Type} {Q : α → Shared → Prop} {f : Value → Value → Sem α}
    (hf : ∀ v u s2 x y H2, Inv X pins σ H2 s2 → RelV x v → RelV y u → R x y H2 → wpAny (model X.prog X.w) X.A (f v u) Q X.xe s2) :
    wpAny (model X.prog X.w) X.A (eval a X.env) (fun v s₁ => wpAny (model X.prog X.w) X.A (eval b X.env) (fun u s₂ => wpAny (model X.prog X.w) X.A (f v u) Q X.xe s₂) X.xe s₁) X.xe s := by
  refine thn (ha pins s σ H _ I h) fun v s1 ⟨x, H1, I1, r1, q1⟩ => ?_
  refine thn (hb pins s1 σ H1 _ I1 q1) fun u s2 ⟨y, H2, I2, r2, q2⟩ => ?_
  exact hf v u s2 x y H2 I2 r1 r2 q2
def tVar (i : Nat) : TE := fun σ H Q => ∃ v, σ[i]? = some (some v) ∧ Q v H
def tC (v : V) : TE := fun _ H Q => Q v H
theorem pe_var {i : Nat} {x : Str} {pos : Pos} (hN : X.N[i]? = some x) (hv : Vis X.env.scope x) (hd : (x == ("__debug__" : Str)) = false := by decide) (hcd : (x == ("__classdict__" : Str)) = false := by decide) : PE X (.Name x pos) (tVar i) := by
  intro pins s σ H Q I h
  obtain ⟨v, e, h⟩ := h
  obtain ⟨m, hn, hl⟩ := I.loc
  obtain ⟨u, r, l⟩ := hl i x v hN e hv
  have fin : EP X pins σ Q u s := ⟨v, H, I, r, h⟩
  rcases l with ⟨hk, hm⟩ | ⟨hk, c, hc, hcell⟩
  · exact wpAny_Name (wpAny_loadName_local I.ok.kind hk hn hm fin) hd
  · rcases hk with hk | hk
    · exact wpAny_Name (wpAny_loadName_cell I.ok.kind hk hc hcell fin) hd
    · exact wpAny_Name (wpAny_loadName_free I.ok.kind hk hc hcell fin hcd) hd
theorem pe_int {i j pos} : PE X (.Constant (.int i) j pos) (tC (.int i)) := fun _ _ _ H _ I h => wpAny_Constant_int ⟨.int i, H, I.tok _, ⟨_, rfl⟩, h⟩
theorem pe_bl {b j pos} : PE X (.Constant (.bool b) j pos) (tC (.bl b)) := fun _ _ _ H _ I h => Constant_bool ⟨.bl b, H, I, rfl, h⟩
theorem pe_non {j pos} : PE X (.Constant .none j pos) (tC .non) := fun _ _ _ H _ I h => Constant_none ⟨.non, H, I, rfl, h⟩
theorem pe_str {x j pos} : PE X (.Constant (.str x) j pos) (tC (.str x)) := fun _ _ _ H _ I h => Calls.Constant_str ⟨.str x, H, I.tok _, ⟨_, rfl⟩, h⟩
def Gl (X : Cx) (x : Str) : Prop := X.env.kindOf x = some .globalImplicit
theorem ld_glob {E : Value → Shared → Prop} {pins : List (Addr × Obj)} {s : Shared} {σ : St} {H : Hp} {x : Str} {u : Value} {pos : Pos} {Q : Value → Shared → Prop} (I : Inv X pins σ H s) (hg : Gl X x) (hm : X.mg x = some u) (h : Q u s)
    (hd : (x == ("__debug__" : Str)) = false := by decide) : wpAny (model X.prog X.w) X.A (eval (.Name x pos) X.env) Q E s :=
  Calls.Name_function_global I.ok.kind hg (Calls.loadGlobal_global (by rw [I.ok.glob]; exact I.mod.glob.keeps I.bk) hm h) hd
theorem ld_blt {E : Value → Shared → Prop} {pins : List (Addr × Obj)} {s : Shared} {σ : St} {H : Hp} {x : Str} {u : Value} {pos : Pos} {Q : Value → Shared → Prop} (I : Inv X pins σ H s) (hg : Gl X x) (hm : X.mg x = none) (hv : bootBuiltins x = some u) (h : Q u s)
    (hn : x ≠ "__name__" := by decide) (hd : (x == ("__debug__" : Str)) = false := by decide) : wpAny (model X.prog X.w) X.A (eval (.Name x pos) X.env) Q E s := by
  obtain ⟨mb, h1, h2⟩ := I.mod.blt
  exact Calls.Name_function_global I.ok.kind hg (Calls.loadGlobal_builtin (by rw [I.ok.glob]; exact I.mod.glob.keeps I.bk) hm (by rw [I.ok.blt]; exact h1.keeps I.bk) ((h2 x hn).trans hv) h) hd
theorem pe_glob {x : Str} {v : V} {u : Value} {pos : Pos} (hg : Gl X x) (hm : X.mg x = some u) (r : RelV v u) (hd : (x == ("__debug__" : Str)) = false := by decide) : PE X (.Name x pos) (tC v) :=
  fun _ _ _ H _ I h => ld_glob I hg hm ⟨v, H, I, r, h⟩ hd
theorem pe_bltn {x : Str} {v : V} {u : Value} {pos : Pos} (hg : Gl X x) (hm : X.mg x = none) (hv : bootBuiltins x = some u) (r : RelV v u) (hn : x ≠ "__name__" := by decide) (hd : (x == ("__debug__" : Str)) = false := by decide) : PE X (.Name x pos) (tC v) :=
  fun _ _ _ H _ I h => ld_blt I hg hm hv ⟨v, H, I, r, h⟩ hn hd
variable {a b : Expr} {ta tb : TE} {pos : Pos}
def PC (X : Cx) (op : CmpOp) (a b : Expr) (t : TE) : Prop :=
  ∀ (pins : List (Addr × Obj)) (s : Shared) (σ : St) (H : Hp) (Q : VK), Inv X pins σ H s → t σ H Q →
    wpAny (model X.prog X.w) X.A (eval a X.env) (fun v s₁ => wpAny (model X.prog X.w) X.A (eval b X.env) (fun u s₂ => wpAny (model X.prog X.w) X.A (compareOp op v u) (EP X pins σ Q) X.xe s₂) X.xe s₁) X.xe s
theorem nobehind (b : Expr) {op : CmpOp} (h : op ≠ .In) (h2 : op ≠ .NotIn) : behindInMarks op b = false := by
  have e1 : (op == CmpOp.In) = false := by cases op <;> first | rfl | exact absurd rfl h
  have e2 : (op == CmpOp.NotIn) = false := by cases op <;> first | rfl | exact absurd rfl h2
  cases b <;> simp [behindInMarks, e1, e2]
def tB (t : TE) : TT := fun σ H Q => t σ H fun x H1 => ∃ c, x = .bl c ∧ Q c H1
theorem pt_cmp {op : CmpOp} {t : TE} (h : PC X op a b t) (h1 : behindInMarks op b = false := by first | exact nobehind _ (by decide) (by decide) | rfl) : PT X (.Compare a [op] [b] pos) (tB t) := by
  intro pins s σ H Q I hw
  refine wpAny_isTrue_Compare1 (thn (h pins s σ H _ I hw) fun v s1 h1 => thn h1 fun u s2 h2 => thn h2 fun c s3 ⟨x, H1, I1, r1, q1⟩ => ?_) h1
  obtain ⟨d, rfl, q⟩ := q1
  cases r1
  exact wpAny_truthy_bool ⟨H1, I1, q⟩
theorem pt_val {e : Expr} {t : TE} (h : PE X e t) (he : ∀ whole, isTrue e X.env whole = (do let v ← whole; standAt e.pos; holding [v] (truthy v)) := by intro _; rfl) : PT X e (tB t) := by
  intro pins s σ H Q I hw
  refine isTrue_plain (thn (h pins s σ H _ I hw) fun v s1 ⟨x, H1, I1, r1, q1⟩ => ?_) (he _)
  obtain ⟨d, rfl, q⟩ := q1
  cases r1
  exact wpAny_truthy_bool ⟨H1, I1, q⟩
variable {tA tB' : TT} {rest : List Expr}
def tAnd (t u : TT) : TT := fun σ H Q => t σ H fun c H1 => if c = true then u σ H1 Q else Q false H1
def tOr (t u : TT) : TT := fun σ H Q => t σ H fun c H1 => if c = true then Q true H1 else u σ H1 Q
def tNot (t : TT) : TT := fun σ H Q => t σ H fun c H1 => Q (!c) H1
theorem pw_and1 (ha : PT X a tA) : PW X (.BoolOp .And [a] pos) tA := by
  intro wh pins s σ H Q I h
  refine isTrue_and (thn (ha pins s σ H Q I h) fun c s1 e => ?_)
  cases c with
  | true => exact isTrue_and_nil e
  | false => exact e
theorem pw_or1 (ha : PT X a tA) : PW X (.BoolOp .Or [a] pos) tA := by
  intro wh pins s σ H Q I h
  refine isTrue_or (thn (ha pins s σ H Q I h) fun c s1 e => ?_)
  cases c with
  | false => exact isTrue_or_nil e
  | true => exact e
theorem pw_and (ha : PT X a tA) (hb : PW X (.BoolOp .And (b :: rest) pos) tB') : PW X (.BoolOp .And (a :: b :: rest) pos) (tAnd tA tB') := by
  intro wh pins s σ H Q I h
  refine isTrue_and (thn (ha pins s σ H _ I h) fun c s1 ⟨H1, I1, q1⟩ => ?_)
  cases c with
  | true => exact hb wh pins s1 σ H1 Q I1 q1
  | false => exact ⟨H1, I1, q1⟩
theorem pw_or (ha : PT X a tA) (hb : PW X (.BoolOp .Or (b :: rest) pos) tB') : PW X (.BoolOp .Or (a :: b :: rest) pos) (tOr tA tB') := by
  intro wh pins s σ H Q I h
  refine isTrue_or (thn (ha pins s σ H _ I h) fun c s1 ⟨H1, I1, q1⟩ => ?_)
  cases c with
  | true => exact ⟨H1, I1, q1⟩
  | false => exact hb wh pins s1 σ H1 Q I1 q1
theorem pt_not (ha : PT X a tA) : PT X (.UnaryOp .Not a pos) (tNot tA) := by
  intro pins s σ H Q I h
  exact isTrue_not (ha pins s σ H (fun c H1 => Q (!c) H1) I h)
def tNotV (ta : TE) : TE := fun σ H Q => ta σ H fun x H1 => ∃ c, x = .bl c ∧ Q (.bl (!c)) H1
theorem pe_not (ha : PE X a ta) : PE X (.UnaryOp .Not a pos) (tNotV ta) := by
  intro pins s σ H Q I h
  refine UnaryOp_ (thn (ha pins s σ H _ I h) fun v s1 ⟨x, H1, I1, r1, q1⟩ => ?_)
  obtain ⟨c, rfl, q1⟩ := q1
  cases r1
  exact not_of (wpAny_truthy_bool ⟨.bl (!c), H1, I1, rfl, q1⟩)
end
end L2
namespace L2
open PySem PySem.Spec PyProof.Rows
def SqL (K : PySem.W.Frag) (H : Hp) (a : Addr) (xs : List V) : Prop :=
  Rd H a (.lst xs) ∨
    ∃ (o : Obj) (its : Array Value) (n : Nat), K.lookup a = some o ∧ o.cls = .type "list" ∧ o.dict = none ∧ o.data = .seq its n ∧ its.size ≤ sizeLine ∧ Vals xs its.toList
def SqT (K : PySem.W.Frag) (H : Hp) (a : Addr) (xs : List V) : Prop :=
  Rd H a (.tup xs) ∨
    ∃ (o : Obj) (its : Array Value) (n : Nat), K.lookup a = some o ∧ o.cls = .type "tuple" ∧ o.data = .seq its n ∧ its.size ≤ sizeLine ∧ Vals xs its.toList
def absV : Value → Option V
  | .none => some .non
  | .bool b => some (.bl b)
  | .int i _ => some (.int i)
  | .str x _ => some (.str x)
  | .bytes b _ => some (.byt b)
  | .float b _ => some (.flt b)
  | .ref a => some (.ref a)
  | .type n => some (.ty n)
  | _ => none
theorem RelV.abs {x : V} {u : Value} (r : RelV x u) : absV u = some x := by
  cases x with
  | non => cases r; rfl
  | bl _ => cases r; rfl
  | int _ => obtain ⟨t, rfl⟩ := r; rfl
  | str _ => obtain ⟨t, rfl⟩ := r; rfl
  | byt _ => obtain ⟨t, rfl⟩ := r; rfl
  | flt _ => obtain ⟨t, rfl⟩ := r; rfl
  | ref _ => cases r; rfl
  | ty _ => cases r; rfl
theorem RelV.inj {x y : V} {u : Value} (r : RelV x u) (q : RelV y u) : x = y := Option.some.inj (r.abs.symm.trans q.abs)
theorem Vals.inj : ∀ {xs ys : List V} {us : List Value}, Vals xs us → Vals ys us → xs = ys
  | _, _, _, .nil, .nil => rfl
  | _, _, _, .cons r t, .cons r' t' => by rw [r.inj r', Vals.inj t t']
section
variable {X : Cx} {pins : List (Addr × Obj)} {σ : St} {H : Hp} {s : Shared} {a : Addr} {xs ys : List V}
theorem SqL.of {K : PySem.W.Frag} (h : H a = some (.lst xs)) : SqL K H a xs := .inl (.inl h)
theorem SqT.of {K : PySem.W.Frag} (h : H a = some (.tup xs)) : SqT K H a xs := .inl (.inl h)
theorem Inv.list (I : Inv X pins σ H s) (h : SqL X.K H a xs) : ∃ its : List Value, Vals xs its ∧ PlainL s.heap a its.toArray ∧ xs.length ≤ sizeLine := by
  rcases h with h | ⟨o, its, n, hk, hc, hd, hs, hz, r⟩
  · obtain ⟨z, its, n, r, e⟩ := h.ok I.hok
    exact ⟨its, r, ⟨_, n, e, rfl, rfl, rfl⟩, z⟩
  · refine ⟨its.toList, r, ⟨o, n, I.kIn a o hk, hc, hd, by simpa using hs⟩, ?_⟩
    have e := r.length
    simp only [Array.length_toList] at e
    omega
theorem Inv.tuple (I : Inv X pins σ H s) (h : SqT X.K H a xs) : ∃ its : List Value, Vals xs its ∧ IsTup s.heap a its.toArray ∧ xs.length ≤ sizeLine := by
  rcases h with h | ⟨o, its, n, hk, hc, hs, hz, r⟩
  · obtain ⟨z, its, r, p⟩ := h.ok I.hok
    exact ⟨its, r, p, z⟩
  · refine ⟨its.toList, r, ⟨o, I.kIn a o hk, hc, n, by simpa using hs⟩, ?_⟩
    have e := r.length
    simp only [Array.length_toList] at e
    omega
theorem Inv.list_inj (I : Inv X pins σ H s) (h : SqL X.K H a xs) (h' : SqL X.K H a ys) : xs = ys := by
  obtain ⟨its, r, ⟨o, n, e, _, _, d⟩, _⟩ := I.list h
  obtain ⟨its', r', ⟨o', n', e', _, _, d'⟩, _⟩ := I.list h'
  rw [e] at e'; cases e'
  rw [d] at d'
  injection d' with d1 _
  have : its = its' := by simpa using congrArg Array.toList d1
  subst this
  exact r.inj r'
theorem Inv.tuple_inj (I : Inv X pins σ H s) (h : SqT X.K H a xs) (h' : SqT X.K H a ys) : xs = ys := by
  obtain ⟨its, r, ⟨o, e, _, n, d⟩, _⟩ := I.tuple h
  obtain ⟨its', r', ⟨o', e', _, n', d'⟩, _⟩ := I.tuple h'
  rw [e] at e'; cases e'
  rw [d] at d'
  injection d' with d1 _
  have : its = its' := by simpa using congrArg Array.toList d1
  subst this
  exact r.inj r'
end
abbrev Cx.wish (X : Cx) (E : Value → Shared → Prop) : Cx := { X with xe := E }
abbrev Cx.nox (X : Cx) : Cx := X.wish fun _ _ => False
theorem Cx.Ok.wish {X : Cx} (ok : X.Ok) (E : Value → Shared → Prop) : (X.wish E).Ok :=
  ⟨ok.mod, ok.kind, ok.glob, ok.blt, ok.above, ok.inj, ok.has, ok.cab, ok.hd, ok.frames, ok.stk, ok.exf, ok.bs, ok.bsz, ok.noex, ok.exfs, ok.funs, ok.frf⟩
theorem Cx.Ok.unwish {X : Cx} {E : Value → Shared → Prop} (ok : (X.wish E).Ok) : X.Ok :=
  ⟨ok.mod, ok.kind, ok.glob, ok.blt, ok.above, ok.inj, ok.has, ok.cab, ok.hd, ok.frames, ok.stk, ok.exf, ok.bs, ok.bsz, ok.noex, ok.exfs, ok.funs, ok.frf⟩
section
variable {X : Cx} {pins : List (Addr × Obj)} {σ : St} {H : Hp} {s : Shared} {E : Value → Shared → Prop}
theorem Inv.wish (I : Inv X pins σ H s) (E : Value → Shared → Prop) : Inv (X.wish E) pins σ H s := ⟨I.ok.wish E, I.os, I.bare, I.base, I.loc, I.cell, I.free, I.freeC, I.pin, I.hok, I.len⟩
theorem Inv.unwish (I : Inv (X.wish E) pins σ H s) : Inv X pins σ H s := ⟨I.ok.unwish, I.os, I.bare, I.base, I.loc, I.cell, I.free, I.freeC, I.pin, I.hok, I.len⟩
end
section
variable {X : Cx} {st : Stmt} {rest : List Stmt} {t u : TS} {e : Expr} {te : TE} {pos : Pos}
def tNext : TS := fun D σ H => D.nx σ H
def tSeq (t u : TS) : TS := fun D σ H => t { D with nx := u D } σ H
theorem pss_nil : PSs X [] tNext := fun _ _ σ H _ I h => wpAny_execs_nil ⟨σ, H, I, h⟩
theorem pss_cons (h1 : PS X st t) (h2 : PSs X rest u) : PSs X (st :: rest) (tSeq t u) := by
  intro pins s σ H D I h
  refine wpAny_execs_cons (thn (h1 pins s σ H { D with nx := u D } I h) fun f s1 q => ?_)
  cases f with
  | next =>
    obtain ⟨σ', H', I', q⟩ := q
    exact h2 pins s1 σ' H' D I' q
  | ret v => exact q
  | brk => exact q
  | cont => exact q
theorem pss_one (h1 : PS X st t) : PSs X [st] t := by
  intro pins s σ H D I h
  refine wpAny_execs_cons (thn (h1 pins s σ H D I h) fun f s1 q => ?_)
  cases f with
  | next => exact wpAny_execs_nil q
  | ret v => exact q
  | brk => exact q
  | cont => exact q
theorem Inv.quiet {pins : List (Addr × Obj)} {σ : St} {H : Hp} {s : Shared} (I : Inv X pins σ H s) : interactive X.env = false := by simp [interactive, I.ok.kind]
def tDrop (te : TE) : TS := fun D σ H => te σ H fun _ H1 => D.nx σ H1
theorem ps_expr (he : PE X e te) (hs : swapsWith e none pos.line X.env = pure false := by rfl) : PS X (.Expr e pos) (tDrop te) := by
  intro pins s σ H D I h
  exact wpAny_Expr_any (thn (he pins s σ H _ I h) fun v s1 ⟨x, H1, I1, r1, q1⟩ => ⟨σ, H1, I1, q1⟩) I.quiet hs
def tRet (te : TE) : TS := fun D σ H => te σ H D.rt
theorem ps_ret (he : PE X e te) : PS X (.Return (some e) pos) (tRet te) := by
  intro pins s σ H D I h
  exact wpAny_Return_some (thn (he pins s σ H _ I h) fun v s1 ⟨x, H1, I1, r1, q1⟩ => ⟨x, σ, H1, I1, r1, q1⟩)
def tIfS (c : TT) (t u : TS) : TS := fun D σ H => c σ H fun b H1 => if b = true then t D σ H1 else u D σ H1
theorem ps_if {c : Expr} {a b : List Stmt} {tc : TT} (hc : PT X c tc) (ha : PSs X a t) (hb : PSs X b u) : PS X (.If c a b pos) (tIfS tc t u) := by
  intro pins s σ H D I h
  refine wpAny_If (thn (hc pins s σ H _ I h) fun d s1 ⟨H1, I1, q1⟩ => ?_)
  cases d with
  | true => exact ha pins s1 σ H1 D I1 q1
  | false => exact hb pins s1 σ H1 D I1 q1
end
abbrev TG := V → St → Hp → (St → Hp → Prop) → Prop
abbrev TGs := List V → St → Hp → (St → Hp → Prop) → Prop
def PG (X : Cx) (target : Expr) (t : TG) : Prop :=
  ∀ (pins : List (Addr × Obj)) (s : Shared) (σ : St) (H : Hp) (v : V) (u : Value) (Q : St → Hp → Prop), Inv X pins σ H s → RelV v u → t v σ H Q →
    wpAny (model X.prog X.w) X.A (assign target X.env u) (fun _ s' => ∃ σ' H', Inv X pins σ' H' s' ∧ Q σ' H') X.xe s
def PGs (X : Cx) (ts : List Expr) (t : TGs) : Prop :=
  ∀ (pins : List (Addr × Obj)) (s : Shared) (σ : St) (H : Hp) (vs : List V) (us : List Value) (Q : St → Hp → Prop), Inv X pins σ H s → Vals vs us → t vs σ H Q →
    wpAny (model X.prog X.w) X.A (assignInOrder ((assignEach ts X.env).map (·.2)) us) (fun _ s' => ∃ σ' H', Inv X pins σ' H' s' ∧ Q σ' H') X.xe s
abbrev TSet := V → V → V → Hp → (Hp → Prop) → Prop
section
variable {X : Cx} {pos : Pos}
def gName (i : Nat) : TG := fun v σ H Q => Q (σ.set i (some v)) H
theorem pg_name {i : Nat} {x : Str} (hN : X.N.Nodup) (hi : X.N[i]? = some x) (hx : Loc X.env.scope x) (hf : X.fn x = true ∨ X.env.scope.names.lookup x = some .local := by first | exact .inl rfl | exact .inr rfl | assumption) : PG X (.Name x pos) (gName i) := by
  intro pins s σ H v u Q I r h
  exact wpAny_assign_Name (store_ok I hN hi hx r (fun s' I' => ⟨_, H, I', h⟩) hf)
def gNil : TGs := fun vs σ H Q => vs = [] ∧ Q σ H
def gCons (t : TG) (u : TGs) : TGs := fun vs σ H Q => ∃ v r, vs = v :: r ∧ t v σ H fun σ' H' => u r σ' H' Q
theorem pgs_nil : PGs X [] gNil := by
  intro pins s σ H vs us Q I r h
  obtain ⟨e, h⟩ := h
  subst e
  cases r
  exact assignInOrder_nil ⟨σ, H, I, h⟩
theorem pgs_cons {e : Expr} {es : List Expr} {t : TG} {u : TGs} (h1 : PG X e t) (h2 : PGs X es u)
    (hs : (assignEach (e :: es) X.env).map (·.2) = assign e X.env :: (assignEach es X.env).map (·.2) := by rfl) : PGs X (e :: es) (gCons t u) := by
  intro pins s σ H vs us Q I r h
  obtain ⟨v, vr, e1, h⟩ := h
  subst e1
  cases r with
  | cons r rr =>
    rw [hs]
    refine assignInOrder_cons (thn (h1 pins s σ H _ _ _ I r h) fun _ s1 ⟨σ1, H1, I1, q1⟩ => ?_)
    exact h2 pins s1 σ1 H1 _ _ Q I1 rr q1
def gTup (K : PySem.W.Frag) (n : Nat) (t : TGs) : TG := fun v σ H Q => ∃ a xs, v = .ref a ∧ SqT K H a xs ∧ xs.length = n ∧ t xs σ H Q
theorem pg_tup {es : List Expr} {k : Nat} {t : TGs} {n : Nat} (hc : X.calm = true) (h : PGs X es t)
    (hn : (assignEach es X.env).length = n := by rfl) (hst : (assignEach es X.env).findIdx? (·.1) = none := by rfl) : PG X (.Tuple es k pos) (gTup X.K n t) := by
  intro pins s σ H v u Q I r hw
  obtain ⟨a, xs, e1, hq, hl, hw⟩ := hw
  subst e1
  cases r
  obtain ⟨its, rv, ht, hz⟩ := I.tuple hq
  refine assign_Tuple_tuple (I.ok.hd hc) ht (by simp [hn, ← hl, rv.length]) hst fun h' hx => ?_
  have I1 : Inv X pins σ H { s with heap := h' } := I.kept (t' := s.toks) fun b o e => hx b o (Nat.ne_of_lt (Heap.lt_size e)) e
  exact h pins _ σ H xs _ Q I1 (by simpa using rv) hw
def gSub (to ti : TE) (t : TSet) : TG := fun v σ H Q => to σ H fun o H1 => ti σ H1 fun i H2 => t o i v H2 fun H3 => Q σ H3
def tAsg (te : TE) (g : TG) : TS := fun D σ H => te σ H fun x H1 => g x σ H1 D.nx
theorem ps_asg {tg e : Expr} {te : TE} {g : TG} (he : PE X e te) (hg : PG X tg g) (hs : swapsWithSole [tg] e pos.line X.env = pure false := by rfl) (hw : swappedStores [tg] e X.env = pure none := by rfl)
    (h1 : (assignEach [tg] X.env).map (·.2) = [assign tg X.env] := by rfl) : PS X (.Assign [tg] e pos) (tAsg te g) := by
  intro pins s σ H D I h
  refine wpAny_Assign_stores (thn (he pins s σ H _ I h) fun v s1 ⟨x, H1, I1, r1, q1⟩ => ?_) hs hw
  rw [h1]
  exact thn (hg pins s1 σ H1 x v _ I1 r1 q1) fun _ s2 q => q
theorem ps_set {i : Nat} {x : Str} {e : Expr} {te : TE} {pos' : Pos} (hN : X.N.Nodup) (hi : X.N[i]? = some x) (hx : Loc X.env.scope x) (he : PE X e te) (hs : swapsWith e (some (.Name x pos')) pos.line X.env = pure false := by rfl) (hf : X.fn x = true ∨ X.env.scope.names.lookup x = some .local := by first | exact .inl rfl | exact .inr rfl | assumption) :
    PS X (.Assign [.Name x pos'] e pos) (tAsg te (gName i)) := by
  intro pins s σ H D I h
  refine wpAny_Assign_Name (thn (he pins s σ H _ I h) fun v s1 ⟨y, H1, I1, r1, q1⟩ => ?_) hs
  exact store_ok I1 hN hi hx r1 (fun s2 I2 => ⟨_, H1, I2, q1⟩) hf
end
section
variable {X : Cx} {pos : Pos}
def tWhile (c : TT) (tb : TS) : TS := fun D σ H => ∃ W : Nat → St → Hp → Prop, (∃ m, W m σ H) ∧ ∀ m σ H, W m σ H →
  c σ H fun b H1 => if b = true then ∃ N : St → Hp → Prop, (∀ σ' H', N σ' H' → ∃ m', m' < m ∧ W m' σ' H') ∧ tb { D with nx := N, ct := N, bk := D.nx } σ H1 else D.nx σ H1
theorem ps_while {c : Expr} {body : List Stmt} {tc : TT} {tb : TS} (hp : PassesOwn (model X.prog X.w) X.A X.env X.xe) (hc : PT X c tc) (hb : PSs X body tb) : PS X (.While c body [] pos) (tWhile tc tb) := by
  intro pins s σ H D I h
  obtain ⟨W, ⟨m0, w0⟩, turn⟩ := h
  refine wpAny_While (codeAny_whileLoop (fun n s' => ∃ σ' H', Inv X pins σ' H' s' ∧ W n σ' H') ?_ m0 ⟨σ, H, I, w0⟩)
  rintro n s1 ⟨σ1, H1, I1, w1⟩
  refine wpAny_passesOwn hp (thn (hc pins s1 σ1 H1 _ I1 (turn n σ1 H1 w1)) fun b s2 ⟨H2, I2, q2⟩ => ?_)
  cases b with
  | true =>
    obtain ⟨N, hN, q2⟩ := q2
    rw [if_pos rfl]
    refine wpAny_passesOwn hp (thn (hb pins s2 σ1 H2 _ I2 q2) fun f s3 q3 => ?_)
    cases f with
    | next =>
      obtain ⟨σ3, H3, I3, n3⟩ := q3
      obtain ⟨m', hm, w3⟩ := hN σ3 H3 n3
      exact ⟨m', hm, σ3, H3, I3, w3⟩
    | cont =>
      obtain ⟨σ3, H3, I3, n3⟩ := q3
      obtain ⟨m', hm, w3⟩ := hN σ3 H3 n3
      exact ⟨m', hm, σ3, H3, I3, w3⟩
    | brk => exact q3
    | ret v => exact q3
  | false =>
    rw [if_neg Bool.false_ne_true]
    exact wpAny_execs_nil ⟨σ1, H2, I2, q2⟩
end
structure It where
  go : Nat → Hp → Prop
  yld : Nat → Hp → V → Hp → Prop
  stop : Nat → Hp → Prop
def FpOk (X : Cx) (pins : List (Addr × Obj)) (H : Hp) (b : Addr) : Prop :=
  H b = none ∧ b ≠ X.env.locals ∧ b ∉ X.fs ∧ (b ∈ X.ex ∨ X.s₀.heap.objs.size ≤ b) ∧ (∀ x c, X.env.cells.lookup x = some c → c ≠ b) ∧ ∀ p ∈ X.pn ++ pins, p.1 ≠ b
theorem Inv.fpOk {X : Cx} {pins : List (Addr × Obj)} {σ : St} {H H' : Hp} {s : Shared} {b : Addr} (I : Inv X pins σ H s) (hb : s.heap.objs.size ≤ b) (hn : H' b = none) : FpOk X pins H' b := by
  refine ⟨hn, Nat.ne_of_gt (Nat.lt_of_lt_of_le I.lt hb), I.nofs hb, .inr (Nat.le_trans I.sz hb), fun x c e z => ?_, fun p hp z => ?_⟩
  · obtain ⟨v, q⟩ := I.cell x c e
    exact absurd (Nat.lt_of_lt_of_le q.lt (by rw [z]; exact hb)) (Nat.lt_irrefl _)
  · exact absurd (Nat.lt_of_lt_of_le (Heap.lt_size (I.pin p hp).1) (by rw [z]; exact hb)) (Nat.lt_irrefl _)
structure Turn (P : Program) (w : World) (K : PySem.W.Frag) (tg : Expr) (J : It) (fp : List Addr) (it : Addr) (tn : Nat → Heap → Prop) : Prop where
  mem : it ∈ fp
  obj : ∀ i h, tn i h → ∀ b ∈ fp, ∃ o, h.get? b = some o ∧ ∀ v, o.data ≠ .cell v
  keep : ∀ i h h', tn i h → (∀ b ∈ fp, ∀ o, h.get? b = some o → h'.get? b = some o) → tn i h'
  item : ∀ (X : Cx), X.prog = P → X.w = w → X.K = K → X.calm = true → ∀ (i : Nat) (pins : List (Addr × Obj)) (s : Shared) (σ : St) (H : Hp) (E : Value → Shared → Prop), Inv X pins σ H s → (∀ b ∈ fp, FpOk X pins H b) → tn i s.heap → J.go i H →
    wpAny (model P w) X.A (pyNext (.ref it)) (fun r s1 => ∃ u, r = some u ∧
      wpAny (model P w) X.A (letOwnedTupleGo tg (.ref it) u) (fun _ s2 => ∃ x H', Inv X pins σ H' s2 ∧ RelV x u ∧ J.yld i H x H' ∧ tn (i + 1) s2.heap ∧ ∀ b ∈ fp, H' b = none) E s1) E s
  done : ∀ (X : Cx), X.prog = P → X.w = w → X.K = K → X.calm = true → ∀ (i : Nat) (pins : List (Addr × Obj)) (s : Shared) (σ : St) (H : Hp) (E : Value → Shared → Prop), Inv X pins σ H s → (∀ b ∈ fp, FpOk X pins H b) → tn i s.heap → J.stop i H →
    wpAny (model P w) X.A (pyNext (.ref it)) (fun r s1 => r = none ∧ Inv X pins σ H s1) E s
  self : ∀ (A : Around) (i : Nat) (s : Shared) (Q : Value → Shared → Prop) (E : Value → Shared → Prop), tn i s.heap → Q (.ref it) s → wpAny (model P w) A (pyIter (.ref it)) Q E s
abbrev TI := St → Hp → (It → Hp → Prop) → Prop
def PIE (X : Cx) (pins : List (Addr × Obj)) (σ : St) (tg : Expr) (R : It → Hp → Prop) (itv : Value) (s2 : Shared) : Prop :=
  ∃ (it : Addr) (fp : List Addr) (tn : Nat → Heap → Prop) (J : It) (H' : Hp), itv = .ref it ∧ Inv X pins σ H' s2 ∧ Turn X.prog X.w X.K tg J fp it tn ∧ tn 0 s2.heap ∧ (∀ b ∈ fp, FpOk X pins H' b) ∧ R J H'
def PI (X : Cx) (tg iter : Expr) (wi : TI) : Prop :=
  ∀ (pins : List (Addr × Obj)) (s : Shared) (σ : St) (H : Hp) (R : It → Hp → Prop), Inv X pins σ H s → wi σ H R →
    wpAny (model X.prog X.w) X.A (eval iter X.env) (fun v s1 => wpAny (model X.prog X.w) X.A (pyIter v) (PIE X pins σ tg R) X.xe s1) X.xe s
theorem go_of {M : Model} {A : Around} {E : Value → Shared → Prop} {s : Shared} {tg : Expr} {it : Addr} {u : Value} {o : Obj} {n : String} {vs : Array Value} {Q : Unit → Shared → Prop} (ho : s.heap.get? it = some o) (hc : o.cls = .type n) (hd : o.data = .fields vs)
    (hn : ["enumerate", "zip", "dict_itemiterator", "dict_reverseitemiterator", "odict_iterator", "itertools.zip_longest", "itertools.pairwise"].contains n = false) (hQ : Q () s) : wpAny M A (letOwnedTupleGo tg (.ref it) u) Q E s := by
  unfold letOwnedTupleGo
  cases tg <;> first
    | exact wpAny_pure hQ
    | (cases u <;> first
        | exact wpAny_pure hQ
        | (refine wpAny_bind (wpAny_load ho ?_)
           rw [hc, hd]
           show wpAny M A (if (["enumerate", "zip", "dict_itemiterator", "dict_reverseitemiterator", "odict_iterator", "itertools.zip_longest", "itertools.pairwise"].contains n && vs[0]? == some (rawInt _)) = true then _ else _) Q E s
           rw [if_neg (by intro h; rw [hn, Bool.false_and] at h; cases h)]
           exact wpAny_pure hQ))
def Itl (K : PySem.W.Frag) (a : Addr) : It :=
  ⟨fun i H => ∃ xs x, SqL K H a xs ∧ xs[i]? = some x, fun i H x H' => H' = H ∧ ∀ xs, SqL K H a xs → xs[i]? = some x, fun i H => ∃ xs, SqL K H a xs ∧ xs.length ≤ i⟩
def Itt (K : PySem.W.Frag) (a : Addr) : It :=
  ⟨fun i H => ∃ xs x, SqT K H a xs ∧ xs[i]? = some x, fun i H x H' => H' = H ∧ ∀ xs, SqT K H a xs → xs[i]? = some x, fun i H => ∃ xs, SqT K H a xs ∧ xs.length ≤ i⟩
def Itr (lo : Int) (n : Nat) : It := ⟨fun i _ => i < n, fun i H x H' => H' = H ∧ x = .int (lo + i), fun i _ => n ≤ i⟩
theorem turn_list {P : Program} {w : World} {K : PySem.W.Frag} {tg : Expr} (a it : Addr) : Turn P w K tg (Itl K a) [it] it (fun i h => h.IsListIter it a i) where
  mem := by simp
  obj := fun i h st b hb => by
    have e : b = it := by simpa using hb
    subst e
    obtain ⟨o, e, c, d⟩ := st
    exact ⟨o, e, fun v z => by rw [d] at z; cases z⟩
  keep := fun i h h' st k => st.at fun o e => k it (by simp) o e
  item := by
    intro X hP hw hK hc i pins s σ H E I hf st hg
    subst hP hw hK
    obtain ⟨xs, x, hq, hx⟩ := hg
    obtain ⟨its, rv, p, hz⟩ := I.list hq
    obtain ⟨u, hu, ru⟩ := rv.get hx
    obtain ⟨f0, f1, f2, f3, f4, f5⟩ := hf it (by simp)
    refine wpAny_pyNext_list_item st p.isList (x := u) (by simpa using hu) fun h' st' sb => ?_
    have I1 : Inv X pins σ H { s with heap := h' } := I.turned (t' := s.toks) (fun b o hb e => (sb.2 b hb).trans e) f0 f1 f3 f4 f5
    obtain ⟨o, e, c, d⟩ := id st'
    exact ⟨u, rfl, go_of (s := { s with heap := h' }) e c d (by decide) ⟨x, H, I1, ru, ⟨rfl, fun ys hy => by rw [I.list_inj hy hq]; exact hx⟩, st', fun b hb => (hf b hb).1⟩⟩
  done := by
    intro X hP hw hK hc i pins s σ H E I hf st hg
    subst hP hw hK
    obtain ⟨xs, hq, hx⟩ := hg
    obtain ⟨its, rv, p, hz⟩ := I.list hq
    obtain ⟨f0, f1, f2, f3, f4, f5⟩ := hf it (by simp)
    have hl := rv.length
    exact wpAny_pyNext_list_end (I.ok.hd hc) st p.isList (by simp; omega) fun h' eb => ⟨rfl, I.turned (t' := s.toks) (fun b o hb e => eb b o hb e) f0 f1 f3 f4 f5⟩
  self := fun _ _ _ _ _ st h => wpAny_pyIter_listiter st h
theorem turn_tuple {P : Program} {w : World} {K : PySem.W.Frag} {tg : Expr} (a it : Addr) : Turn P w K tg (Itt K a) [it] it (fun i h => h.IsTupleIter it a i) where
  mem := by simp
  obj := fun i h st b hb => by
    have e : b = it := by simpa using hb
    subst e
    obtain ⟨o, e, c, d⟩ := st
    exact ⟨o, e, fun v z => by rw [d] at z; cases z⟩
  keep := fun i h h' st k => st.at fun o e => k it (by simp) o e
  item := by
    intro X hP hw hK hc i pins s σ H E I hf st hg
    subst hP hw hK
    obtain ⟨xs, x, hq, hx⟩ := hg
    obtain ⟨its, rv, p, hz⟩ := I.tuple hq
    obtain ⟨u, hu, ru⟩ := rv.get hx
    obtain ⟨f0, f1, f2, f3, f4, f5⟩ := hf it (by simp)
    refine wpAny_pyNext_tuple_item st (show s.heap.IsTuple a its.toArray from p) (x := u) (by simpa using hu) fun h' st' sb => ?_
    have I1 : Inv X pins σ H { s with heap := h' } := I.turned (t' := s.toks) (fun b o hb e => (sb.2 b hb).trans e) f0 f1 f3 f4 f5
    obtain ⟨o, e, c, d⟩ := id st'
    exact ⟨u, rfl, go_of (s := { s with heap := h' }) e c d (by decide) ⟨x, H, I1, ru, ⟨rfl, fun ys hy => by rw [I.tuple_inj hy hq]; exact hx⟩, st', fun b hb => (hf b hb).1⟩⟩
  done := by
    intro X hP hw hK hc i pins s σ H E I hf st hg
    subst hP hw hK
    obtain ⟨xs, hq, hx⟩ := hg
    obtain ⟨its, rv, p, hz⟩ := I.tuple hq
    obtain ⟨f0, f1, f2, f3, f4, f5⟩ := hf it (by simp)
    have hl := rv.length
    exact wpAny_pyNext_tuple_end (I.ok.hd hc) st (show s.heap.IsTuple a its.toArray from p) (by simp; omega) fun h' eb => ⟨rfl, I.turned (t' := s.toks) (fun b o hb e => eb b o hb e) f0 f1 f3 f4 f5⟩
  self := fun _ _ _ _ _ st h => wpAny_pyIter_tupleiter st h
theorem turn_range {P : Program} {w : World} {K : PySem.W.Frag} {tg : Expr} (it : Addr) (lo : Int) (n : Nat) : Turn P w K tg (Itr lo n) [it] it (fun i h => IsRangeIter h it (lo + (i : Nat) * 1) ((n : Int) - (i : Nat)) 1) where
  mem := by simp
  obj := fun i h st b hb => by
    have e : b = it := by simpa using hb
    subst e
    exact ⟨_, st, fun v z => by
      have z' : Data.fields _ = Data.cell v := z
      cases z'⟩
  keep := fun i h h' st k => k it (by simp) _ st
  item := by
    intro X hP hw hK hc i pins s σ H E I hf st hg
    subst hP hw hK
    obtain ⟨f0, f1, f2, f3, f4, f5⟩ := hf it (by simp)
    have W := Walks.range (prog := X.prog) (w := X.w) (I.ok.hd hc) it lo 1 n
    refine W.item i s _ _ hg st fun v h' tk hv st' kk => ?_
    obtain ⟨t, rfl⟩ := hv
    have I1 : Inv X pins σ H { s with heap := h', toks := tk } := I.turned (fun b o hb e => kk b o (by simpa using hb) e) f0 f1 f3 f4 f5
    refine ⟨_, rfl, go_of (s := { s with heap := h', toks := tk }) (n := "range_iterator") st' rfl rfl (by decide) ⟨.int (lo + i), H, I1, ⟨t, ?_⟩, ⟨rfl, rfl⟩, st', fun b hb => (hf b hb).1⟩⟩
    rw [Int.mul_one]
  done := by
    intro X hP hw hK hc i pins s σ H E I hf st hg
    subst hP hw hK
    obtain ⟨f0, f1, f2, f3, f4, f5⟩ := hf it (by simp)
    exact wpAny_pyNext_range_end (I.ok.hd hc) st (by have : n ≤ i := hg; omega) fun h' eb => ⟨rfl, I.turned (t' := s.toks) (fun b o hb e => eb b o hb e) f0 f1 f3 f4 f5⟩
  self := fun _ _ _ _ _ st h => wpAny_pyIter_rangeiter st h
end L2
namespace L2
open PySem PySem.Spec PyProof.Rows
section
variable {X : Cx} {tg : Expr}
def iList (K : PySem.W.Frag) (tl : TE) : TI := fun σ H R => tl σ H fun x H1 => ∃ a, x = .ref a ∧ (∃ xs, SqL K H1 a xs) ∧ R (Itl K a) H1
def iTup (K : PySem.W.Frag) (tl : TE) : TI := fun σ H R => tl σ H fun x H1 => ∃ a, x = .ref a ∧ (∃ xs, SqT K H1 a xs) ∧ R (Itt K a) H1
theorem pi_list {l : Expr} {tl : TE} (hl : PE X l tl) : PI X tg l (iList X.K tl) := by
  intro pins s σ H R I h
  refine thn (hl pins s σ H _ I h) fun v s1 ⟨x, H1, I1, r1, q1⟩ => ?_
  obtain ⟨a, e, ⟨xs, hq⟩, q⟩ := q1
  subst e
  cases r1
  obtain ⟨its, rv, p, hz⟩ := I1.list hq
  refine wpAny_pyIter_list p.isList ?_
  refine ⟨s1.heap.objs.size, [s1.heap.objs.size], _, _, H1, rfl, I1.kept (t' := s1.toks) fun b o e => Heap.get?_push_of_some _ e, turn_list a _, ⟨_, Heap.get?_push_size _ rfl, rfl, rfl⟩, fun b hb => ?_, q⟩
  have e : b = s1.heap.objs.size := by simpa using hb
  subst e
  exact I1.fpOk (Nat.le_refl _) (I1.hok.fresh (Nat.le_refl _))
theorem pi_tup {l : Expr} {tl : TE} (hl : PE X l tl) : PI X tg l (iTup X.K tl) := by
  intro pins s σ H R I h
  refine thn (hl pins s σ H _ I h) fun v s1 ⟨x, H1, I1, r1, q1⟩ => ?_
  obtain ⟨a, e, ⟨xs, hq⟩, q⟩ := q1
  subst e
  cases r1
  obtain ⟨its, rv, p, hz⟩ := I1.tuple hq
  refine wpAny_pyIter_tuple (show s1.heap.IsTuple a its.toArray from p) ?_
  refine ⟨s1.heap.objs.size, [s1.heap.objs.size], _, _, H1, rfl, I1.kept (t' := s1.toks) fun b o e => Heap.get?_push_of_some _ e, turn_tuple a _, ⟨_, Heap.get?_push_size _ rfl, rfl, rfl⟩, fun b hb => ?_, q⟩
  have e : b = s1.heap.objs.size := by simpa using hb
  subst e
  exact I1.fpOk (Nat.le_refl _) (I1.hok.fresh (Nat.le_refl _))
theorem range_it {pins : List (Addr × Obj)} {σ : St} {H : Hp} {s : Shared} {R : It → Hp → Prop} {E : Value → Shared → Prop} {lo hi : Int} {t u v : Tok} {tk : Nat} (I : Inv X pins σ H s) (h1 : -(2 ^ 62) ≤ lo) (h2 : lo < 2 ^ 62) (h3 : -(2 ^ 62) ≤ hi) (h4 : hi < 2 ^ 62)
    (q : R (Itr lo (hi - lo).toNat) H) : wpAny (model X.prog X.w) X.A (pyIter (.ref s.heap.objs.size)) (PIE X pins σ tg R) E { s with heap := s.heap.push { cls := .type "range", data := .fields #[.int lo t, .int hi u, .int 1 v] }, toks := tk } := by
  refine wpAny_pyIter_range (IsRange.new ..) (small_one h1 h2 h3 h4) ?_
  have I1 : Inv X pins σ H { s with heap := s.heap.push { cls := .type "range", data := .fields #[.int lo t, .int hi u, .int 1 v] }, toks := tk } := I.kept fun b o e => Heap.get?_push_of_some _ e
  refine ⟨(s.heap.push { cls := .type "range", data := .fields #[.int lo t, .int hi u, .int 1 v] }).objs.size, [(s.heap.push { cls := .type "range", data := .fields #[.int lo t, .int hi u, .int 1 v] }).objs.size], _, _, H, rfl,
    I1.kept (t' := tk) fun b o e => Heap.get?_push_of_some _ e, turn_range _ lo (hi - lo).toNat, ?_, fun b hb => ?_, q⟩
  · have e1 : lo + ((0 : Nat) : Int) * 1 = lo := by simp
    have e2 : (((hi - lo).toNat : Nat) : Int) - ((0 : Nat) : Int) = Builtin.Range.rangeSize lo hi 1 := by rw [rangeSize_one]; split <;> omega
    show IsRangeIter _ _ (lo + ((0 : Nat) : Int) * 1) ((((hi - lo).toNat : Nat) : Int) - ((0 : Nat) : Int)) 1
    rw [e1, e2]
    exact Heap.get?_push_size _ rfl
  · have e : b = (s.heap.push { cls := .type "range", data := .fields #[.int lo t, .int hi u, .int 1 v] }).objs.size := by simpa using hb
    subst e
    exact I1.fpOk (Nat.le_refl _) (I1.hok.fresh (Nat.le_refl _))
def iRng1 (ta : TA) : TI := fun σ H R => ta σ H fun vs H1 => ∃ j : Int, vs = [.int j] ∧ -(2 ^ 62) ≤ j ∧ j < 2 ^ 62 ∧ R (Itr 0 j.toNat) H1
def iRng2 (ta : TA) : TI := fun σ H R => ta σ H fun vs H1 => ∃ i j : Int, vs = [.int i, .int j] ∧ (-(2 ^ 62) ≤ i ∧ i < 2 ^ 62 ∧ -(2 ^ 62) ≤ j ∧ j < 2 ^ 62) ∧ R (Itr i (j - i).toNat) H1
theorem pi_range1 {a : Expr} {ta : TA} {p pos : Pos} (hg : Gl X "range") (hm : X.mg "range" = none) (ha : PA X [a] ta) (hs : starEach [a] X.env = [(false, eval a X.env)] := by rfl) : PI X tg (.Call (.Name "range" p) [a] [] pos) (iRng1 ta) := by
  intro pins s σ H R I h
  refine Call_ (ld_blt I hg hm boot_range (PyProof.Rows.callWith_type1 (thn (ha pos pins s σ H _ I h) fun us s1 ⟨vs, H1, I1, r1, q1⟩ => ?_) hs rfl))
  obtain ⟨j, e, q1, q2, q⟩ := q1
  subst e
  cases r1 with
  | cons r rr =>
    cases rr
    obtain ⟨t, rfl⟩ := r
    exact call_range_1 (range_it I1 (by omega) (by omega) q1 q2 (by simpa using q))
theorem pi_range2 {a b : Expr} {ta : TA} {p pos : Pos} (hg : Gl X "range") (hm : X.mg "range" = none) (ha : PA X [a, b] ta) (hs : starEach [a, b] X.env = [(false, eval a X.env), (false, eval b X.env)] := by rfl) (hs2 : starEach [b] X.env = [(false, eval b X.env)] := by rfl) :
    PI X tg (.Call (.Name "range" p) [a, b] [] pos) (iRng2 ta) := by
  intro pins s σ H R I h
  refine Call_ (ld_blt I hg hm boot_range (PyProof.Rows.callWith_type1 (thn (ha pos pins s σ H _ I h) fun us s1 ⟨vs, H1, I1, r1, q1⟩ => ?_) (by rw [hs, hs2]) (by rw [hs2]; rfl)))
  obtain ⟨i, j, e, ⟨q1, q2, q3, q4⟩, q⟩ := q1
  subst e
  cases r1 with
  | cons r rr =>
    cases rr with
    | cons r' rr =>
      cases rr
      obtain ⟨t, rfl⟩ := r
      obtain ⟨t', rfl⟩ := r'
      exact call_range_2 (range_it I1 q1 q2 q3 q4 q)
def tFor (wi : TI) (g : TG) (tb : TS) : TS := fun D σ H => wi σ H fun J H1 => ∃ W : Nat → Nat → St → Hp → Prop, (∃ m, W 0 m σ H1) ∧ ∀ i m σ H, W i m σ H →
  (J.stop i H ∧ D.nx σ H) ∨ (J.go i H ∧ ∃ N : St → Hp → Prop, (∀ σ' H', N σ' H' → ∃ m', m' < m ∧ W (i + 1) m' σ' H') ∧ ∀ x H', J.yld i H x H' → g x σ H' fun σ2 H2 => tb { D with nx := N, ct := N, bk := D.nx } σ2 H2)
def pinsAt (fp : List Addr) (h : Heap) : List (Addr × Obj) := fp.filterMap fun b => (h.get? b).map fun o => (b, o)
theorem mem_pinsAt {fp : List Addr} {h : Heap} {b : Addr} {o : Obj} (hb : b ∈ fp) (e : h.get? b = some o) : (b, o) ∈ pinsAt fp h := List.mem_filterMap.mpr ⟨b, hb, by rw [e]; rfl⟩
theorem of_pinsAt {fp : List Addr} {h : Heap} {p : Addr × Obj} (hp : p ∈ pinsAt fp h) : p.1 ∈ fp ∧ h.get? p.1 = some p.2 := by
  obtain ⟨b, hb, e⟩ := List.mem_filterMap.mp hp
  cases q : h.get? b with
  | none => rw [q] at e; cases e
  | some o =>
    rw [q] at e
    have e' : (b, o) = p := Option.some.inj e
    subst e'
    exact ⟨hb, q⟩
theorem Inv.pinned {pins : List (Addr × Obj)} {σ : St} {H : Hp} {s : Shared} {fp : List Addr} (I : Inv X pins σ H s) (hf : ∀ b ∈ fp, FpOk X pins H b) (ho : ∀ b ∈ fp, ∃ o, s.heap.get? b = some o ∧ ∀ v, o.data ≠ .cell v) : Inv X (pins ++ pinsAt fp s.heap) σ H s :=
  I.pins_of fun p hp => (List.mem_append.mp hp).elim (fun z => I.pin p (List.mem_append_right _ z)) fun z => by
    obtain ⟨hb, e⟩ := of_pinsAt z
    obtain ⟨f0, f1, f2, _⟩ := hf p.1 hb
    obtain ⟨o, e', d⟩ := ho p.1 hb
    rw [e] at e'; cases e'
    exact ⟨e, f0, f1, f2, d⟩
theorem Inv.unpinned {pins pl : List (Addr × Obj)} {σ : St} {H : Hp} {s : Shared} (I : Inv X (pins ++ pl) σ H s) : Inv X pins σ H s := I.pins_of fun p hp => I.pin p (List.mem_append_right _ (List.mem_append_left _ hp))
theorem ps_for {iter : Expr} {body : List Stmt} {wi : TI} {g : TG} {tb : TS} {pos : Pos} (hp : PassesOwn (model X.prog X.w) X.A X.env X.xe) (hc : X.calm = true) (hi : PI X tg iter wi) (hg : PG X tg g) (hb : PSs X body tb)
    (hs : ∀ x, foldedSetIterable iter X.env x = pure x := by intro _; rfl) : PS X (.For tg iter body [] pos) (tFor wi g tb) := by
  intro pins s σ H D I h
  refine wpAny_For (thn (hi pins s σ H _ I h) fun v s1 h1 => thn h1 fun itv s2 h2 => ?_) hs
  obtain ⟨it, fp, tn, J, H2, e, I2, T, st2, f2, W, ⟨m0, w0⟩, turn⟩ := h2
  subst e
  have stat : ∀ {H' : Hp}, (∀ b ∈ fp, H' b = none) → ∀ b ∈ fp, FpOk X pins H' b := fun hn b hb => ⟨hn b hb, (f2 b hb).2⟩
  refine codeAny_forLoop_any (fun n s' => ∃ i σ' H', Inv X pins σ' H' s' ∧ tn i s'.heap ∧ (∀ b ∈ fp, H' b = none) ∧ W i n σ' H') ?_ m0 ⟨0, σ, H2, I2, st2, fun b hb => (f2 b hb).1, w0⟩
  rintro n s3 ⟨i, σ3, H3, I3, st3, fr3, w3⟩
  rcases turn i n σ3 H3 w3 with ⟨stop, qn⟩ | ⟨go, N, hN, step⟩
  · refine wpAny_passesOwn hp (thn (T.done X rfl rfl rfl hc i pins s3 σ3 H3 X.xe I3 (stat fr3) st3 stop) fun r s4 ⟨hr, I4⟩ => ?_)
    subst hr
    exact wpAny_execs_nil ⟨σ3, H3, I4, qn⟩
  · refine wpAny_passesOwn hp (thn (T.item X rfl rfl rfl hc i pins s3 σ3 H3 X.xe I3 (stat fr3) st3 go) fun r s4 ⟨u, hr, h4⟩ => ?_)
    subst hr
    refine wpAny_passesOwn hp (thn h4 fun _ s5 ⟨x, H5, I5, r5, y5, st5, fr5⟩ => ?_)
    have I5' := I5.pinned (stat fr5) (T.obj _ _ st5)
    refine wpAny_passesOwn hp (thn (hg _ s5 σ3 H5 x u _ I5' r5 (step x H5 y5)) fun _ s6 ⟨σ6, H6, I6, q6⟩ => ?_)
    refine wpAny_passesOwn hp (thn (hb _ s6 σ6 H6 _ I6 q6) fun f s7 q7 => ?_)
    have again : ∀ {σ7 : St} {H7 : Hp}, Inv X (pins ++ pinsAt fp s5.heap) σ7 H7 s7 → N σ7 H7 → ∃ m, m < n ∧ ∃ i σ' H', Inv X pins σ' H' s7 ∧ tn i s7.heap ∧ (∀ b ∈ fp, H' b = none) ∧ W i m σ' H' := fun {σ7 H7} I7 n7 => by
      obtain ⟨m', hm, w7⟩ := hN σ7 H7 n7
      refine ⟨m', hm, i + 1, σ7, H7, I7.unpinned, T.keep _ _ _ st5 fun b hb o e => (I7.pin (b, o) (List.mem_append_right _ (List.mem_append_right _ (mem_pinsAt hb e)))).1, fun b hb => ?_, w7⟩
      obtain ⟨o, e, d⟩ := T.obj _ _ st5 b hb
      exact (I7.pin (b, o) (List.mem_append_right _ (List.mem_append_right _ (mem_pinsAt hb e)))).2.1
    cases f with
    | next => obtain ⟨σ7, H7, I7, n7⟩ := q7; exact again I7 n7
    | cont => obtain ⟨σ7, H7, I7, n7⟩ := q7; exact again I7 n7
    | brk => obtain ⟨σ7, H7, I7, q7⟩ := q7; exact ⟨σ7, H7, I7.unpinned, q7⟩
    | ret v => obtain ⟨x7, σ7, H7, I7, r7, q7⟩ := q7; exact ⟨x7, σ7, H7, I7.unpinned, r7, q7⟩
end
end L2
namespace L2
open PySem PySem.Spec PyProof.Rows
abbrev R2 := V → V → Hp → VK → Prop
def OpR (X : Cx) (f : Value → Value → Sem Value) (r : R2) : Prop :=
  ∀ (pins : List (Addr × Obj)) (s : Shared) (σ : St) (H : Hp) (x y : V) (v u : Value) (Q : VK), Inv X pins σ H s → RelV x v → RelV y u → r x y H Q →
    wpAny (model X.prog X.w) X.A (f v u) (EP X pins σ Q) X.xe s
def CallR (X : Cx) (f : Value) (r : List V → Hp → VK → Prop) : Prop :=
  ∀ (pins : List (Addr × Obj)) (s : Shared) (σ : St) (H : Hp) (xs : List V) (us : List Value) (Q : VK), Inv X pins σ H s → Vals xs us → r xs H Q →
    wpAny (model X.prog X.w) X.A (call f us) (EP X pins σ Q) X.xe s
def tOp (r : R2) (ta tb : TE) : TE := fun σ H Q => ta σ H fun x H1 => tb σ H1 fun y H2 => r x y H2 Q
def rI (C : Int → Int → Prop) (g : Int → Int → V) : R2 := fun x y H Q => ∃ i j, x = .int i ∧ y = .int j ∧ C i j ∧ Q (g i j) H
def rI0 (g : Int → Int → V) : R2 := fun x y H Q => ∃ i j, x = .int i ∧ y = .int j ∧ Q (g i j) H
section
variable {X : Cx} {a b c : Expr} {ta tb tc : TE} {pos : Pos}
theorem binT (ha : PE X a ta) (hb : PE X b tb) {pins : List (Addr × Obj)} {s : Shared} {σ : St} {H : Hp} {R : V → V → Hp → Prop} (I : Inv X pins σ H s)
    (h : ta σ H fun x H1 => tb σ H1 fun y H2 => R x y H2) {Q : Value → Shared → Prop} {f : Value → Value → Sem Value}
    (hf : ∀ v u s2 x y H2, Inv X pins σ H2 s2 → RelV x v → RelV y u → R x y H2 → wpAny (model X.prog X.w) X.A (f v u) Q X.xe s2) :
    wpAny (model X.prog X.w) X.A (eval a X.env) (fun v s₁ => wpAny (model X.prog X.w) X.A (eval b X.env) (fun u s₂ => wpAny (model X.prog X.w) X.A (f v u) Q X.xe s₂) X.xe s₁) X.xe s := by
  refine thn (ha pins s σ H _ I h) fun v s1 ⟨x, H1, I1, r1, q1⟩ => ?_
  refine thn (hb pins s1 σ H1 _ I1 q1) fun u s2 ⟨y, H2, I2, r2, q2⟩ => ?_
  exact hf v u s2 x y H2 I2 r1 r2 q2
theorem pe_op {op : Operator} {r : R2} (ho : OpR X (binaryOp op) r) (ha : PE X a ta) (hb : PE X b tb) : PE X (.BinOp a op b pos) (tOp r ta tb) := by
  intro pins s σ H Q I h
  exact wpAny_BinOp (binT ha hb I h fun v u s2 x y H2 I2 rx ry q => ho pins s2 σ H2 x y v u Q I2 rx ry q)
theorem opI {f : Value → Value → Sem Value} {C : Int → Int → Prop} {g : Int → Int → Int}
    (rule : ∀ (i j : Int) (t u : Tok) (s : Shared) (Q : Value → Shared → Prop) (E : Value → Shared → Prop), C i j → Q (.int (g i j) s.toks) { s with toks := s.toks + 1 } → wpAny (model X.prog X.w) X.A (f (.int i t) (.int j u)) Q E s) :
    OpR X f (rI C fun i j => .int (g i j)) := by
  intro pins s σ H x y v u Q I rx ry h
  obtain ⟨i, j, rfl, rfl, hc, q⟩ := h
  obtain ⟨t, rfl⟩ := rx
  obtain ⟨t', rfl⟩ := ry
  exact rule i j t t' s _ _ hc ⟨.int (g i j), H, I.tok _, ⟨_, rfl⟩, q⟩
theorem opI0 {f : Value → Value → Sem Value} {g : Int → Int → Int}
    (rule : ∀ (i j : Int) (t u : Tok) (s : Shared) (Q : Value → Shared → Prop) (E : Value → Shared → Prop), Q (.int (g i j) s.toks) { s with toks := s.toks + 1 } → wpAny (model X.prog X.w) X.A (f (.int i t) (.int j u)) Q E s) :
    OpR X f (rI0 fun i j => .int (g i j)) := by
  intro pins s σ H x y v u Q I rx ry h
  obtain ⟨i, j, rfl, rfl, q⟩ := h
  obtain ⟨t, rfl⟩ := rx
  obtain ⟨t', rfl⟩ := ry
  exact rule i j t t' s _ _ ⟨.int (g i j), H, I.tok _, ⟨_, rfl⟩, q⟩
theorem opB0 {f : Value → Value → Sem Value} {g : Int → Int → Bool}
    (rule : ∀ (i j : Int) (t u : Tok) (s : Shared) (Q : Value → Shared → Prop) (E : Value → Shared → Prop), Q (.bool (g i j)) s → wpAny (model X.prog X.w) X.A (f (.int i t) (.int j u)) Q E s) :
    OpR X f (rI0 fun i j => .bl (g i j)) := by
  intro pins s σ H x y v u Q I rx ry h
  obtain ⟨i, j, rfl, rfl, q⟩ := h
  obtain ⟨t, rfl⟩ := rx
  obtain ⟨t', rfl⟩ := ry
  exact rule i j t t' s _ _ ⟨.bl (g i j), H, I, rfl, q⟩
def CPow (i j : Int) : Prop := 0 ≤ j ∧ j ≤ 1000000 ∧ i.natAbs < 2 ^ 64
theorem op_add : OpR X (binaryOp .Add) (rI0 fun i j => .int (i + j)) := opI0 fun _ _ _ _ _ _ _ q => add_int q
theorem op_modN : OpR X (binaryOp .Mod) (rI (fun _ j => j ≠ 0) fun i j => .int (i.fmod j)) := opI fun _ _ _ _ _ _ _ hc q => mod_int' hc q
theorem op_pow : OpR X (binaryOp .Pow) (rI CPow fun i j => .int (i ^ j.toNat)) := opI fun _ _ _ _ _ _ _ hc q => pow_int_small hc.1 hc.2.1 hc.2.2 q
end
section
variable {X : Cx} {a b c : Expr} {ta tb tc : TE} {pos : Pos}
theorem fin_bl {pins : List (Addr × Obj)} {σ : St} {H : Hp} {s : Shared} {Q : VK} {k k' : Bool} (I : Inv X pins σ H s) (q : Q (.bl k) H) (e : k = k') : EP X pins σ Q (.bool k') s := by
  subst e
  exact ⟨.bl k, H, I, rfl, q⟩
theorem op_lt : OpR X (compareOp .Lt) (rI0 fun i j => .bl (decide (i < j))) := opB0 fun _ _ _ _ _ _ _ q => lt_int q
theorem op_gt : OpR X (compareOp .Gt) (rI0 fun i j => .bl (decide (j < i))) := opB0 fun _ _ _ _ _ _ _ q => gt_int q
theorem op_ge : OpR X (compareOp .GtE) (rI0 fun i j => .bl (decide (j ≤ i))) := opB0 fun _ _ _ _ _ _ _ q => ge_int q
theorem op_in_str : OpR X (compareOp .In) (fun x y H Q => ∃ i j, x = .str i ∧ y = .str j ∧ Q (.bl (!(Builtin.Str.occurrences j i 0 j.length 1).isEmpty)) H) := by
  intro pins s σ H x y v u Q I rx ry h
  obtain ⟨i, j, rfl, rfl, q⟩ := h
  obtain ⟨t, rfl⟩ := rx
  obtain ⟨t', rfl⟩ := ry
  exact in_str (fin_bl I q rfl)
theorem OpR.or {f : Value → Value → Sem Value} {r r' : R2} (h : OpR X f r) (h' : OpR X f r') : OpR X f (fun x y H Q => r x y H Q ∨ r' x y H Q) := by
  intro pins s σ H x y v u Q I rx ry q
  rcases q with q | q
  · exact h pins s σ H x y v u Q I rx ry q
  · exact h' pins s σ H x y v u Q I rx ry q
theorem pe_cmpR {op : CmpOp} {r : R2} (ho : OpR X (compareOp op) r) (ha : PE X a ta) (hb : PE X b tb) (hm : behindInMarks op b = false) : PE X (.Compare a [op] [b] pos) (tOp r ta tb) := by
  intro pins s σ H Q I h
  exact wpAny_Compare1 (binT ha hb I h fun v u s2 x y H2 I2 rx ry q => ho pins s2 σ H2 x y v u Q I2 rx ry q) hm
def tTest (t : TE) : TT := fun σ H Q => t σ H fun x H' => ∃ k, x = .bl k ∧ Q k H'
theorem pt_cmpR {op : CmpOp} {r : R2} (ho : OpR X (compareOp op) r) (ha : PE X a ta) (hb : PE X b tb) (hm : behindInMarks op b = false) : PT X (.Compare a [op] [b] pos) (tTest (tOp r ta tb)) := by
  intro pins s σ H Q I h
  refine wpAny_isTrue_Compare1 (thn (ha pins s σ H _ I h) fun v s1 ⟨x, H1, I1, r1, q1⟩ => thn (hb pins s1 σ H1 _ I1 q1) fun u s2 ⟨y, H2, I2, r2, q2⟩ =>
    thn (ho pins s2 σ H2 x y v u _ I2 r1 r2 q2) fun c s3 ⟨z, H3, I3, r3, k, e, q3⟩ => ?_) hm
  subst e
  cases r3
  exact wpAny_truthy_bool ⟨H3, I3, q3⟩
theorem line63 : (sizeLine : Nat) < 2 ^ 63 := by rw [sizeLine_eq]; decide
theorem op_add_str : OpR X (binaryOp .Add) (fun x y H Q => ∃ i j, x = .str i ∧ y = .str j ∧ i.length + j.length ≤ sizeLine ∧ Q (.str (i ++ j)) H) := by
  intro pins s σ H x y v u Q I rx ry h
  obtain ⟨i, j, rfl, rfl, hz, q⟩ := h
  obtain ⟨t, rfl⟩ := rx
  obtain ⟨t', rfl⟩ := ry
  exact add_str (fun t' tk => ⟨.str (i ++ j), H, I.tok _, ⟨_, rfl⟩, q⟩) hz
def PlainIxT (b : Expr) : Prop := ∀ o i, subscripted b false o i = operate [o, i] (getItem o i)
theorem pe_item_str (ha : PE X a ta) (hb : PE X b tb) (hs : PlainIxT b) :
    PE X (.Subscript a b pos) (tOp (fun x y H Q => ∃ z i c, x = .str z ∧ y = .int i ∧ 0 ≤ i ∧ i < 2 ^ 63 ∧ i < z.length ∧ z.cps[i.toNat]? = some c ∧ Q (.str ⟨#[c]⟩) H) ta tb) := by
  intro pins s σ H Q I h
  refine Subscript_ (binT ha hb I h fun v u s2 x y H2 I2 rx ry q => ?_)
  obtain ⟨z, i, c, rfl, rfl, h0, h63, h1, hc, q⟩ := q
  obtain ⟨t, rfl⟩ := rx
  obtain ⟨t', rfl⟩ := ry
  have e : seqIndex? i z.length = some i.toNat := PySem.StrLaws.seqIndex_nonneg h0 h1
  exact tail_any (typeIs_str s2 z t) slot_str_getitem.lookup (getItem_str (c := c) (by
    have e1 : decide (i < -(2 ^ 63 : Int)) = false := decide_eq_false (by omega)
    have e2 : decide (i ≥ 2 ^ 63) = false := decide_eq_false (by omega)
    rw [e1, e2] <;> rfl) (by rw [e]; exact hc) ⟨.str ⟨#[c]⟩, H2, I2.tok _, ⟨_, rfl⟩, q⟩) (hs _ _)
theorem vals1 {x : V} {us : List Value} (r : Vals [x] us) : ∃ u, us = [u] ∧ RelV x u := by
  cases r with
  | cons r1 r2 => cases r2; exact ⟨_, rfl, r1⟩
theorem vals2 {x y : V} {us : List Value} (r : Vals [x, y] us) : ∃ u w', us = [u, w'] ∧ RelV x u ∧ RelV y w' := by
  cases r with
  | cons r1 r2 =>
    cases r2 with
    | cons r3 r4 => cases r4; exact ⟨_, _, rfl, r1, r3⟩
theorem call_abs : CallR X (.builtin "abs") (fun xs H Q => ∃ i, xs = [.int i] ∧ Q (.int (if i < 0 then -i else i)) H) := by
  intro pins s σ H xs us Q I r h
  obtain ⟨i, rfl, q⟩ := h
  obtain ⟨u, rfl, t, rfl⟩ := vals1 r
  exact call_abs_int fun u tk => ⟨.int (if i < 0 then -i else i), H, I.tok _, ⟨_, rfl⟩, q⟩
theorem call_int1 : CallR X (.type "int") (fun xs H Q => (∃ i, xs = [.int i] ∧ Q (.int i) H) ∨ ∃ k, xs = [.bl k] ∧ Q (.int (if k then 1 else 0)) H) := by
  intro pins s σ H xs us Q I r h
  rcases h with ⟨i, rfl, q⟩ | ⟨k, rfl, q⟩
  · obtain ⟨u, rfl, t, rfl⟩ := vals1 r
    exact call_int_int ⟨.int i, H, I, ⟨_, rfl⟩, q⟩
  · obtain ⟨u, rfl, r1⟩ := vals1 r
    cases r1
    exact call_int_bool ⟨.int (if k then 1 else 0), H, I.tok _, ⟨_, rfl⟩, q⟩
theorem call_str_int : CallR X (.type "str") (fun xs H Q => ∃ i, xs = [.int i] ∧ i.natAbs.log2 < 1920 ∧ Q (.str (toString i)) H) := by
  intro pins s σ H xs us Q I r h
  obtain ⟨i, rfl, hz, q⟩ := h
  obtain ⟨u, rfl, t, rfl⟩ := vals1 r
  exact PySem.P.str_of_int hz ⟨.str _, H, I.tok _, ⟨_, rfl⟩, q⟩
end
end L2
namespace L2
open PySem PySem.Spec PyProof.Rows
structure Room (k : Nat) (A : Around) : Prop where
  hd : A.handled = none
  dp : A.depth + 3 * k + 5 < recursionLimit
  un : A.units + 16 * k + 200 < cLine
theorem Room.mono {j k : Nat} {A : Around} (r : Room k A) (h : j ≤ k) : Room j A := ⟨r.hd, by have := r.dp; omega, by have := r.un; omega⟩
theorem Room.deeper {k : Nat} {A : Around} (r : Room (k + 1) A) (env : Env) : Room k (A.deeper env) :=
  ⟨r.hd, by have := r.dp; show A.depth + 1 + 3 * k + 5 < _; omega, by have := r.un; show A.units + 3 + 16 * k + 200 < _; omega⟩
theorem Room.depth {k : Nat} {A : Around} (r : Room k A) : A.depth < recursionLimit := by have := r.dp; omega
def tNil : TA := fun _ H Q => Q [] H
def tCons (ta : TE) (tr : TA) : TA := fun σ H Q => ta σ H fun x H1 => tr σ H1 fun xs H2 => Q (x :: xs) H2
section
variable {X : Cx} {e : Expr} {es : List Expr} {te : TE} {t : TA} {pos : Pos}
theorem pa_nil : PA X [] tNil := fun _ _ _ _ H Q I h => Calls.spliced_nil ⟨[], H, I, .nil, h⟩
theorem pa_cons (ha : PE X e te) (hr : PA X es t) (hs : starEach (e :: es) X.env = (false, eval e X.env) :: starEach es X.env := by rfl) : PA X (e :: es) (tCons te t) := by
  intro pos pins s σ H Q I h
  rw [hs]
  show wpAny _ _ (spliced ((false, eval e X.env) :: backTo pos (starEach es X.env))) _ _ s
  refine Calls.spliced_cons (thn (ha pins s σ H _ I h) fun u s1 ⟨x, H1, I1, r1, q1⟩ => ?_)
  exact thn (hr pos pins s1 σ H1 _ I1 q1) fun us s2 ⟨xs, H2, I2, r2, q2⟩ => ⟨x :: xs, H2, I2, .cons r1 r2, q2⟩
def tTup (t : TA) : TE := fun σ H Q => t σ H fun xs H1 => xs.length ≤ sizeLine ∧ ∀ p, H1 p = none → Q (.ref p) (upd H1 p (.tup xs))
def tLst (t : TA) : TE := fun σ H Q => t σ H fun xs H1 => xs.length ≤ sizeLine ∧ ∀ p, H1 p = none → Q (.ref p) (upd H1 p (.lst xs))
theorem pe_tup {x1} (h : PA X es t) : PE X (.Tuple es x1 pos) (tTup t) := by
  intro pins s σ H Q I hq
  refine wpAny_Tuple_spliced (thn (h pos pins s σ H _ I hq) fun us s1 ⟨xs, H1, I1, r, z, q⟩ => ⟨by rw [← r.length]; exact z, ?_⟩)
  have hf : H1 s1.heap.objs.size = none := I1.hok.fresh (Nat.le_refl _)
  refine ⟨.ref s1.heap.objs.size, upd H1 s1.heap.objs.size (.tup xs), I1.laid (t' := s1.toks) (fun b u e => Heap.get?_push_of_some _ e) (Nat.le_refl _) ?_, rfl, q _ hf⟩
  exact ⟨z, us, r, ⟨_, Heap.get?_push_size _ rfl, rfl, _, rfl⟩⟩
theorem pe_lst (h : PA X es t) : PE X (.List es pos) (tLst t) := by
  intro pins s σ H Q I hq
  refine wpAny_List_spliced (thn (h pos pins s σ H _ I hq) fun us s1 ⟨xs, H1, I1, r, z, q⟩ => ⟨by rw [← r.length]; exact z, ?_⟩)
  have hf : H1 s1.heap.objs.size = none := I1.hok.fresh (Nat.le_refl _)
  refine ⟨.ref s1.heap.objs.size, upd H1 s1.heap.objs.size (.lst xs), I1.laid (t' := s1.toks) (fun b u e => Heap.get?_push_of_some _ e) (Nat.le_refl _) ?_, rfl, q _ hf⟩
  exact ⟨z, us, 0, r, Heap.get?_push_size _ rfl⟩
end
abbrev Sp := List V → Hp → VK → XK → Prop
abbrev CXT := List Env → Hp → Shared → XK → Value → Shared → Prop
structure Env0 (P : Program) (w : World) (K : PySem.W.Frag) (mg : Str → Option Value) (base : Heap) (A : Around) (outer : List Env) (s : Shared) (H : Hp) : Prop where
  frames : A.frames = some outer
  mod : Mod K mg base
  bs : ∀ b o, base.get? b = some o → s.heap.get? b = some o ∧ H b = none
  bsz : base.objs.size ≤ s.heap.objs.size
  funs : s.heap.FunFrames base outer
  frf : ∀ b ∈ frs outer, H b = none
  hok : HOk P w H s.heap
  bare : AllBare s.gens
def CE (outer : List Env) (P : Program) (w : World) (H : Hp) (s : Shared) (Q : VK) (u : Value) (s' : Shared) : Prop :=
  ∃ v H', s'.os = s.os ∧ AllBare s'.gens ∧ Un (frs outer) [] H H' s.heap s'.heap ∧ HOk P w H' s'.heap ∧ RelV v u ∧ Q v H'
def CR (CX : CXT) (outer : List Env) (P : Program) (w : World) (H : Hp) (s : Shared) (Q : VK) (E : XK) (r : Result) (s' : Shared) : Prop :=
  match r with
  | .ok (.ret u) => CE outer P w H s Q u s'
  | .ok _ => False
  | .error e => CX outer H s E e s'
structure FnOk (P : Program) (w : World) (K : PySem.W.Frag) (mg : Str → Option Value) (base : Heap) (CX : CXT) (k : Nat) (f : Addr) (fd : FuncData) (ps : List Str) (sp : Sp) : Prop where
  len : ∀ vs H Q E, sp vs H Q E → vs.length = ps.length
  run : ∀ (A : Around) (outer : List Env) (s : Shared) (H : Hp) (args : Args) (us : List Value) (vs : List V) (Q : VK) (E : XK), Room k A → Env0 P w K mg base A outer s H → BindsTo s fd args (ps.zip us) → Vals vs us → sp vs H Q E →
    codeAny (model P w) A (.call (.ref f) args) (CR CX outer P w H s Q E) s
theorem FnOk.mono {P : Program} {w : World} {K : PySem.W.Frag} {mg : Str → Option Value} {base : Heap} {CX : CXT} {j k : Nat} {f : Addr} {fd : FuncData} {ps : List Str} {sp : Sp} (F : FnOk P w K mg base CX j f fd ps sp) (h : j ≤ k) :
    FnOk P w K mg base CX k f fd ps sp := ⟨F.len, fun A outer s H args us vs Q E hr => F.run A outer s H args us vs Q E (hr.mono h)⟩
theorem FnOk.imp {P : Program} {w : World} {K : PySem.W.Frag} {mg : Str → Option Value} {base : Heap} {CX : CXT} {k : Nat} {f : Addr} {fd : FuncData} {ps : List Str} {sp sp' : Sp} (F : FnOk P w K mg base CX k f fd ps sp)
    (h : ∀ vs H Q E, sp' vs H Q E → sp vs H Q E) : FnOk P w K mg base CX k f fd ps sp' :=
  ⟨fun vs H Q E q => F.len vs H Q E (h _ _ _ _ q), fun A outer s H args us vs Q E hr he hb hv hs => F.run A outer s H args us vs Q E hr he hb hv (h _ _ _ _ hs)⟩
section
variable {X : Cx} {pins : List (Addr × Obj)} {σ : St} {H : Hp} {s s' : Shared}
theorem Inv.env0 (I : Inv X pins σ H s) : Env0 X.prog X.w X.K X.mg X.base X.A X.stack s H :=
  ⟨I.ok.frames, I.ok.mod, I.bs, Nat.le_trans I.ok.bsz I.sz, I.stack, I.stkFree, I.hok, I.bare⟩
theorem Inv.after {Q : VK} {u : Value} (I : Inv X pins σ H s) (h : CE X.stack X.prog X.w H s Q u s') : EP X pins σ Q u s' := by
  obtain ⟨v, H', os, bare, un, hok, r, q⟩ := h
  obtain ⟨hh, g, d, t, os'⟩ := s'
  obtain rfl : os' = s.os := os
  exact ⟨v, H', I.call (h' := hh) (g' := g) (d' := d) (t' := t) (ch := []) un hok bare (fun b z => absurd z (by simp)), r, q⟩
end
def tCall (sp : Sp) (dvs : List V) (E : XK) (t : TA) : TE := fun σ H Q => t σ H fun vs H1 => sp (vs ++ dvs) H1 Q E
def Binds (K : PySem.W.Frag) (fd : FuncData) (ps : List Str) (ds : List Value) : Prop :=
  ∀ (s : Shared) (us : List Value), K.In s.heap → (us ++ ds).length = ps.length → BindsTo s fd ⟨us, []⟩ (ps.zip (us ++ ds))
theorem Binds.all {K : PySem.W.Frag} {fd : FuncData} {ps : List Str} (h : ∀ us : List Value, us.length = ps.length → bindArgs fd ⟨us, []⟩ = pure (ps.zip us)) : Binds K fd ps [] := fun s us _ hl => by
  rw [List.append_nil] at hl ⊢
  exact .of_eq (h us hl)
def Passes (CX : CXT) (X : Cx) (E : XK) : Prop := ∀ (pins : List (Addr × Obj)) (σ : St) (H : Hp) (s : Shared) (e : Value) (s' : Shared), Inv X pins σ H s → CX X.stack H s E e s' → X.xe e s'
section
variable {X : Cx} {CX : CXT} {k : Nat} {f C : Addr} {fd : FuncData} {ps : List Str} {sp : Sp} {dvs : List V} {ds : List Value} {E : XK} {x m : Str} {p pos apos : Pos} {e o : Expr} {es : List Expr} {ta : TE} {t : TA}
theorem run_fn {pins : List (Addr × Obj)} {σ : St} {H : Hp} {s : Shared} {Q : VK} {us : List Value} {vs : List V} (F : FnOk X.prog X.w X.K X.mg X.base CX k f fd ps sp) (hr : Room k X.A) (hb : Binds X.K fd ps ds) (hd : Vals dvs ds) (hx : Passes CX X E)
    (I : Inv X pins σ H s) (r : Vals vs us) (h : sp (vs ++ dvs) H Q E) : wpAny (model X.prog X.w) X.A (call (.ref f) us) (EP X pins σ Q) X.xe s := by
  have r2 : Vals (vs ++ dvs) (us ++ ds) := r.append hd
  have hl : (us ++ ds).length = ps.length := by rw [← r2.length]; exact F.len _ _ _ _ h
  refine wpAny_call (codeAny_mono (F.run X.A X.stack s H ⟨us, []⟩ (us ++ ds) (vs ++ dvs) Q E hr I.env0 (hb s us I.kIn hl) r2 h) fun r s' hq => ?_)
  cases r with
  | error e => exact hx pins σ H s e s' I hq
  | ok fl =>
    cases fl with
    | ret u => exact I.after hq
    | next => exact False.elim hq
    | brk => exact False.elim hq
    | cont => exact False.elim hq
theorem pe_call (F : FnOk X.prog X.w X.K X.mg X.base CX k f fd ps sp) (hr : Room k X.A) (hg : Gl X x) (hm : X.mg x = some (.ref f)) (hk : PySem.W.keepIn X.K (.ref f) = true) (hb : Binds X.K fd ps ds) (hd : Vals dvs ds) (hx : Passes CX X E)
    (ha : PA X (e :: es) t) (hdb : (x == ("__debug__" : Str)) = false := by decide) (he : starEach (e :: es) X.env = (false, eval e X.env) :: starEach es X.env := by rfl) (hpl : (backTo pos (starEach es X.env)).any (·.1) = false := by rfl) :
    PE X (.Call (.Name x p) (e :: es) [] pos) (tCall sp dvs E t) := by
  intro pins s σ H Q I h
  refine wpAny_Call_Name_kw (ld_glob I hg hm ?_ hdb)
  refine PySem.W.callWith_K (h₀ := X.base) I.ok.mod.kin hk (thn (ha pos pins s σ H _ I h) fun us s1 ⟨vs, H1, I1, r, q⟩ => ⟨I1.kIn, ?_⟩) he hpl
  exact run_fn F hr hb hd hx I1 r q
end
structure FnScope (N P : List Str) (sc : Scope) : Prop where
  kind : sc.kind = .function
  co : sc.isCoroutine = false
  gen : sc.isGenerator = false
  nd : N.Nodup
  pre : N.take P.length = P
  par : ∀ x ∈ P, sc.names.lookup x = some .local ∨ sc.names.lookup x = some .cell
  nofree : ∀ y ∈ sc.names, y.2 ≠ .free
theorem bindL_out {kindOf : Str → Option NameKind} {x : Str} : ∀ {binds : List (Str × Value)} {m : Str → Option Value}, (∀ v, (x, v) ∉ binds) → bindL kindOf binds m x = m x
  | [], _, _ => rfl
  | (n, v) :: r, m, h => by
    unfold bindL
    rw [bindL_out fun w hw => h w (List.mem_cons_of_mem _ hw)]
    split
    · have : x ≠ n := by rintro rfl; exact h v List.mem_cons_self
      simp [this]
    · rfl
theorem bindC_out {kindOf : Str → Option NameKind} {x : Str} : ∀ {binds : List (Str × Value)} {m : Str → Option Value}, (∀ v, (x, v) ∉ binds) → bindC kindOf binds m x = m x
  | [], _, _ => rfl
  | (n, v) :: r, m, h => by
    unfold bindC
    rw [bindC_out fun w hw => h w (List.mem_cons_of_mem _ hw)]
    split
    · rfl
    · have : x ≠ n := by rintro rfl; exact h v List.mem_cons_self
      simp [this]
theorem bindL_get {kindOf : Str → Option NameKind} {x : Str} {v : Value} : ∀ {P : List Str} {vs : List Value} {i : Nat} {m : Str → Option Value}, P.Nodup → P[i]? = some x → vs[i]? = some v → kindOf x = some .local →
    bindL kindOf (P.zip vs) m x = some v
  | [], _, _, _, _, h, _, _ => by simp at h
  | _ :: _, [], _, _, _, _, h, _ => by simp at h
  | p :: P, w :: vs, 0, m, nd, h1, h2, hk => by
    simp at h1 h2; subst h1; subst h2
    show bindL kindOf ((p, w) :: P.zip vs) m p = _
    unfold bindL
    rw [bindL_out fun v hv => (List.nodup_cons.mp nd).1 (List.of_mem_zip hv).1, if_pos hk]
    simp
  | p :: P, w :: vs, i + 1, m, nd, h1, h2, hk => by
    show bindL kindOf ((p, w) :: P.zip vs) m x = _
    unfold bindL
    exact bindL_get (i := i) (List.nodup_cons.mp nd).2 (by simpa using h1) (by simpa using h2) hk
theorem bindC_get {kindOf : Str → Option NameKind} {x : Str} {v : Value} : ∀ {P : List Str} {vs : List Value} {i : Nat} {m : Str → Option Value}, P.Nodup → P[i]? = some x → vs[i]? = some v → kindOf x ≠ some .local →
    bindC kindOf (P.zip vs) m x = some v
  | [], _, _, _, _, h, _, _ => by simp at h
  | _ :: _, [], _, _, _, _, h, _ => by simp at h
  | p :: P, w :: vs, 0, m, nd, h1, h2, hk => by
    simp at h1 h2; subst h1; subst h2
    show bindC kindOf ((p, w) :: P.zip vs) m p = _
    unfold bindC
    rw [bindC_out fun v hv => (List.nodup_cons.mp nd).1 (List.of_mem_zip hv).1, if_neg hk]
    simp
  | p :: P, w :: vs, i + 1, m, nd, h1, h2, hk => by
    show bindC kindOf ((p, w) :: P.zip vs) m x = _
    unfold bindC
    exact bindC_get (i := i) (List.nodup_cons.mp nd).2 (by simpa using h1) (by simpa using h2) hk
def start (N : List Str) (vs : List V) : St := vs.map some ++ List.replicate (N.length - vs.length) none
def cxOf (CX : CXT) (P : Program) (w : World) (K : PySem.W.Frag) (mg : Str → Option Value) (base : Heap) (N : List Str) (qual : Str) (scope : Scope) (f : Addr) (cd : Value) (A : Around) (outer : List Env) (s : Shared) (H : Hp) (E : XK) : Cx where
  prog := P
  w := w
  K := K
  mg := mg
  base := base
  A := A.deeper (envOfC qual scope s.heap.objs.size f cd)
  N := N
  s₀ := s
  H₀ := H
  env := envOfC qual scope s.heap.objs.size f cd
  outer := outer
  stack := envOfC qual scope s.heap.objs.size f cd :: outer
  ex := []
  calm := true
  fn := fun _ => true
  pn := []
  xe := fun e s' => wpAny (model P w) (A.deeper (envOfC qual scope s.heap.objs.size f cd)) (leaving (envOfC qual scope s.heap.objs.size f cd) e) (fun _ s'' => CX outer H s E e s'') (fun e' s'' => CX outer H s E e' s'') s'
theorem cell_has {sc : Scope} {n : Nat} {x : Str} (h : sc.names.lookup x = some .cell) : ∃ c, (cellsFrom n sc.names []).lookup x = some c := by
  have q := PySem.W.cellsFrom_some sc.names n [] (.inl h)
  exact Option.isSome_iff_exists.mp q
theorem inv_start {CX : CXT} {P : Program} {w : World} {K : PySem.W.Frag} {mg : Str → Option Value} {base : Heap} {N ps : List Str} {qual : Str} {scope : Scope} {f : Addr} {cd : Value} {A : Around} {outer : List Env} {s s1 : Shared} {H : Hp} {E : XK} {us : List Value} {vs : List V}
    (S : FnScope N ps scope) (hd : A.handled = none) (e0 : Env0 P w K mg base A outer s H) (hl : vs.length = ps.length) (r : Vals vs us)
    (x : InCallC s s.heap.objs.size (bindL (envOfC qual scope s.heap.objs.size f cd).kindOf (ps.zip us) fun _ => none) (cellsFrom (s.heap.objs.size + 1) scope.names []) (bindC (envOfC qual scope s.heap.objs.size f cd).kindOf (ps.zip us) fun _ => none) s1) :
    Inv (cxOf CX P w K mg base N qual scope f cd A outer s H E) [] (start N vs) H s1 := by
  have hpl : ps.length ≤ N.length := by have := congrArg List.length S.pre; rw [List.length_take] at this; omega
  obtain ⟨h1, tk, rfl, hk⟩ := x.done
  have noA : ∀ b : Addr, b ∉ (cxOf CX P w K mg base N qual scope f cd A outer s H E).ex := fun b z => absurd (show b ∈ ([] : List Addr) from z) (by simp)
  refine ⟨⟨e0.mod, S.kind, rfl, rfl, Nat.le_refl _, fun y z c h1 h2 => ?_, fun y hy => ?_, fun y c _ h => ?_, fun _ => hd, Around.frames_deeper e0.frames, .inr ⟨rfl, rfl⟩, fun b z => absurd z (noA b), e0.bs, e0.bsz, fun b _ _ => noA b, fun b z => absurd z (noA b), e0.funs, e0.frf⟩,
    rfl, e0.bare, Un.kept hk, ⟨_, x.toInCall.ns, fun i y v h1 h2 h3 => ?_⟩, fun y c h => ⟨_, x.cell y c h⟩, e0.hok.fresh (Nat.le_refl _), fun y c h => ?_, fun p hp => absurd (show p ∈ ([] : List (Addr × Obj)) from hp) (by simp), e0.hok.kept hk, ?_⟩
  · exact name_of_addr x.apart (PySem.mem_of_lookup h1) (PySem.mem_of_lookup h2)
  · have hy : scope.names.lookup y = some .cell ∨ scope.names.lookup y = some .free := hy
    rcases hy with hy | hy
    · exact cell_has hy
    · exact absurd rfl (S.nofree _ (PySem.mem_of_lookup hy))
  · exact Nat.le_of_lt (x.above y c (PySem.mem_of_lookup h))
  · have hi : i < vs.length := by
      unfold start at h2
      by_cases hi : i < vs.length
      · exact hi
      · rw [List.getElem?_append_right (by simpa using hi)] at h2
        rw [List.getElem?_replicate] at h2
        split at h2 <;> cases h2
    have ha : vs[i]? = some v := by
      unfold start at h2
      rw [List.getElem?_append_left (by simpa using hi), List.getElem?_map] at h2
      cases e : vs[i]? with
      | none => rw [e] at h2; cases h2
      | some a => rw [e] at h2; cases h2; rfl
    obtain ⟨u, hu, rv⟩ := r.get ha
    have hp : ps[i]? = some y := by
      rw [← S.pre, List.getElem?_take_of_lt (by omega)]; exact h1
    have ndP : ps.Nodup := by rw [← S.pre]; exact S.nd.sublist (List.take_sublist _ _)
    refine ⟨u, rv, ?_⟩
    rcases S.par y (List.mem_of_getElem? hp) with k | k
    · exact .inl ⟨k, bindL_get ndP hp hu k⟩
    · obtain ⟨c, e⟩ := cell_has (n := s.heap.objs.size + 1) k
      refine .inr ⟨.inl k, c, e, ?_⟩
      have q := x.cell y c e
      rw [bindC_get ndP hp hu (by show scope.names.lookup y ≠ _; rw [k]; decide)] at q
      exact q
  · exact e0.hok.fresh (Nat.le_of_lt (x.above y c (PySem.mem_of_lookup h)))
  · unfold start
    show _ = N.length
    rw [List.length_append, List.length_map, List.length_replicate]
    omega
theorem fn_of {CX : CXT} {P : Program} {w : World} {K : PySem.W.Frag} {mg : Str → Option Value} {base : Heap} {k : Nat} {f : Addr} {name qual : Str} {params : Arguments} {body : List Stmt} {scope : Scope} {dV kV doc pm cdv ct oc : Value} {an od : Option Addr}
    {osl : Array (Option Value)} {N ps : List Str} {sp : Sp} (lk : K.lookup f = some ⟨oc, od, .func (PySem.W.fnOf name qual params body scope dV kV doc pm an cdv ct), osl⟩) (hcd : PySem.W.codeIn K cdv qual = true) (S : FnScope N ps scope)
    (len : ∀ vs H Q E, sp vs H Q E → vs.length = ps.length)
    (hbody : ∀ (A : Around) (outer : List Env) (s : Shared) (H : Hp) (vs : List V) (Q : VK) (E : XK), Room k (A.deeper (envOfC qual scope s.heap.objs.size f cdv)) → sp vs H Q E →
      ∃ t, PSs (cxOf CX P w K mg base N qual scope f cdv A outer s H E) body t ∧ t { nx := fun _ H' => Q .non H', rt := Q } (start N vs) H) :
    FnOk P w K mg base CX (k + 1) f (PySem.W.fnOf name qual params body scope dV kV doc pm an cdv ct) ps sp := by
  refine ⟨len, fun A outer s H args us vs Q E hr e0 hb r hsp => ?_⟩
  have hl := len _ _ _ _ hsp
  have KX : K.In s.heap := e0.mod.kin.keeps fun b o e => (e0.bs b o e).1
  have lim : s.heap.NoLimit := e0.mod.nolimit.keeps fun b o e => (e0.bs b o e).1
  have hkind : ∀ y ∈ ps.zip us, scope.names.lookup y.1 = some .local ∨ (scope.names.lookup y.1 = some .cell ∧ ((cellsFrom (s.heap.objs.size + 1) scope.names []).lookup y.1).isSome = true) := fun ⟨n, v⟩ hy => by
    rcases S.par n (List.of_mem_zip hy).1 with q | q
    · exact .inl q
    · exact .inr ⟨q, PySem.W.cellsFrom_some _ _ _ (.inl q)⟩
  refine codeAny_call_function hr.depth (KX _ _ lk) rfl S.co S.gen rfl (PySem.W.codeRec_of KX hcd) (hb _ _ _ _ ?_)
  refine wpAny_newFunctionEnv_cells S.kind hkind fun env he s1 x => ?_
  subst he
  refine ⟨lim.keeps x.toInCall.keep, codeAny_func ?_⟩
  obtain ⟨t, ht, hq⟩ := hbody A outer s H vs Q E (hr.deeper _) hsp
  have I : Inv (cxOf CX P w K mg base N qual scope f cdv A outer s H E) [] (start N vs) H s1 := inv_start S hr.hd e0 hl r x
  refine wpAny_mono (ht [] s1 (start N vs) H _ I hq) (fun fl s' hs => ?_) fun e s' hs => hs
  have fin : ∀ {σ' : St} {H' : Hp} {v : V} {u : Value}, Inv (cxOf CX P w K mg base N qual scope f cdv A outer s H E) [] σ' H' s' → RelV v u → Q v H' → CE outer P w H s Q u s' :=
    fun {σ' H' v u} J rv q => ⟨v, H', J.os, J.bare, J.base, J.hok, rv, q⟩
  cases fl with
  | ret u =>
    obtain ⟨v, σ', H', J, rv, q⟩ := hs
    exact fin J rv q
  | next =>
    obtain ⟨σ', H', J, q⟩ := hs
    exact fin (v := V.non) (u := Value.none) J rfl q
  | brk =>
    obtain ⟨_, _, _, q⟩ := hs
    exact False.elim q
  | cont =>
    obtain ⟨_, _, _, q⟩ := hs
    exact False.elim q
end L2
namespace L2
open PySem PySem.Spec PyProof.Rows
section
variable {X : Cx} {x : Str} {p pos : Pos} {e : Expr} {es : List Expr} {t : TA} {id T : String} {r : List V → Hp → VK → Prop}
def tCB (r : List V → Hp → VK → Prop) (t : TA) : TE := fun σ H Q => t σ H fun vs H1 => r vs H1 Q
theorem pe_callB (hc : CallR X (.builtin id) r) (hg : Gl X x) (hm : X.mg x = none) (hv : bootBuiltins x = some (.builtin id)) (ha : PA X (e :: es) t) (hn : x ≠ "__name__" := by decide) (hdb : (x == ("__debug__" : Str)) = false := by decide)
    (he : starEach (e :: es) X.env = (false, eval e X.env) :: starEach es X.env := by rfl) (hpl : (backTo pos (starEach es X.env)).any (·.1) = false := by rfl) : PE X (.Call (.Name x p) (e :: es) [] pos) (tCB r t) := by
  intro pins s σ H Q I h
  refine wpAny_Call_Name_kw (ld_blt I hg hm hv ?_ hn hdb)
  exact PyProof.Rows.callWith_builtin1 (thn (ha pos pins s σ H _ I h) fun us s1 ⟨vs, H1, I1, r1, q1⟩ => hc pins s1 σ H1 vs us Q I1 r1 q1) he hpl
theorem pe_callTy (hc : CallR X (.type T) r) (hg : Gl X x) (hm : X.mg x = none) (hv : bootBuiltins x = some (.type T)) (ha : PA X (e :: es) t) (hn : x ≠ "__name__" := by decide) (hdb : (x == ("__debug__" : Str)) = false := by decide)
    (he : starEach (e :: es) X.env = (false, eval e X.env) :: starEach es X.env := by rfl) (hpl : (backTo pos (starEach es X.env)).any (·.1) = false := by rfl) : PE X (.Call (.Name x p) (e :: es) [] pos) (tCB r t) := by
  intro pins s σ H Q I h
  refine wpAny_Call_Name_kw (ld_blt I hg hm hv ?_ hn hdb)
  exact PyProof.Rows.callWith_type1 (thn (ha pos pins s σ H _ I h) fun us s1 ⟨vs, H1, I1, r1, q1⟩ => hc pins s1 σ H1 vs us Q I1 r1 q1) he hpl
end
end L2
namespace HT
open PySem PyProof.Rows
section
variable {prog : Program} {w : World} {A : Around} {E : Value → Shared → Prop} {s : Shared}
theorem cat_tup {t b : Addr} {vs ws : List Value} {Q : Value → Shared → Prop} (ht : IsTup s.heap t vs.toArray) (hb : IsTup s.heap b ws.toArray) (hv : vs ≠ [])
    (h1 : ws = [] → Q (.ref t) s) (h2 : ws ≠ [] → Q (.ref s.heap.objs.size) { s with heap := s.heap.push { cls := .type "tuple", data := .seq (vs ++ ws).toArray } })
    (hsz : vs.length + ws.length ≤ sizeLine) : wpAny (model prog w) A (binaryOp .Add (.ref t) (.ref b)) Q E s := by
  obtain ⟨⟨cls, dd, data, sl⟩, ho, hc, n, hd⟩ := id ht
  obtain ⟨⟨cls2, dd2, data2, sl2⟩, ho2, hc2, n2, hd2⟩ := id hb
  simp only at hc hd hc2 hd2
  subst hc hd hc2 hd2
  have e : vs.toArray ++ ws.toArray = (vs ++ ws).toArray := by simp
  by_cases hw : ws = []
  · exact concat_meets ⟨_, ho, rfl⟩ ⟨_, ho2, rfl⟩ noFill_tuple_add seq_tuple_add PySem.F.slot_tuple_add PySem.F.entry_tuple_add (PySem.F.args_tuple_add_2 _ _)
      (tuple_addW1 t b vs.toArray ws.toArray n n2 dd dd2 sl sl2 (by simpa using hv) (by simp [hw])) ⟨ho, ho2, h1 hw⟩
  · refine concat_meets ⟨_, ho, rfl⟩ ⟨_, ho2, rfl⟩ noFill_tuple_add seq_tuple_add PySem.F.slot_tuple_add PySem.F.entry_tuple_add (PySem.F.args_tuple_add_2 _ _)
      (tuple_addW2 t b vs.toArray ws.toArray n n2 dd dd2 sl sl2 (by simpa using hv) (by simpa using hw) (by rw [List.size_toArray, List.size_toArray]; exact hsz)) ⟨ho, ho2, ?_⟩
    rw [e]
    exact h2 hw
def sIx (n d : Nat) : Option Int → Nat
  | none => d
  | some v => if v < 0 then (v + (n : Int)).toNat else min v.toNat n
theorem sIx_none (n d : Nat) : sIx n d none = d := rfl
theorem sIx_nat (n d k : Nat) : sIx n d (some (k : Int)) = min k n := by
  show (if (k : Int) < 0 then ((k : Int) + (n : Int)).toNat else min (k : Int).toNat n) = min k n
  rw [if_neg (by omega), Int.toNat_natCast]
theorem sIx_le (n d : Nat) (hd : d ≤ n) (o : Option Int) : sIx n d o ≤ n := by
  cases o with
  | none => exact hd
  | some v =>
    show (if v < 0 then (v + (n : Int)).toNat else min v.toNat n) ≤ n
    by_cases hv : v < 0
    · rw [if_pos hv]; omega
    · rw [if_neg hv]; exact Nat.min_le_right _ _
theorem clip_eq (v : Int) (n d : Nat) : (if v < 0 then max (v + (n : Int)) 0 else min v (n : Int)) = ((sIx n d (some v) : Nat) : Int) := by
  show (if v < 0 then max (v + (n : Int)) 0 else min v (n : Int)) = (((if v < 0 then (v + (n : Int)).toNat else min v.toNat n) : Nat) : Int)
  by_cases hv : v < 0
  · simp only [if_pos hv]; omega
  · simp only [if_neg hv]; omega
theorem adjust_gen (lo hi : Option Int) (n : Nat) : Builtin.Slice.sliceAdjust lo hi 1 (n : Int) = (((sIx n 0 lo : Nat) : Int), ((sIx n n hi : Nat) : Int)) := by
  have h1 : ¬ ((1 : Int) < 0) := by omega
  unfold Builtin.Slice.sliceAdjust
  simp only [h1, if_false]
  refine Prod.ext ?_ ?_
  · cases lo with
    | none => rfl
    | some v => exact clip_eq v n 0
  · cases hi with
    | none => rfl
    | some v => exact clip_eq v n n
theorem places_gen (i j : Nat) : Builtin.Slice.slicePlaces (i : Int) (j : Int) 1 = j - i := by
  unfold Builtin.Slice.slicePlaces
  have h1 : (1 : Int) > 0 := by omega
  simp only [h1, if_true, Int.ediv_one]
  split <;> omega
theorem slicePart_ {v : Value} {o : Option Int} {Q : Option Int → Shared → Prop} (p : IsPart v o) (h : Q o s) : wpAny (model prog w) A (Builtin.Slice.slicePartIndex v) Q E s := by
  cases p with
  | none => exact slicePart_none h
  | int i t => exact slicePart_int h
theorem sliceApplied_gen {sl : Addr} {vl vu : Value} {lo hi : Option Int} {n : Nat} {Q : Int × Int × Nat → Shared → Prop} (hs : s.heap.IsSliceOf sl vl vu .none) (pl : IsPart vl lo) (pu : IsPart vu hi)
    (h : Q (((sIx n 0 lo : Nat) : Int), 1, sIx n n hi - sIx n 0 lo) s) : wpAny (model prog w) A (Builtin.Slice.sliceApplied (.ref sl) (pure (n : Int))) Q E s := by
  obtain ⟨os, hos, hcs, hds⟩ := id hs
  unfold Builtin.Slice.sliceApplied Builtin.Slice.sliceFields
  refine wpAny_bind (wpAny_bind (wpAny_field hos hds (x := vl) rfl (wpAny_bind (wpAny_field hos hds (x := vu) rfl (wpAny_bind (wpAny_field hos hds (x := .none) rfl (wpAny_pure ?_)))))))
  refine wpAny_bind (slicePart_none ?_)
  show wpAny _ _ (if ((1 : Int) == 0) = true then _ else _) _ _ s
  rw [if_neg (by decide)]
  refine wpAny_bind (slicePart_ pl (wpAny_bind (slicePart_ pu (wpAny_bind (wpAny_pure ?_)))))
  show wpAny _ _ (match Builtin.Slice.sliceAdjust lo hi 1 (n : Int) with | (lo, hi) => pure (lo, (1 : Int), Builtin.Slice.slicePlaces lo hi 1)) _ _ s
  rw [adjust_gen lo hi n]
  show wpAny _ _ (pure (((sIx n 0 lo : Nat) : Int), (1 : Int), Builtin.Slice.slicePlaces ((sIx n 0 lo : Nat) : Int) ((sIx n n hi : Nat) : Int) 1)) _ _ s
  rw [places_gen]
  exact wpAny_pure h
theorem pick_gen (xs : Array Value) (i k : Nat) : ((List.range k).filterMap fun (m : Nat) => xs[((i : Int) + (m : Int) * 1).toNat]?).toArray = ((xs.toList.drop i).take k).toArray := by
  have e : (fun (m : Nat) => xs[((i : Int) + (m : Int) * 1).toNat]?) = fun m => xs[i + m]? := by
    funext m
    have : ((i : Int) + (m : Int) * 1).toNat = i + m := by omega
    rw [this]
  rw [e]
  have := pick_run xs i k
  rw [List.filterMap_map] at this
  have e2 : ((fun x => xs[x]?) ∘ fun x => i + x) = fun m => xs[i + m]? := rfl
  rw [e2] at this
  rw [this]
theorem getItem_tuple_cut {t sl : Addr} {items : Array Value} {vl vu : Value} {lo hi : Option Int} {Q : Value → Shared → Prop} (ht : IsTup s.heap t items) (hs : s.heap.IsSliceOf sl vl vu .none) (pl : IsPart vl lo) (pu : IsPart vu hi)
    (hw : ¬ (sIx items.size 0 lo = 0 ∧ sIx items.size items.size hi = items.size))
    (h : Q (.ref s.heap.objs.size) { s with heap := s.heap.push { cls := .type "tuple", data := .seq ((items.toList.drop (sIx items.size 0 lo)).take (sIx items.size items.size hi - sIx items.size 0 lo)).toArray } })
    (hsz : items.size ≤ sizeLine) : wpAny (model prog w) A (getItem (.ref t) (.ref sl)) Q E s := by
  have htake : sizeOk (.seq ((items.toList.drop (sIx items.size 0 lo)).take (sIx items.size items.size hi - sIx items.size 0 lo)).toArray) := by
    show ((items.toList.drop (sIx items.size 0 lo)).take (sIx items.size items.size hi - sIx items.size 0 lo)).toArray.size ≤ sizeLine
    rw [List.size_toArray, List.length_take, List.length_drop, Array.length_toList]
    omega
  have hj : sIx items.size items.size hi ≤ items.size := sIx_le _ _ (Nat.le_refl _) hi
  obtain ⟨os, hos, hcs, hds⟩ := id hs
  have hTs : s.TypeIs (.ref sl) "slice" := ⟨os, hos, hcs⟩
  unfold getItem
  try with_reducible refine wpAny_holding ?_
  first | refine wpAny_bind (wpAny_pure ?_) | skip
  refine wpAny_bind (wpAny_sequenceKey ht.typeIs (by decide) ?_)
  refine wpAny_bind (wpAny_callSpecial?_slot (name := Str.ofString "__getitem__") ht.typeIs PyProof.Rows.slot_tuple_getitem
    (wpAny_call_entry PyProof.Rows.slot_tuple_getitem ht.typeIs entry_tuple_getitem ?_ (args_tuple_getitem _ _)))
  show wpAny _ _ (Builtin.Tuple.tupleItemsOf (.ref t) >>= _) _ _ s
  refine wpAny_bind (tupleItemsOf_ ht ?_)
  refine wpAny_bind (wpAny_typeOf hTs ?_)
  rw [if_pos (by decide)]
  refine wpAny_bind (sliceApplied_gen hs pl pu ?_)
  have hno : ¬ ((((sIx items.size 0 lo : Nat) : Int) == 0 && (1 : Int) == 1 && (sIx items.size items.size hi - sIx items.size 0 lo) == items.size) = true) := by
    intro q
    rw [Bool.and_eq_true, Bool.and_eq_true] at q
    have q1 : ((sIx items.size 0 lo : Nat) : Int) = 0 := eq_of_beq q.1.1
    have q2 : sIx items.size items.size hi - sIx items.size 0 lo = items.size := eq_of_beq q.2
    exact hw ⟨by omega, by omega⟩
  show wpAny _ _ (if (((sIx items.size 0 lo : Nat) : Int) == 0 && (1 : Int) == 1 && (sIx items.size items.size hi - sIx items.size 0 lo) == items.size) = true then _ else _) _ _ s
  rw [if_neg hno, pick_gen]
  first
    | exact wpAny_bind (m := Builtin.Tuple.tupleExact _) (wpAny_newObj_type (wpAny_pure ⟨_, rfl, wpAny_pure h⟩) htake)
    | exact wpAny_bind (m := Builtin.Tuple.tupleExact _) (wpAny_newObj_type (wpAny_bind (wpAny_pure (wpAny_pure ⟨_, rfl, wpAny_pure h⟩))) htake)
    | exact wpAny_bind (wpAny_bind (m := Builtin.Tuple.tupleExact _) (wpAny_newObj_type (wpAny_pure (wpAny_pure ⟨_, rfl, wpAny_pure h⟩)) htake))
    | exact wpAny_bind (wpAny_bind (m := Builtin.Tuple.tupleExact _) (wpAny_newObj_type (wpAny_pure ⟨_, rfl, wpAny_pure h⟩) htake))
end
end HT
namespace L2
open PySem PySem.Spec PyProof.Rows
abbrev TO := St → Hp → (Option Int → Hp → Prop) → Prop
def PO (X : Cx) (e : Option Expr) (t : TO) : Prop :=
  ∀ (pins : List (Addr × Obj)) (s : Shared) (σ : St) (H : Hp) (Q : Option Int → Hp → Prop), Inv X pins σ H s → t σ H Q →
    wpAny (model X.prog X.w) X.A (evalPart e X.env) (fun u s' => ∃ o H', Inv X pins σ H' s' ∧ IsPart u o ∧ Q o H') X.xe s
def tNoPart : TO := fun _ H Q => Q none H
def tPart (t : TE) : TO := fun σ H Q => t σ H fun x H1 => ∃ i, x = .int i ∧ Q (some i) H1
section
variable {X : Cx} {e : Expr} {te : TE} {lo hi : Option Expr} {tl th : TO} {pos p2 : Pos}
theorem po_none : PO X none tNoPart := by
  intro pins s σ H Q I h
  rw [evalPart_none]
  exact wpAny_pure ⟨none, H, I, .none, h⟩
theorem po_some (h : PE X e te) : PO X (some e) (tPart te) := by
  intro pins s σ H Q I hw
  rw [evalPart_some]
  refine thn (h pins s σ H _ I hw) fun u s1 ⟨x, H1, I1, r1, q1⟩ => ?_
  obtain ⟨i, rfl, q⟩ := q1
  obtain ⟨t, rfl⟩ := r1
  exact ⟨some i, H1, I1, .int i t, q⟩
def SlR (X : Cx) (r : V → Option Int → Option Int → Hp → VK → Prop) : Prop :=
  ∀ (pins : List (Addr × Obj)) (s : Shared) (σ : St) (H : Hp) (x : V) (v vl vu : Value) (lo hi : Option Int) (sl : Addr) (Q : VK), Inv X pins σ H s → RelV x v → s.heap.IsSliceOf sl vl vu .none → IsPart vl lo → IsPart vu hi → r x lo hi H Q →
    ∃ T id, typeLookup (.type T) "__getitem__" = pure (some (.builtin id)) ∧ s.TypeIs v T ∧ wpAny (model X.prog X.w) X.A (getItem v (.ref sl)) (EP X pins σ Q) X.xe s
theorem SlR.or {r r' : V → Option Int → Option Int → Hp → VK → Prop} (h : SlR X r) (h' : SlR X r') : SlR X (fun x lo hi H Q => r x lo hi H Q ∨ r' x lo hi H Q) := by
  intro pins s σ H x v vl vu lo hi sl Q I rx hs pl pu q
  rcases q with q | q
  · exact h pins s σ H x v vl vu lo hi sl Q I rx hs pl pu q
  · exact h' pins s σ H x v vl vu lo hi sl Q I rx hs pl pu q
def tSl (r : V → Option Int → Option Int → Hp → VK → Prop) (te : TE) (tl th : TO) : TE := fun σ H Q => te σ H fun x H1 => tl σ H1 fun l H2 => th σ H2 fun u H3 => r x l u H3 Q
theorem pe_slice {r : V → Option Int → Option Int → Hp → VK → Prop} (hr : SlR X r) (he : PE X e te) (hl : PO X lo tl) (hu : PO X hi th) : PE X (.Subscript e (.Slice lo hi none p2) pos) (tSl r te tl th) := by
  intro pins s σ H Q I h
  refine Subscript_ (thn (he pins s σ H _ I h) fun v s1 ⟨x, H1, I1, r1, q1⟩ => ?_)
  refine wpAny_Slice (thn (hl pins s1 σ H1 _ I1 q1) fun vl s2 ⟨l, H2, I2, pl, q2⟩ => thn (hu pins s2 σ H2 _ I2 q2) fun vu s3 ⟨u, H3, I3, pu, q3⟩ => ?_)
  rw [evalPart_none]
  refine wpAny_pure ?_
  have I4 : Inv X pins σ H3 { s3 with heap := s3.heap.push { cls := .type "slice", data := .fields #[vl, vu, .none] } } := I3.kept (t' := s3.toks) fun b ob q => Heap.get?_push_of_some _ q
  obtain ⟨T, id, hT, ht, hg⟩ := hr pins { s3 with heap := s3.heap.push { cls := .type "slice", data := .fields #[vl, vu, .none] } } σ H3 x v vl vu l u s3.heap.objs.size Q I4 r1 (Heap.IsSliceOf.new ..) pl pu q3
  show wpAny (model X.prog X.w) X.A (subscriptTail e (.Slice lo hi none p2) v (.ref s3.heap.objs.size)) (EP X pins σ Q) X.xe { s3 with heap := s3.heap.push { cls := .type "slice", data := .fields #[vl, vu, .none] } }
  exact tail_any (ops := [.ref s3.heap.objs.size, v]) ht hT hg (by with_unfolding_all rfl)
def cutV (xs : List V) (lo hi : Option Int) : List V := (xs.drop (HT.sIx xs.length 0 lo)).take (HT.sIx xs.length xs.length hi - HT.sIx xs.length 0 lo)
theorem cutV_length (xs : List V) (lo hi : Option Int) : (cutV xs lo hi).length ≤ xs.length := by
  unfold cutV
  rw [List.length_take, List.length_drop]
  omega
def rSlT (K : PySem.W.Frag) : V → Option Int → Option Int → Hp → VK → Prop := fun x lo hi H Q => ∃ a xs, x = .ref a ∧ SqT K H a xs ∧
  ¬ (HT.sIx xs.length 0 lo = 0 ∧ HT.sIx xs.length xs.length hi = xs.length) ∧ ∀ p, H p = none → Q (.ref p) (upd H p (.tup (cutV xs lo hi)))
theorem sl_tup : SlR X (rSlT X.K) := by
  intro pins s σ H x v vl vu lo hi sl Q I rx hs pl pu h
  obtain ⟨a, xs, rfl, hx, hw, q⟩ := h
  cases rx
  obtain ⟨its, r, ht, hz⟩ := I.tuple hx
  have hlen : its.toArray.size = xs.length := by rw [List.size_toArray]; exact r.length.symm
  refine ⟨"tuple", _, PyProof.Rows.slot_tuple_getitem.lookup, ht.typeIs, ?_⟩
  refine HT.getItem_tuple_cut ht hs pl pu (by rw [hlen]; exact hw) ?_ (by rw [hlen]; exact hz)
  rw [hlen]
  refine ⟨.ref s.heap.objs.size, _, I.laid (t' := s.toks) (o := .tup (cutV xs lo hi)) (fun b ob q => Heap.get?_push_of_some _ q) (Nat.le_refl _) ?_, rfl, q _ (I.hok.fresh (Nat.le_refl _))⟩
  exact ⟨Nat.le_trans (cutV_length xs lo hi) hz, _, (r.drop (HT.sIx xs.length 0 lo)).take (HT.sIx xs.length xs.length hi - HT.sIx xs.length 0 lo), IsTup.new _ _⟩
def rCatT (K : PySem.W.Frag) : R2 := fun x y H Q => ∃ a b xs ys, x = .ref a ∧ y = .ref b ∧ SqT K H a xs ∧ SqT K H b ys ∧ xs ≠ [] ∧ xs.length + ys.length ≤ sizeLine ∧
  (ys = [] → Q (.ref a) H) ∧ (ys ≠ [] → ∀ p, H p = none → Q (.ref p) (upd H p (.tup (xs ++ ys))))
theorem Vals.nil_iff {xs : List V} {us : List Value} (r : Vals xs us) : us = [] ↔ xs = [] := by
  cases r with
  | nil => simp
  | cons _ _ => simp
theorem op_catT : OpR X (binaryOp .Add) (rCatT X.K) := by
  intro pins s σ H x y v u Q I rx ry h
  obtain ⟨a, b, xs, ys, rfl, rfl, ha, hb, hx, hz, q1, q2⟩ := h
  cases rx
  cases ry
  obtain ⟨its, r1, p1, _⟩ := I.tuple ha
  obtain ⟨its2, r2, p2, _⟩ := I.tuple hb
  refine HT.cat_tup p1 p2 (fun z => hx (r1.nil_iff.mp z)) (fun z => ⟨.ref a, H, I, rfl, q1 (r2.nil_iff.mp z)⟩) (fun z => ?_) (by rw [← r1.length, ← r2.length]; exact hz)
  refine ⟨.ref s.heap.objs.size, _, I.laid (t' := s.toks) (o := .tup (xs ++ ys)) (fun b ob q => Heap.get?_push_of_some _ q) (Nat.le_refl _) ?_, rfl, q2 (fun w => z (r2.nil_iff.mpr w)) _ (I.hok.fresh (Nat.le_refl _))⟩
  exact ⟨by rw [List.length_append]; exact hz, _, r1.append r2, IsTup.new _ _⟩
end
end L2
namespace L2
open PySem PySem.Spec PyProof.Rows
def ixN (n : Nat) (i : Int) : Option Nat := if 0 ≤ i then (if i < n then some i.toNat else none) else if -(n : Int) ≤ i then some (i + n).toNat else none
def atI {α : Type} (xs : List α) (i : Int) : Option α := (ixN xs.length i).bind fun j => xs[j]?
theorem ixN_seq {n : Nat} {i : Int} {j : Nat} (h : ixN n i = some j) : seqIndex? i n = some j ∧ j < n ∧ -(n : Int) ≤ i ∧ i < n := by
  unfold ixN at h
  by_cases h0 : 0 ≤ i
  · rw [if_pos h0] at h
    by_cases h1 : i < n
    · rw [if_pos h1] at h
      have e : i.toNat = j := Option.some.inj h
      exact ⟨by rw [seqIndex_of h0 h1, e], by omega, by omega, h1⟩
    · rw [if_neg h1] at h; cases h
  · rw [if_neg h0] at h
    by_cases h1 : -(n : Int) ≤ i
    · rw [if_pos h1] at h
      have e : (i + n).toNat = j := Option.some.inj h
      exact ⟨by rw [seqIndex_neg (by omega) h1, e], by omega, h1, by omega⟩
    · rw [if_neg h1] at h; cases h
theorem atI_get {α : Type} {xs : List α} {i : Int} {v : α} (h : atI xs i = some v) : ∃ j, seqIndex? i xs.length = some j ∧ xs[j]? = some v ∧ j < xs.length ∧ -(xs.length : Int) ≤ i ∧ i < xs.length := by
  unfold atI at h
  cases e : ixN xs.length i with
  | none => rw [e] at h; cases h
  | some j =>
    rw [e] at h
    obtain ⟨h1, h2, h3, h4⟩ := ixN_seq e
    exact ⟨j, h1, h, h2, h3, h4⟩
theorem atI_nat {α : Type} {xs : List α} {j : Nat} {v : α} (h : xs[j]? = some v) : atI xs (j : Int) = some v := by
  have hj : j < xs.length := (List.getElem?_eq_some_iff.mp h).1
  have e : ixN xs.length (j : Int) = some j := by
    unfold ixN
    rw [if_pos (by omega), if_pos (by omega)]; simp
  unfold atI; rw [e]; exact h
def PlainIx (b : Expr) : Prop := ∀ o i, subscripted b false o i = operate [o, i] (getItem o i)
def IxR (X : Cx) (r : R2) : Prop :=
  ∀ (value slice : Expr) (pins : List (Addr × Obj)) (s : Shared) (σ : St) (H : Hp) (x y : V) (v u : Value) (Q : VK), Inv X pins σ H s → RelV x v → RelV y u → r x y H Q →
    subscripted slice false v u = operate [v, u] (getItem v u) → wpAny (model X.prog X.w) X.A (subscriptTail value slice v u) (EP X pins σ Q) X.xe s
def MtR (X : Cx) (id : String) (r : V → List V → Hp → VK → Prop) : Prop :=
  ∀ (pins : List (Addr × Obj)) (s : Shared) (σ : St) (H : Hp) (x : V) (xs : List V) (v : Value) (us : List Value) (Q : VK), Inv X pins σ H s → RelV x v → Vals xs us → r x xs H Q →
    wpAny (model X.prog X.w) X.A (call (.builtin id) (v :: us)) (EP X pins σ Q) X.xe s
section
variable {X : Cx} {a b : Expr} {ta tb : TE} {pos : Pos}
theorem IxR.or {r r' : R2} (h : IxR X r) (h' : IxR X r') : IxR X (fun x y H Q => r x y H Q ∨ r' x y H Q) := by
  intro value slice pins s σ H x y v u Q I rx ry q hs
  rcases q with q | q
  · exact h value slice pins s σ H x y v u Q I rx ry q hs
  · exact h' value slice pins s σ H x y v u Q I rx ry q hs
theorem pe_ix {r : R2} (hr : IxR X r) (ha : PE X a ta) (hb : PE X b tb) (hs : PlainIx b) : PE X (.Subscript a b pos) (tOp r ta tb) := by
  intro pins s σ H Q I h
  exact Subscript_ (binT ha hb I h fun v u s2 x y H2 I2 rx ry q => hr a b pins s2 σ H2 x y v u Q I2 rx ry q (hs _ _))
def rIxL (K : PySem.W.Frag) : R2 := fun x y H Q => ∃ p xs i v, x = .ref p ∧ y = .int i ∧ SqL K H p xs ∧ atI xs i = some v ∧ Q v H
def rIxT (K : PySem.W.Frag) : R2 := fun x y H Q => ∃ p xs i v, x = .ref p ∧ y = .int i ∧ SqT K H p xs ∧ atI xs i = some v ∧ Q v H
def rIxS : R2 := fun x y H Q => ∃ z i c, x = .str z ∧ y = .int i ∧ z.length ≤ sizeLine ∧ atI z.cps.toList i = some c ∧ Q (.str ⟨#[c]⟩) H
theorem ix_list : IxR X (rIxL X.K) := by
  intro value slice pins s σ H x y v u Q I rx ry h hs
  obtain ⟨p, xs, i, z, rfl, rfl, hq, he, q⟩ := h
  cases rx
  obtain ⟨t, rfl⟩ := ry
  obtain ⟨its, r, pl, hz⟩ := I.list hq
  obtain ⟨j, h1, h2, h3, h4, h5⟩ := atI_get he
  obtain ⟨w, ew, rw'⟩ := r.get h2
  have hl := r.length
  have hn := line63
  have fin : EP X pins σ Q w s := ⟨z, H, I, rw', q⟩
  by_cases h0 : 0 ≤ i
  · have hj : i.toNat = j := by
      rw [seqIndex_of h0 h5] at h1
      exact Option.some.inj h1
    exact item_listR pl.isList h0 (by omega) (by rw [hj]; simpa using ew) fin hs
  · have hj : (i + (its.toArray.size : Int)).toNat = j := by
      rw [seqIndex_neg (by omega) h4] at h1
      rw [List.size_toArray, ← hl]
      exact Option.some.inj h1
    exact subscriptTail_builtinR (x := w) pl.isList.typeIs slot_list_getitem.lookup
      (wpAny_getItem_list_neg (Q := fun r s' => r = w ∧ EP X pins σ Q r s') pl.isList (by omega) (by rw [List.size_toArray] <;> omega) (by omega) (by rw [hj]; simpa using ew) ⟨rfl, fin⟩) hs
theorem ix_tup : IxR X (rIxT X.K) := by
  intro value slice pins s σ H x y v u Q I rx ry h hs
  obtain ⟨p, xs, i, z, rfl, rfl, hq, he, q⟩ := h
  cases rx
  obtain ⟨t, rfl⟩ := ry
  obtain ⟨its, r, pl, hz⟩ := I.tuple hq
  obtain ⟨j, h1, h2, h3, h4, h5⟩ := atI_get he
  obtain ⟨w, ew, rw'⟩ := r.get h2
  have hl := r.length
  have hn := line63
  have fin : EP X pins σ Q w s := ⟨z, H, I, rw', q⟩
  exact subscriptTail_builtinR (x := w) pl.typeIs slot_tuple_getitem.lookup
    (getItem_tuple (j := j) (Q := fun r s' => r = w ∧ EP X pins σ Q r s') pl (by omega) (by omega) (by rw [List.size_toArray, ← hl]; exact h1) (by simpa using ew) ⟨rfl, fin⟩) hs
theorem slice_bounds (lo hi : Option Int) (n : Nat) : (sliceBounds lo hi none n).1 = ((HT.sIx n 0 lo : Nat) : Int) ∧ (sliceBounds lo hi none n).2.1 = ((HT.sIx n n hi : Nat) : Int) ∧ (sliceBounds lo hi none n).2.2 = 1 := by
  refine ⟨?_, ?_, rfl⟩
  · cases lo with
    | none => simp [sliceBounds, HT.sIx]
    | some i =>
      simp only [sliceBounds, HT.sIx, Option.getD_none, show (1 : Int) > 0 by decide, if_true]
      by_cases h : i < 0
      · simp only [h, if_true] <;> omega
      · simp only [h, if_false] <;> omega
  · cases hi with
    | none => simp [sliceBounds, HT.sIx]
    | some i =>
      simp only [sliceBounds, HT.sIx, Option.getD_none, show (1 : Int) > 0 by decide, if_true]
      by_cases h : i < 0
      · simp only [h, if_true] <;> omega
      · simp only [h, if_false] <;> omega
theorem slicePick_cut (its : List Value) (lo hi : Option Int) : slicePick its.toArray lo hi none = ((its.drop (HT.sIx its.length 0 lo)).take (HT.sIx its.length its.length hi - HT.sIx its.length 0 lo)).toArray := by
  obtain ⟨h1, h2, h3⟩ := slice_bounds lo hi its.toArray.size
  unfold slicePick
  rw [h1, h2, h3]
  simp only [sliceRange_one, pick_run, List.size_toArray] <;> rfl
def rSlL (K : PySem.W.Frag) : V → Option Int → Option Int → Hp → VK → Prop := fun x lo hi H Q => ∃ a xs, x = .ref a ∧ SqL K H a xs ∧ ∀ p, H p = none → Q (.ref p) (upd H p (.lst (cutV xs lo hi)))
theorem sl_list : SlR X (rSlL X.K) := by
  intro pins s σ H x v vl vu lo hi sl Q I rx hs pl pu h
  obtain ⟨a, xs, rfl, hx, q⟩ := h
  cases rx
  obtain ⟨its, r, ht, hz⟩ := I.list hx
  have hlen := r.length
  refine ⟨"list", _, slot_list_getitem.lookup, ht.isList.typeIs, ?_⟩
  refine wpAny_getItem_list_slice ht.isList hs pl pu .none (by simp) ?_ (by rw [List.size_toArray] <;> omega)
  rw [slicePick_cut, ← hlen]
  refine ⟨.ref s.heap.objs.size, _, I.laid (t' := s.toks) (o := .lst (cutV xs lo hi)) (fun b ob q => Heap.get?_push_of_some _ q) (Nat.le_refl _) ?_, rfl, q _ (I.hok.fresh (Nat.le_refl _))⟩
  exact ⟨Nat.le_trans (cutV_length xs lo hi) hz, _, 0, (r.drop (HT.sIx xs.length 0 lo)).take (HT.sIx xs.length xs.length hi - HT.sIx xs.length 0 lo), Heap.get?_push_size _ rfl⟩
def flatV : V → Bool
  | .non => true
  | .bl _ => true
  | .int _ => true
  | .str _ => true
  | _ => false
def eqV : V → V → Bool
  | .non, .non => true
  | .bl a, .bl b => a == b
  | .bl a, .int b => (if a then 1 else 0) == b
  | .int a, .bl b => a == (if b then 1 else 0)
  | .int a, .int b => a == b
  | .str a, .str b => a == b
  | _, _ => false
theorem eqAt_V {A : Around} {s : Shared} {y x : V} {u v : Value} (ry : RelV y u) (rx : RelV x v) (fy : flatV y = true) (fx : flatV x = true) : SeqAt.EqAt A s u v (eqV y x) := by
  cases y with
  | non =>
    cases ry
    cases x with
    | non => cases rx; exact SeqAt.EqAt.same _
    | bl b => cases rx; exact SeqAt.EqAt.none_bool b
    | int b => obtain ⟨t, rfl⟩ := rx; exact SeqAt.EqAt.none_int b t
    | str b => obtain ⟨t, rfl⟩ := rx; exact SeqAt.EqAt.none_str b t
    | _ => exact absurd (show false = true from fx) Bool.false_ne_true
  | bl a =>
    cases ry
    cases x with
    | non => cases rx; exact SeqAt.EqAt.bool_none a
    | bl b => cases rx; exact SeqAt.EqAt.bool_bool a b
    | int b => obtain ⟨t, rfl⟩ := rx; exact SeqAt.EqAt.bool_int a b t
    | str b => obtain ⟨t, rfl⟩ := rx; exact SeqAt.EqAt.bool_str a b t
    | _ => exact absurd (show false = true from fx) Bool.false_ne_true
  | int a =>
    obtain ⟨t', rfl⟩ := ry
    cases x with
    | non => cases rx; exact SeqAt.EqAt.int_none a t'
    | bl b => cases rx; exact SeqAt.EqAt.int_bool a t' b
    | int b => obtain ⟨t, rfl⟩ := rx; exact SeqAt.EqAt.int_int a t' b t
    | str b => obtain ⟨t, rfl⟩ := rx; exact SeqAt.EqAt.int_str a t' b t
    | _ => exact absurd (show false = true from fx) Bool.false_ne_true
  | str a =>
    obtain ⟨t', rfl⟩ := ry
    cases x with
    | non => cases rx; exact SeqAt.EqAt.str_none a t'
    | bl b => cases rx; exact SeqAt.EqAt.str_bool a t' b
    | int b => obtain ⟨t, rfl⟩ := rx; exact SeqAt.EqAt.str_int a t' b t
    | str b => obtain ⟨t, rfl⟩ := rx; exact SeqAt.EqAt.str_str a t' b t
    | _ => exact absurd (show false = true from fx) Bool.false_ne_true
  | _ => exact absurd (show false = true from fy) Bool.false_ne_true
theorem op_notIn_str : OpR X (compareOp .NotIn) (fun x y H Q => ∃ i j, x = .str i ∧ y = .str j ∧ Q (.bl (!(!(Builtin.Str.occurrences j i 0 j.length 1).isEmpty))) H) := by
  intro pins s σ H x y v u Q I rx ry h
  obtain ⟨i, j, rfl, rfl, q⟩ := h
  obtain ⟨t, rfl⟩ := rx
  obtain ⟨t', rfl⟩ := ry
  exact notIn_str ⟨.bl _, H, I, rfl, q⟩
theorem call_len_seq : CallR X (.builtin "len") (fun xs H Q => ∃ p ys, xs = [.ref p] ∧ (SqL X.K H p ys ∨ SqT X.K H p ys) ∧ Q (.int ys.length) H) := by
  intro pins s σ H xs us Q I r h
  obtain ⟨p, ys, rfl, hq, q⟩ := h
  obtain ⟨u, rfl, rx⟩ := vals1 r
  cases rx
  have hn := line63
  rcases hq with hq | hq
  · obtain ⟨its, r', pl, hz⟩ := I.list hq
    have hlen := r'.length
    exact Calls.call_len_list pl.isList (by simp only [List.size_toArray] <;> omega) ⟨.int ys.length, H, I.tok _, ⟨s.toks + 1, by rw [List.size_toArray, hlen]⟩, q⟩
  · obtain ⟨its, r', pl, hz⟩ := I.tuple hq
    have hlen := r'.length
    exact len_tuple pl (by simp only [List.size_toArray] <;> omega) ⟨.int ys.length, H, I.tok _, ⟨s.toks + 1, by rw [List.size_toArray, hlen]⟩, q⟩
theorem call_len_str : CallR X (.builtin "len") (fun xs H Q => ∃ z, xs = [.str z] ∧ z.length ≤ sizeLine ∧ Q (.int z.length) H) := by
  intro pins s σ H xs us Q I r h
  obtain ⟨z, rfl, hz, q⟩ := h
  obtain ⟨u, rfl, t, rfl⟩ := vals1 r
  have hn := line63
  exact len_str (by omega) ⟨.int z.length, H, I.tok _, ⟨_, rfl⟩, q⟩
theorem CallR.or {f : Value} {r r' : List V → Hp → VK → Prop} (h : CallR X f r) (h' : CallR X f r') : CallR X f (fun xs H Q => r xs H Q ∨ r' xs H Q) := by
  intro pins s σ H xs us Q I rs q
  rcases q with q | q
  · exact h pins s σ H xs us Q I rs q
  · exact h' pins s σ H xs us Q I rs q
def tyV (K : PySem.W.Frag) (T : String) (x : V) (H : Hp) : Prop := match x with
  | .str _ => T = "str"
  | .int _ => T = "int"
  | .ref p => (T = "list" ∧ ∃ xs, SqL K H p xs) ∨ (T = "tuple" ∧ ∃ o, K.lookup p = some o ∧ o.cls = .type "tuple" ∧ o.dict = none) ∨
      (T = "dict" ∧ ((∃ kvs, H p = some (.dK kvs)) ∨ ∃ kvs, H p = some (.dT kvs))) ∨ (T = "set" ∧ ∃ S n, H p = some (.set S n))
  | _ => False
theorem tyV_is {pins : List (Addr × Obj)} {σ : St} {H : Hp} {s : Shared} {T : String} {x : V} {v : Value} (I : Inv X pins σ H s) (r : RelV x v) (ty : tyV X.K T x H) :
    s.TypeIs v T ∧ ∀ a, v = .ref a → ∃ ob, s.heap.get? a = some ob ∧ ob.dict = none := by
  cases x with
  | str z =>
    obtain ⟨t, rfl⟩ := r
    cases (show T = "str" from ty)
    exact ⟨typeIs_str s z t, fun _ e => nomatch e⟩
  | int i =>
    obtain ⟨t, rfl⟩ := r
    cases (show T = "int" from ty)
    exact ⟨typeIs_int s i t, fun _ e => nomatch e⟩
  | ref p =>
    cases r
    rcases ty with ⟨rfl, xs, hq⟩ | ⟨rfl, o, hk, hc, hd⟩ | ⟨rfl, hk⟩ | ⟨rfl, S, n, hk⟩
    · obtain ⟨its, _, pl, _⟩ := I.list hq
      refine ⟨pl.isList.typeIs, fun a e => ?_⟩
      cases e
      obtain ⟨o, n, e, c, hd, _⟩ := pl
      exact ⟨o, e, hd⟩
    · refine ⟨⟨o, I.kIn p o hk, hc⟩, fun a e => ?_⟩
      cases e
      exact ⟨o, I.kIn _ o hk, hd⟩
    · have z : ∃ o, s.heap.get? p = some o ∧ o.ExactDict := by
        rcases hk with ⟨kvs, hk⟩ | ⟨kvs, hk⟩
        · obtain ⟨_, _, _, _, o, _, _, e, ex, _⟩ := I.hok p _ hk
          exact ⟨o, e, ex⟩
        · obtain ⟨_, _, _, _, o, _, _, e, ex, _⟩ := I.hok p _ hk
          exact ⟨o, e, ex⟩
      obtain ⟨o, e, ex⟩ := z
      refine ⟨⟨o, e, ex.1⟩, fun a e2 => ?_⟩
      cases e2
      exact ⟨o, e, ex.2.1⟩
    · obtain ⟨o, _, _, _, e, ex, _⟩ := I.hok p _ hk
      refine ⟨⟨o, e, ex.1⟩, fun a e2 => ?_⟩
      cases e2
      exact ⟨o, e, ex.2.1⟩
  | _ => exact False.elim ty
def tBM (K : PySem.W.Frag) (T : String) (r : V → List V → Hp → VK → Prop) (to : TE) (t : TA) : TE := fun σ H Q => to σ H fun x H1 => tyV K T x H1 ∧ t σ H1 fun xs H2 => r x xs H2 Q
variable {o e : Expr} {es : List Expr} {to : TE} {t : TA} {name : Str} {apos cpos : Pos} {T id : String} {r : V → List V → Hp → VK → Prop}
theorem pe_bm (pa : PlainAttrs T) (slot : Slot T name id) (hty : typeOf (.builtin id) = pure (.type "method_descriptor")) (hm : MtR X id r) (ho : PE X o to) (ha : PA X (e :: es) t)
    (hbase : attributeBase o name X.env (eval o X.env) = eval o X.env := by rfl)
    (hfew : ((backTo cpos (starEach (e :: es) X.env)).all (fun x => !x.1) && (backToKw cpos (keywordEach [] X.env)).all (fun x => x.1.isSome)
      && decide ((e :: es).length + ([] : List Keyword).length + (if ([] : List Keyword).isEmpty then 0 else 1) < 30)) = true := by rfl)
    (hline : (apos.endLine == cpos.line) = true := by rfl) (hs : starEach (e :: es) X.env = (false, eval e X.env) :: starEach es X.env := by rfl) (hplain : (backTo cpos (starEach es X.env)).any (·.1) = false := by rfl) :
    PE X (.Call (.Attribute o name apos) (e :: es) [] cpos) (tBM X.K T r to t) := by
  intro pins s σ H Q I h
  refine wpAny_Call_method_late hbase hfew hline rfl (thn (ho pins s σ H _ I h) fun v s1 ⟨x, H1, I1, r1, ty, q1⟩ => ?_)
  obtain ⟨h1, h2⟩ := tyV_is I1 r1 ty
  refine ⟨T, id, pa, slot, hty, h1, h2, ?_⟩
  have hA := ha cpos pins s1 σ H1 _ I1 q1
  rw [hs] at hA ⊢
  refine Calls.callWith_builtin (by show (false || (backTo cpos (starEach es X.env)).any (·.1)) = false; rw [hplain] <;> rfl) (Calls.evalArgs_plain ?_)
  exact thn hA fun us s2 ⟨vs, H2, I2, r2, q2⟩ => hm pins s2 σ H2 x vs v us Q I2 r1 r2 q2
end
end L2
namespace L2
open PySem PySem.Spec PyProof.Rows
def MtM (X : Cx) (id : String) (r : V → List V → Hp → VK → Prop) : Prop :=
  ∀ (pins : List (Addr × Obj)) (s : Shared) (σ : St) (H : Hp) (x : V) (xs : List V) (v : Value) (us : List Value) (Q : VK), Inv X pins σ H s → RelV x v → Vals xs us → r x xs H Q →
    wpAny (model X.prog X.w) X.A (call (.builtin id) (v :: us)) (EP X pins σ Q) X.xe s
theorem Vals.one : ∀ {x : V} {us : List Value}, Vals [x] us → ∃ u, us = [u] ∧ RelV x u
  | _, _, .cons r .nil => ⟨_, rfl, r⟩
theorem Vals.rep {xs : List V} {us : List Value} (h : Vals xs us) : ∀ k : Nat, Vals (List.replicate k xs).flatten (List.replicate k us).flatten
  | 0 => .nil
  | k + 1 => by
    rw [List.replicate_succ, List.replicate_succ, List.flatten_cons, List.flatten_cons]
    exact Vals.append h (Vals.rep h k)
theorem foldl_rep (its : List Value) : ∀ (k : Nat) (acc : List Value),
    List.foldl (fun x1 x2 => x1 ++ x2) acc.toArray (List.replicate k its.toArray) = (acc ++ (List.replicate k its).flatten).toArray
  | 0, acc => by simp
  | k + 1, acc => by
    have e : acc.toArray ++ its.toArray = (acc ++ its).toArray := by simp
    have e2 : (acc ++ its) ++ (List.replicate k its).flatten = acc ++ (List.replicate (k + 1) its).flatten := by
      rw [List.replicate_succ, List.flatten_cons, List.append_assoc]
    rw [← e2, ← foldl_rep its k (acc ++ its), ← e, List.replicate_succ, List.foldl_cons]
section
variable {X : Cx} {pins : List (Addr × Obj)} {σ : St} {H : Hp} {s : Shared} {l b : Addr} {xs ys zs : List V}
theorem Inv.lset {its its' : List Value} {n : Nat} {f : Array Value → Array Value} {t' : Nat} (I : Inv X pins σ H s) (hH : H l = some (.lst xs))
    (e : s.heap.get? l = some { cls := .type "list", data := .seq its.toArray n }) (hf : f its.toArray = its'.toArray) (hv : Vals ys its') (hz : ys.length ≤ sizeLine) :
    Inv X pins σ (upd H l (.lst ys)) { s with heap := s.heap.update l (Obj.mapSeq f), toks := t' } := by
  have q := PySem.IsL.update e f
  rw [hf] at q
  refine I.write (x := l) (e := l) (by rw [hH]; exact trivial) (.inl rfl) (fun b' u hb hu => (Heap.get?_update_other s.heap (Obj.mapSeq f) (Ne.symm hb)).trans hu) ⟨_, q⟩ ?_
  exact ⟨hz, its', _, hv, q⟩
theorem Inv.lnew {its : List Value} {t' : Nat} (I : Inv X pins σ H s) (hv : Vals ys its) (hz : ys.length ≤ sizeLine) :
    Inv X pins σ (upd H s.heap.objs.size (.lst ys)) { s with heap := s.heap.push { cls := .type "list", data := .seq its.toArray }, toks := t' } :=
  I.laid (fun _ _ q => Heap.get?_push_of_some _ q) (Nat.le_refl _) ⟨hz, its, 0, hv, Heap.get?_push_size _ rfl⟩
theorem Inv.fresh (I : Inv X pins σ H s) : H s.heap.objs.size = none := I.hok.fresh (Nat.le_refl _)
theorem Inv.lstM (I : Inv X pins σ H s) (hH : H l = some (.lst xs)) : xs.length ≤ sizeLine ∧ ∃ (its : List Value) (n : Nat), Vals xs its ∧ xs.length = its.length ∧ s.heap.get? l = some { cls := .type "list", data := .seq its.toArray n } := by
  obtain ⟨z, its, n, r, e⟩ := I.hok l _ hH
  exact ⟨z, its, n, r, r.length, e⟩
theorem notLongL {n : Nat} (h : n ≤ sizeLine) : Builtin.List.listTooLong n = false := by
  unfold Builtin.List.listTooLong
  exact decide_eq_false (by omega)
end
section
variable {X : Cx}
def rAppend : V → List V → Hp → VK → Prop := fun x vs H Q => ∃ l xs y, x = .ref l ∧ vs = [y] ∧ H l = some (.lst xs) ∧ xs.length < sizeLine ∧ Q .non (upd H l (.lst (xs ++ [y])))
theorem mt_append : MtM X "list.append" rAppend := by
  intro pins s σ H x vs v us Q I rx rv h
  obtain ⟨l, xs, y, rfl, rfl, hH, hz, q⟩ := h
  cases rx
  obtain ⟨u, rfl, ru⟩ := rv.one
  obtain ⟨z, its, n, r, hl, e⟩ := I.lstM hH
  refine call_meets F.slot_list_append ⟨_, e, rfl⟩ F.entry_list_append (F.args_list_append_2 _ _) (PySem.list_append l its.toArray n u (by rw [List.size_toArray]; omega)) ⟨e, ?_⟩
  refine ⟨.non, _, I.lset (its' := its ++ [u]) hH e (by simp) (r.append (.cons ru .nil)) ?_, rfl, q⟩
  rw [List.length_append, List.length_singleton]
  omega
def rRep : R2 := fun x y H Q => ∃ l k xs, x = .ref l ∧ y = .int k ∧ H l = some (.lst xs) ∧ -(2 ^ 63) ≤ k ∧ k < 2 ^ 63 ∧ xs.length * k.toNat ≤ sizeLine ∧
  ∀ p, H p = none → Q (.ref p) (upd H p (.lst (List.replicate k.toNat xs).flatten))
theorem len_rep {α : Type} (xs : List α) (k : Nat) : (List.replicate k xs).flatten.length = k * xs.length := by
  induction k with
  | zero => simp
  | succ k ih => rw [List.replicate_succ, List.flatten_cons, List.length_append, ih, Nat.succ_mul, Nat.add_comm]
theorem op_rep : OpR X (binaryOp .Mult) rRep := by
  intro pins s σ H x y v u Q I rx ry h
  obtain ⟨l, k, xs, rfl, rfl, hH, h1, h2, hz, q⟩ := h
  cases rx
  obtain ⟨t, rfl⟩ := ry
  obtain ⟨z, its, n, r, hl, e⟩ := I.lstM hH
  have hlen : its.toArray.size * k.toNat ≤ sizeLine := by rw [List.size_toArray, ← hl]; exact hz
  have hcap : ¬ its.toArray.size * k.toNat > (2 ^ 63 - 1) / 8 := by
    have : (sizeLine : Nat) ≤ (2 ^ 63 - 1) / 8 := by decide
    omega
  have hfit : ¬ (!Builtin.List.listFitsIndex k) = true := by
    rw [fitsIndex_both h1 h2]
    exact Bool.false_ne_true
  have hlong : ¬ Builtin.List.listTooLong (its.toArray.size * k.toNat) = true := by
    rw [notLongL hlen]
    exact Bool.false_ne_true
  have hnew : List.foldl (fun x1 x2 => x1 ++ x2) #[] (List.replicate (if its.toArray.isEmpty = true then 0 else k.toNat) its.toArray) = (List.replicate k.toNat its).flatten.toArray := by
    have f0 : ∀ m : Nat, List.foldl (fun x1 x2 => x1 ++ x2) #[] (List.replicate m its.toArray) = (List.replicate m its).flatten.toArray := fun m => by
      have := foldl_rep its m []
      rw [List.nil_append] at this
      exact this
    rw [f0]
    cases its with
    | nil => simp
    | cons a r' => rw [if_neg (by simp)]
  refine wpAny_binaryOp_repeat_ref (T := "list") (U := "int") (by decide) ⟨_, e, rfl⟩ (fun s' => typeIs_int s' k t) noFill_list_mul F.fills_int_mul F.slot_int_rmul repeat_list F.slot_int_index.lookup
    (call_meets F.slot_int_rmul (typeIs_int s k t) F.entry_int_rmul (F.args_int_rmul_2 _ _) (int___rmul___int_list k t l its.toArray n)
      ⟨e, rfl, ⟨_, e, rfl⟩, call_meets F.slot_list_mul ⟨_, e, rfl⟩ F.entry_list_mul (F.args_list_mul_2 _ _) (AutoListH.list___mul___list_int_3 l its.toArray n k t hfit hcap hlong) ⟨e, ?_⟩⟩)
  rw [hnew]
  exact ⟨.ref _, _, I.lnew (t' := s.toks) (r.rep k.toNat) (by rw [len_rep, Nat.mul_comm]; exact hz), rfl, q _ I.fresh⟩
end
end L2
namespace Att
open PySem PySem.W PySem.Calls PyProof.Rows
theorem ints_of_wellAll {P : Params} {h : Heap} : ∀ (ns : List Int) (vs : List Value), WellAll P h vs (ns.map WData.int) → IntsAre vs ns := by
  intro ns
  induction ns with
  | nil =>
    intro vs w
    rw [List.map_nil] at w
    cases w
    exact .nil
  | cons n ns ih =>
    intro vs w
    rw [List.map_cons] at w
    cases w with
    | cons a b =>
      cases a
      exact .cons _ _ (ih _ b)
theorem script_of {l : OpenLaw} {n : Nat} (hn : l.most = some n) {P : Params} {h : Heap} {args : List WData} {vals : List Value}
    (hpre : l.row.toRowW.claim.pre args = true) (hwl : WellAll P h vals args) :
    ∃ a vs ns, vals = [Value.ref a] ∧ args = [WData.list (ns.map WData.int)] ∧ h.get? a = some { cls := .type "list", data := .seq vs.toArray } ∧ IntsAre vs ns ∧ ns.length ≤ n := by
  have hsh : WShape.hasAll [] args [.list .int] = true := (pre_splitW hpre).1
  have hc : l.pre.holds [] { args := args } = true := (pre_splitW hpre).2
  obtain ⟨d, r, rfl, h1, h2⟩ := hasAllW_cons hsh
  obtain rfl := hasAllW_nil h2
  obtain ⟨xs, rfl, h3⟩ := hasW_list h1
  obtain ⟨ns, rfl⟩ := items_int h3
  have hlen : ns.length ≤ n := by
    unfold OpenLaw.pre at hc
    have h4 : (WTm.not (.lt (.lit (.int (n : Int))) (.len (.arg 0)))).holds [] { args := [.list (ns.map .int)] } = true := by
      have h4 := (holds_andW hc).1
      rw [hn] at h4
      exact h4
    have h5 := condW_of h4 (w_not (w_lt w_lit (w_len_list (w_arg rfl))))
    rw [List.length_map] at h5
    refine Nat.le_of_not_lt fun q => ?_
    have q' : (n : Int) < ((ns.length : Nat) : Int) := by omega
    first
      | (rw [decide_eq_true q'] at h5; exact absurd h5 (by decide))
      | (simp at h5; omega)
  cases hwl with
  | cons w1 w2 =>
    cases w2
    cases w1 with
    | list ho hall => exact ⟨_, _, ns, rfl, rfl, ho, ints_of_wellAll ns _ hall, hlen⟩
theorem post_true (l : OpenLaw) (args : List WData) : l.row.toRowW.claim.post args (.bool true) args = true :=
  postW_of (r := l.row.toRowW) (X := (true == true))
    (show WShape.has [] (.bool true) .bool = true by first | rfl | decide | simp [WShape.has, WShape.arms, WShape.armsAll])
    (show (WTm.eq .res (.lit (.bool true))).value [] { args := args, res := some (.bool true), after := args } = some (.bool (true == true)) from w_eq_bool (w_res rfl) w_lit) rfl
theorem attach_call {l : OpenLaw} {n : Nat} {q : Program} {loose : List Str} {XP : (Str → Option Value) → Heap → Prop} {YP : World → Heap → Prop} {d : DefRec}
    (hn : l.most = some n) (hdf : d.params.defaults = [])
    (call : ∀ (w : World) (s₀ s₁ : Shared) (mg mb : Str → Option Value) (fa : Addr) (o : Obj) (pm cd doc : Value) (a : Addr) (vs : List Value) (ns : List Int),
      Ground q loose [] XP w s₀ mg mb s₁.heap → YP w s₁.heap →
      s₁.heap.get? fa = some o → o.data = .func (docDef d.name d.params d.body d.scope pm cd doc) → s₁.heap.CodeRec cd d.name → mg d.name = some (.ref fa) →
      s₁.heap.get? a = some { cls := .type "list", data := .seq vs.toArray } → IntsAre vs ns → ns.length ≤ n → s₁.gens = #[] →
      codeAny (model l.prog w) callerA (.call (.ref fa) ⟨[.ref a], []⟩) (fun r s' => r = .ok (.ret (.bool true)) ∧ OldK s₁.heap s'.heap ∧ s'.os = s₁.os ∧ AllBare s'.gens) s₁) :
    WalkO q loose XP YP l.row.toRowW d [] (fun f vs => PySem.call f vs) := by
  intro w s₀ s₁ mg mb G Y fa o pm cd doc dV kV ho hd hcd hD hmg hg args vals as hpre hlay hrd hwl hlo
  obtain rfl : dV = .none := Dflts.none hD hdf
  obtain rfl : kV = .none := Dflts.noKw hD
  obtain ⟨a, vs, ns, rfl, rfl, hobj, hints, hlen⟩ := script_of hn hpre hwl
  refine enter_call (codeAny_mono (call w s₀ s₁ mg mb fa o pm cd doc a vs ns G Y ho (fd_plain hd) hcd hmg hobj hints hlen hg) fun r s' hq => ?_)
  obtain ⟨rfl, h2, h3, h4⟩ := hq
  exact ⟨.inl ⟨.bool true, .bool true, [], rfl, fun _ => rfl, .bool true, post_true l _, fun _ => ⟨List.Pairwise.nil, fun _ hm => (nomatch hm)⟩⟩, h2, h3, h4⟩
end Att
namespace L2
open PySem PySem.Spec PyProof.Rows
theorem vals_ints : ∀ {vs : List Value} {ns : List Int}, IntsAre vs ns → Vals (ns.map V.int) vs
  | _, _, .nil => .nil
  | _, _, .cons n t h => .cons ⟨t, rfl⟩ (vals_ints h)
def Only (H : Hp) : Prop := ∀ b, H b = none ∨ ∃ o xs, H b = some (.frz o (.lst xs))
theorem law_call {P : Program} {w : World} {K : PySem.W.Frag} {mg mb : Str → Option Value} {CX : CXT} {k : Nat} {fa a : Addr} {fd : FuncData} {x : Str} {sp : Sp} {s₁ : Shared} {vs : List Value} {ns : List Int}
    (KX : K.In s₁.heap) (hns : s₁.heap.Ns mainGlobals mg) (hb : s₁.heap.Ns builtinsNs mb) (hbb : ∀ x : Str, x ≠ "__name__" → mb x = bootBuiltins x) (hlim : s₁.heap.NoLimit) (hg : s₁.gens = #[])
    (ha : s₁.heap.get? a = some { cls := .type "list", data := .seq vs.toArray }) (hi : IntsAre vs ns) (hl : ns.length ≤ sizeLine) (hr : Room k callerA)
    (F : ∀ base : Heap, K.In base → base.Ns mainGlobals mg → FnOk P w K mg base CX k fa fd [x] sp) (hbind : ∀ (s : Shared) (u : Value), BindsTo s fd ⟨[u], []⟩ [(x, u)])
    (hsp : ∀ H : Hp, Only H → SqL K H a (ns.map V.int) → sp [.ref a] H (fun v _ => v = .bl true) fun _ _ _ => False)
    (hCX : ∀ H e s', CX [] H s₁ (fun _ _ _ => False) e s' → False) :
    codeAny (model P w) callerA (.call (.ref fa) ⟨[.ref a], []⟩) (fun r s' => r = .ok (.ret (.bool true)) ∧ OldK s₁.heap s'.heap ∧ s'.os = s₁.os ∧ AllBare s'.gens) s₁ := by
  have rv := vals_ints hi
  have lenV := hi.length
  have core : ∀ H : Hp, Only H → SqL K H a (ns.map V.int) → HOk P w H s₁.heap → (∀ b, H b ≠ none → b = a) → (H a ≠ none → K.lookup a = none) →
      codeAny (model P w) callerA (.call (.ref fa) ⟨[.ref a], []⟩) (fun r s' => r = .ok (.ret (.bool true)) ∧ OldK s₁.heap s'.heap ∧ s'.os = s₁.os ∧ AllBare s'.gens) s₁ := by
    intro H hO hS hok hA hK
    have base_of : ∀ {b : Addr} {o : Obj}, s₁.heap.get? b = some o → H b = none → (hidT s₁.heap H).get? b = some o := fun e n => hidT_get e n
    have noA : ∀ {b : Addr} {o : Obj} {es : Array DictEntry} {ep : Nat}, s₁.heap.get? b = some o → o.data = .dict es ep → H b = none := fun {b o es ep} e d => by
      cases q : H b with
      | none => rfl
      | some u =>
        have e' : b = a := hA b (by rw [q]; simp)
        subst e'
        rw [ha] at e; cases e
        have d' : Data.seq vs.toArray _ = Data.dict es ep := d
        cases d'
    have nsK : ∀ {b : Addr} {m : Str → Option Value}, s₁.heap.Ns b m → (hidT s₁.heap H).Ns b m := fun {b m} ⟨o, es, ep, e, d, r⟩ => ⟨o, es, ep, base_of e (noA e d), d, r⟩
    have hKb : K.In (hidT s₁.heap H) := fun b o e => base_of (KX b o e) (by
      cases q : H b with
      | none => rfl
      | some u =>
        have e' : b = a := hA b (by rw [q]; simp)
        subst e'
        rw [hK (by rw [q]; simp)] at e; cases e)
    have hM : Mod K mg (hidT s₁.heap H) := ⟨hKb, nsK hns, ⟨mb, nsK hb, hbb⟩, let ⟨mc, h1, h2⟩ := hlim; ⟨mc, nsK h1, h2⟩⟩
    have e0 : Env0 P w K mg (hidT s₁.heap H) callerA [] s₁ H := ⟨rfl, hM, fun b o e => of_hidT e, Nat.le_of_eq (hidT_size _ _), trivial, fun b hb => absurd (show b ∈ ([] : List Addr) from hb) (by simp), hok, .of_eq hg⟩
    refine codeAny_mono ((F _ hKb (nsK hns)).run callerA [] s₁ H ⟨[.ref a], []⟩ [.ref a] [.ref a] _ _ hr e0 (hbind s₁ (.ref a)) (.cons rfl .nil) (hsp H hO hS)) fun r s' h => ?_
    cases r with
    | error e => exact (hCX H e s' h).elim
    | ok fl =>
      cases fl with
      | next => exact False.elim h
      | brk => exact False.elim h
      | cont => exact False.elim h
      | ret u =>
        obtain ⟨v, H', os, bare, un, hok', r', q⟩ := h
        have q' : v = .bl true := q
        subst q'
        obtain rfl : u = Value.bool true := r'
        refine ⟨rfl, OldK.of_keep fun b o e => ?_, os, bare⟩
        cases q : H b with
        | none => exact un.keep b o e q (by intro z; exact absurd (show b ∈ ([] : List Addr) from z) (by simp)) (by simp)
        | some u =>
          rcases hO b with z | ⟨ob, xs, z⟩
          · rw [q] at z; cases z
          · have z2 := un.frzs b ob _ z
            obtain ⟨e1, _⟩ := hok b _ z
            obtain ⟨e2, _⟩ := hok' b _ z2
            rw [e] at e1; cases e1
            exact e2
  cases hk : K.lookup a with
  | some o =>
    have e := KX a o hk
    rw [ha] at e
    cases e
    refine core (fun _ => none) (fun _ => .inl rfl) (.inr ⟨_, vs.toArray, _, hk, rfl, rfl, rfl, by rw [List.size_toArray, lenV]; exact hl, by simpa using rv⟩) (fun b u z => by have z' : (none : Option HO) = some u := z; cases z') (fun b z => absurd rfl z) fun z => absurd rfl z
  | none =>
    refine core (fun b => if b = a then some (.frz { cls := .type "list", data := .seq vs.toArray } (.lst (ns.map V.int))) else none) (fun b => ?_) (.inl (.inr ⟨{ cls := .type "list", data := .seq vs.toArray }, if_pos rfl⟩)) (fun b u z => ?_) (fun b z => ?_) fun _ => hk
    · by_cases hb : b = a
      · exact .inr ⟨_, _, if_pos hb⟩
      · exact .inl (if_neg hb)
    · by_cases hb : b = a
      · have z' := (if_pos hb).symm.trans z
        cases z'
        subst hb
        exact ⟨ha, by rw [List.length_map]; exact hl, vs, _, rv, ha⟩
      · have z' := (if_neg hb).symm.trans z
        cases z'
    · by_cases hb : b = a
      · exact hb
      · exact absurd (if_neg hb) z
end L2
namespace L2
open PySem PySem.Spec PyProof.Rows
theorem walk_of {l : PySem.W.OpenLaw} {n k : Nat} {q : Program} {loose : List Str} {XP : (Str → Option Value) → Heap → Prop} {YP : World → Heap → Prop} {d : DefRec} {K : Params → PySem.W.Frag} {CX : World → CXT} {sp : World → Sp} {x : Str}
    (hn : l.most = some n) (hn2 : n ≤ sizeLine) (hdf : d.params.defaults = []) (hr : Room k callerA)
    (hY : ∀ (w : World) (h : Heap), YP w h → (K w.params).In h)
    (F : ∀ (w : World) (mg : Str → Option Value) (fa : Addr) (h : Heap), (K w.params).In h → h.Ns mainGlobals mg → mg d.name = some (.ref fa) →
      ∃ fd : FuncData, (∀ (s : Shared) (u : Value), BindsTo s fd ⟨[u], []⟩ [(x, u)]) ∧
        ∀ base : Heap, (K w.params).In base → base.Ns mainGlobals mg → FnOk l.prog w (K w.params) mg base (CX w) k fa fd [x] (sp w))
    (hsp : ∀ (w : World) (H : Hp) (a : Addr) (ns : List Int), ns.length ≤ n → Only H → SqL (K w.params) H a (ns.map V.int) → sp w [.ref a] H (fun v _ => v = .bl true) fun _ _ _ => False)
    (hCX : ∀ (w : World) (H : Hp) (s : Shared) (e : Value) (s' : Shared), CX w [] H s (fun _ _ _ => False) e s' → False) :
    PySem.W.WalkO q loose XP YP l.row.toRowW d [] (fun f vs => PySem.call f vs) := by
  refine Att.attach_call hn hdf fun w s₀ s₁ mg mb fa o pm cd doc a vs ns G Y ho hd hcd hmg hobj hints hlen hg => ?_
  have KX := hY w _ Y
  obtain ⟨fd, hb, hF⟩ := F w mg fa _ KX G.T.g hmg
  exact law_call KX G.T.g G.T.b G.T.builtins G.T.nolimit hg hobj hints (Nat.le_trans hlen hn2) hr hF hb (fun H hO hS => hsp w H a ns hlen hO hS) fun H e s' => hCX w H s₁ e s'
end L2
namespace L2
open PySem PySem.Spec PyProof.Rows
def defArgs (s : Stmt) : Arguments := match s with
  | .FunctionDef _ a _ _ _ _ _ _ _ _ => a
  | _ => { posonlyargs := [], args := [], vararg := none, kwonlyargs := [], kw_defaults := [], kwarg := none, defaults := [] }
def defBody (s : Stmt) : List Stmt := match s with
  | .FunctionDef _ _ b _ _ _ _ _ _ _ => b
  | _ => []
def defScope (s : Stmt) : Scope := match s with
  | .FunctionDef _ _ _ _ _ _ sc _ _ _ => sc
  | _ => { kind := .function, names := [], isGenerator := false, isCoroutine := false }
abbrev E0 : XK := fun _ _ _ => False
structure Fun (K : PySem.W.Frag) (x qual : Str) (st : Stmt) (f : Addr) (fd : FuncData) : Prop where
  ex : ∃ (oc : Value) (od : Option Addr) (kV doc pm : Value) (an : Option Addr) (cdv ct : Value) (osl : Array (Option Value)),
    fd = PySem.W.fnOf x qual (defArgs st) (defBody st) (defScope st) .none kV doc pm an cdv ct ∧ K.lookup f = some ⟨oc, od, .func fd, osl⟩ ∧ PySem.W.codeIn K cdv qual = true
  kp : PySem.W.keepIn K (.ref f) = true
section
variable {P : Program} {w : World} {K : PySem.W.Frag} {mg : Str → Option Value} {base : Heap}
theorem Fun.binds {x qual : Str} {st : Stmt} {f : Addr} {fd : FuncData} {ps : List Str} (F : Fun K x qual st f fd)
    (h : ∀ (kV doc pm : Value) (an : Option Addr) (cdv ct : Value) (us : List Value), us.length = ps.length → bindArgs (PySem.W.fnOf x qual (defArgs st) (defBody st) (defScope st) .none kV doc pm an cdv ct) ⟨us, []⟩ = pure (ps.zip us)) : Binds K fd ps [] := by
  obtain ⟨oc, od, kV, doc, pm, an, cdv, ct, osl, rfl, lk, hcd⟩ := F.ex
  exact .all (h kV doc pm an cdv ct)
theorem fun_mk {x qual : Str} {st : Stmt} {f : Addr} {oc : Value} {od an : Option Addr} {osl : Array (Option Value)} {kV doc pm cdv ct : Value} (l : K.lookup f = some ⟨oc, od, .func (PySem.W.fnOf x qual (defArgs st) (defBody st) (defScope st) .none kV doc pm an cdv ct), osl⟩)
    (c : PySem.W.codeIn K cdv qual = true) (k : PySem.W.keepIn K (.ref f) = true) : Fun K x qual st f (PySem.W.fnOf x qual (defArgs st) (defBody st) (defScope st) .none kV doc pm an cdv ct) := ⟨⟨oc, od, kV, doc, pm, an, cdv, ct, osl, rfl, l, c⟩, k⟩
end
theorem small1000 {n : Nat} (h : n ≤ 1000) : n < sizeLine := Nat.lt_of_le_of_lt h (by decide)
section
variable {X : Cx}
theorem pv (i : Nat) {x : Str} {pos : Pos} (hN : X.N[i]? = some x := by rfl) (hv : Vis X.env.scope x := by first | exact Or.inl rfl | exact Or.inr (Or.inl rfl) | exact Or.inr (Or.inr rfl)) (hd : (x == ("__debug__" : Str)) = false := by decide)
    (hcd : (x == ("__classdict__" : Str)) = false := by decide) : PE X (.Name x pos) (tVar i) := pe_var hN hv hd hcd
end
theorem iteF {A B : Prop} (h : B) : if false = true then A else B := by
  rw [if_neg Bool.false_ne_true]
  exact h
theorem iteT {A B : Prop} (h : A) : if true = true then A else B := by
  rw [if_pos rfl]
  exact h
def Same (H H' : Hp) : Prop := ∀ b o, H b = some o → H' b = some o
theorem Same.refl (H : Hp) : Same H H := fun _ _ h => h
theorem Same.trans {H H1 H2 : Hp} (a : Same H H1) (b : Same H1 H2) : Same H H2 := fun c o h => b c o (a c o h)
theorem Same.free {H H' : Hp} (e : Same H H') {l : Addr} (h : H' l = Option.none) : H l = Option.none := by
  cases q : H l with
  | none => rfl
  | some o =>
    rw [e l o q] at h
    cases h
theorem Same.seq {K : PySem.W.Frag} {H H' : Hp} {a : Addr} {xs : List V} (e : Same H H') (h : SqL K H a xs) : SqL K H' a xs := by
  rcases h with (h | ⟨o, h⟩) | h
  · exact .inl (.inl (e _ _ h))
  · exact .inl (.inr ⟨o, e _ _ h⟩)
  · exact .inr h
end L2
end
section
set_option Elab.async false
set_option linter.all false
set_option maxRecDepth 100000
namespace L2
open PySem PySem.Spec PyProof.Rows
theorem forIn_fold {α β : Type} (g : β → α → β) : ∀ {l : List α} {f : α → β → Sem (ForInStep β)} (c : β), (∀ x ∈ l, ∀ c, f x c = pure (.yield (g c x))) → forIn l c f = pure (l.foldl g c)
  | [], _, _, _ => rfl
  | x :: l, f, c, h => by
    rw [List.forIn_cons, h x List.mem_cons_self c, pure_bind]
    exact forIn_fold g (g c x) fun y hy => h y (List.mem_cons_of_mem _ hy)
def closStep (env : Env) (cs : List (Str × Addr)) (x : Str × NameKind) : List (Str × Addr) :=
  if (x.2 == NameKind.free) = true then (x.1, (env.cells.lookup x.1).getD 0) :: cs else cs
def clos (env : Env) (names : List (Str × NameKind)) : List (Str × Addr) := names.foldl (closStep env) []
theorem clos_eq {env : Env} {scope : Scope} (h : ∀ x ∈ scope.names, x.2 = .free → ∃ c, env.cells.lookup x.1 = some c) : closureFor scope env = pure (clos env scope.names) := by
  simp only [closureFor]
  rw [forIn_fold (closStep env) [] (fun x hx c => by
    obtain ⟨n, k⟩ := x
    by_cases hk : k = .free
    · obtain ⟨a, e⟩ := h (n, k) hx hk
      have e' : env.cells.lookup n = some a := e
      subst hk
      simp [closStep, cellOf, e']
    · have hb : (k == NameKind.free) = false := by simpa using hk
      simp [closStep, hb])]
  rfl
theorem clos_sub {env : Env} : ∀ (l : List (Str × NameKind)) (acc : List (Str × Addr)), (∀ x ∈ l, x.2 = .free → ∃ c, env.cells.lookup x.1 = some c) → (∀ y c, acc.lookup y = some c → env.cells.lookup y = some c) →
    ∀ y c, (l.foldl (closStep env) acc).lookup y = some c → env.cells.lookup y = some c
  | [], acc, _, ha, y, c, e => ha y c e
  | x :: l, acc, h, ha, y, c, e => by
    refine clos_sub l (closStep env acc x) (fun z hz => h z (List.mem_cons_of_mem _ hz)) (fun z d q => ?_) y c e
    unfold closStep at q
    split at q
    · rename_i hk
      obtain ⟨a, ea⟩ := h x List.mem_cons_self (by simpa using hk)
      rw [List.lookup_cons] at q
      cases hz : z == x.1 with
      | true =>
        rw [hz] at q
        rw [ea] at q
        have : z = x.1 := by simpa using hz
        rw [this, ea]; simpa using q
      | false => rw [hz] at q; exact ha z d q
    · exact ha z d q
theorem clos_some {env : Env} : ∀ (l : List (Str × NameKind)) (acc : List (Str × Addr)) (y : Str), ((∃ c, acc.lookup y = some c) ∨ (y, NameKind.free) ∈ l) → ∃ c, (l.foldl (closStep env) acc).lookup y = some c
  | [], acc, y, h => by
    rcases h with h | h
    · exact h
    · exact absurd h (by simp)
  | x :: l, acc, y, h => by
    refine clos_some l (closStep env acc x) y ?_
    rcases h with ⟨c, h⟩ | h
    · left
      unfold closStep
      split
      · rw [List.lookup_cons]
        cases hz : y == x.1 with
        | true => exact ⟨_, rfl⟩
        | false => exact ⟨c, h⟩
      · exact ⟨c, h⟩
    · rcases List.mem_cons.mp h with e | h
      · left
        subst e
        unfold closStep
        rw [if_pos (by rfl), List.lookup_cons]
        simp
      · exact .inr h
theorem relabel_kind {scope : Scope} {env : Env} : ∀ {names : List (Str × NameKind)} {x : Str} {k : NameKind},
    (names.map fun (n, k) => if (k == NameKind.free && env.scope.kind == .function && env.kindOf n == some .cell) then (n, NameKind.cell) else (n, k)).lookup x = some k →
    names.lookup x = some k ∨ (k = .cell ∧ names.lookup x = some .free)
  | [], _, _, h => by simp at h
  | (n, k') :: r, x, k, h => by
    change List.lookup x ((if (k' == NameKind.free && env.scope.kind == .function && env.kindOf n == some .cell) = true then (n, NameKind.cell) else (n, k')) :: _) = some k at h
    by_cases hc : (k' == NameKind.free && env.scope.kind == .function && env.kindOf n == some .cell) = true
    · rw [if_pos hc, List.lookup_cons] at h
      rw [List.lookup_cons]
      cases hx : x == n with
      | true =>
        rw [hx] at h
        have hk : k' = .free := by
          simp only [Bool.and_eq_true, beq_iff_eq] at hc
          exact hc.1.1
        subst hk
        have h' : NameKind.cell = k := by simpa using h
        exact .inr ⟨h'.symm, rfl⟩
      | false => rw [hx] at h; exact relabel_kind (scope := scope) h
    · rw [if_neg hc, List.lookup_cons] at h
      rw [List.lookup_cons]
      cases hx : x == n with
      | true => rw [hx] at h; exact .inl h
      | false => rw [hx] at h; exact relabel_kind (scope := scope) h
def nyOk (k : Nat) (NY N : List Str) (sc : Scope) : Bool :=
  NY.length == k + N.length && ((NY.drop k).zip N).all fun p => (sc.names.lookup p.1).isNone || (p.1 == p.2 && sc.names.lookup p.1 != some .local)
structure LC (X : Cx) (k : Nat) (scope : Scope) (NY : List Str) : Prop where
  cells : ∀ y ∈ scope.names, y.2 ≠ .cell
  kind : scope.kind = .function
  names : ∀ y ∈ scope.names, y.2 = .local → scope.names.lookup y.1 = some .local
  free : ∀ y ∈ scope.names, y.2 = .free → X.env.kindOf y.1 = some .cell ∨ X.env.kindOf y.1 = some .free
  ny : nyOk k NY X.N scope = true
  nd : NY.Nodup
def lcOk (k : Nat) (N : List Str) (sc0 scope : Scope) (NY : List Str) : Bool :=
  (scope.names.all fun y => y.2 != .cell) && (scope.kind == .function) && (scope.names.all fun y => y.2 != .local || scope.names.lookup y.1 == some .local) &&
  (scope.names.all fun y => y.2 != .free || sc0.names.lookup y.1 == some .cell || sc0.names.lookup y.1 == some .free) && nyOk k NY N scope && decide NY.Nodup
theorem LC.of {X : Cx} {k : Nat} {N NY : List Str} {sc0 scope : Scope} (hN : X.N = N) (hs : X.env.scope = sc0) (h : lcOk k N sc0 scope NY = true) : LC X k scope NY := by
  unfold lcOk at h
  simp only [Bool.and_eq_true, List.all_eq_true, Bool.or_eq_true, bne_iff_ne, beq_iff_eq, ne_eq] at h
  obtain ⟨⟨⟨⟨⟨h1, h2⟩, h3⟩, h4⟩, h5⟩, h6⟩ := h
  refine ⟨h1, h2, fun y hy e => ?_, fun y hy e => ?_, by rw [hN]; exact h5, of_decide_eq_true h6⟩
  · rcases h3 y hy with z | z
    · exact absurd e z
    · exact z
  · show X.env.scope.names.lookup y.1 = _ ∨ X.env.scope.names.lookup y.1 = _
    rw [hs]
    rcases h4 y hy with (z | z) | z
    · exact absurd e z
    · exact .inl z
    · exact .inr z
def lcCx (X : Cx) (scope : Scope) (NY : List Str) (s₀ : Shared) (H₀ : Hp) (C : Addr) (ex : List Addr) : Cx :=
  { X with N := NY, s₀ := s₀, H₀ := H₀, env := compEnvC scope (clos X.env scope.names) C X.env, outer := X.stack, ex := ex, fn := fun _ => false, pn := [], xe := fun _ _ => False }
def PTs (X : Cx) (cs : List Expr) (t : TT) : Prop :=
  ∀ (pins : List (Addr × Obj)) (s : Shared) (σ : St) (H : Hp) (Q : Bool → Hp → Prop), Inv X pins σ H s → t σ H Q →
    wpAny (model X.prog X.w) X.A (forIn cs true fun c r => if r = true then do let ok ← isTrue c X.env (eval c X.env); pure (ForInStep.yield ok) else pure (ForInStep.yield r)) (TP X pins σ Q) X.xe s
def tTrue : TT := fun _ H Q => Q true H
theorem pts_nil {X : Cx} : PTs X [] tTrue := fun _ _ _ H _ I h => wpAny_tests_nil ⟨H, I, h⟩
def SubSt (σ σ2 : St) : Prop := σ2.length = σ.length ∧ ∀ (j : Nat) (v : V), σ[j]? = some (some v) → σ2[j]? = some (some v)
def tLC (k : Nat) (wi : TI) (g : TG) (tc : TT) (te : TE) : TE := fun σ H Q => wi σ H fun J H1 => ∃ W : Nat → Nat → List V → Hp → Prop, (∃ m, W 0 m [] H1) ∧ ∀ i m ys H, W i m ys H → ys.length < sizeLine ∧
  ((J.stop i H ∧ ∀ D, H D = none → Q (.ref D) (upd H D (.lst ys))) ∨
   (J.go i H ∧ ∃ N : List V → Hp → Prop, (∀ ys' H', N ys' H' → ∃ m', m' < m ∧ W (i + 1) m' ys' H') ∧
     ∀ v H', J.yld i H v H' → g v (List.replicate k none ++ σ) H' fun σ2 H2 => SubSt (List.replicate k none ++ σ) σ2 ∧
       tc σ2 H2 fun b H3 => if b = true then te σ2 H3 fun y H4 => N (ys ++ [y]) H4 else N ys H3))
theorem thnF {α : Type} {t : Sem α} {Q Q' : α → Shared → Prop} {M : Model} {A : Around} {E : Value → Shared → Prop} {s : Shared} (h : wpAny M A t Q (fun _ _ => False) s) (hQ : ∀ a s, Q a s → Q' a s) : wpAny M A t Q' E s :=
  wpAny_mono h hQ fun _ _ z => False.elim z
section
variable {prog : Program} {w : World} {A : Around} {R : Result → Shared → Prop} {s : Shared}
theorem compLoop_own {elt tg iter : Expr} {ifs : List Expr} {scope : Scope} {pos : Pos} {it acc : Value} {env : Env} (W : Nat → Shared → Prop)
    (turn : ∀ n s, W n s → ∀ E', wpAny (model prog w) A (pyNext it) (fun r s1 => match r with
      | none => R (.ok .next) s1
      | some v => wpAny (model prog w) A (letOwnedTupleGo tg it v) (fun _ s2 => wpAny (model prog w) A (assign tg env v) (fun _ s3 =>
          wpAny (model prog w) A (forIn ifs true fun c r => if r = true then do let ok ← isTrue c env (eval c env); pure (ForInStep.yield ok) else pure (ForInStep.yield r)) (fun ok s4 =>
            if ok = true then wpAny (model prog w) A (eval elt env) (fun x s5 => wpAny (model prog w) A (call (.builtin "list.append") [acc, x]) (fun _ s6 => ∃ m, m < n ∧ W m s6) E' s5) E' s4
            else ∃ m, m < n ∧ W m s4) E' s3) E' s2) E' s1) E' s)
    (n : Nat) (h : W n s) : codeAny (model prog w) A (.compLoop (.ListComp elt [⟨tg, iter, ifs, 0⟩] scope pos) 0 it acc env) R s := by
  refine codeAny_loop rfl W (fun n s hW => ?_) n h
  show wpAny _ A ((compTurn (.ListComp elt [⟨tg, iter, ifs, 0⟩] scope pos) 0 it acc env).onRaise (fun x => do noteFrame x env; theTreesLotGoes x)) _ _ s
  refine wpAny_noted ?_
  rw [compTurn_list]
  refine wpAny_bind (wpAny_standAt (wpAny_bind (thn (turn n s hW _) fun r s1 h1 => ?_)))
  cases r with
  | none => exact wpAny_pure h1
  | some v =>
    refine wpAny_bind (thn h1 fun _ s2 h2 => wpAny_bind (thn h2 fun _ s3 h3 => wpAny_bind (thn h3 fun ok s4 h4 => ?_)))
    cases ok with
    | false => exact wpAny_pure ⟨rfl, h4⟩
    | true => exact wpAny_bind (wpAny_bind (thn h4 fun x s5 h5 => wpAny_bind (thn h5 fun _ s6 h6 => wpAny_pure (wpAny_pure ⟨rfl, h6⟩))))
end
section
variable {X : Cx} {pins : List (Addr × Obj)} {σ : St} {H2 : Hp} {s2 : Shared} {scope : Scope} {NY : List Str} {k : Nat} {C D : Addr} {fp : List Addr}
theorem lc_ok (I2 : Inv X pins σ H2 s2) (lc : LC X k scope NY) (hf : ∀ b ∈ fp, FpOk X pins H2 b) (hfl : ∀ b ∈ fp, b < s2.heap.objs.size) (hC : s2.heap.objs.size ≤ C) : (lcCx X scope NY s2 H2 C fp).Ok := by
  have hfree : ∀ x ∈ scope.names, x.2 = .free → ∃ c, X.env.cells.lookup x.1 = some c := fun x hx e => I2.ok.has x.1 (lc.free x hx e)
  have sub : ∀ x c, (clos X.env scope.names).lookup x = some c → X.env.cells.lookup x = some c := clos_sub scope.names [] hfree (fun y c e => by simp at e)
  refine ⟨I2.ok.mod, ?_, I2.ok.glob, I2.ok.blt, hC, fun x y c e1 e2 => I2.ok.inj x y c (sub x c e1) (sub y c e2), fun x hx => ?_, fun x c z => absurd z (by show ¬ (false = true); decide), I2.ok.hd, I2.ok.frames, .inl rfl, fun b hb => ⟨Nat.ne_of_lt (Nat.lt_of_lt_of_le (hfl b hb) hC), fun x c e => (hf b hb).2.2.2.2.1 x c (sub x c e)⟩,
    I2.bs, Nat.le_trans I2.ok.bsz I2.sz, fun b o e hb => ?_, fun b hb z => ?_, I2.stack, I2.stkFree⟩
  · show (relabel scope X.env).kind = .function
    exact lc.kind
  · have hx : (relabel scope X.env).names.lookup x = some .cell ∨ (relabel scope X.env).names.lookup x = some .free := hx
    have key : scope.names.lookup x = some .free := by
      rcases hx with hx | hx
      · rcases relabel_kind (scope := scope) hx with z | ⟨_, z⟩
        · exact absurd rfl (lc.cells _ (PySem.mem_of_lookup z))
        · exact z
      · rcases relabel_kind (scope := scope) hx with z | ⟨_, z⟩
        · exact z
        · exact z
    exact clos_some scope.names [] x (.inr (PySem.mem_of_lookup key))
  · have q : b ∈ X.ex ∨ X.s₀.heap.objs.size ≤ b := (hf b hb).2.2.2.1
    rcases q with q | q
    · exact I2.ok.noex b o e q
    · exact absurd (Nat.lt_of_lt_of_le (Heap.lt_size e) (Nat.le_trans I2.ok.bsz q)) (Nat.lt_irrefl _)
  · rcases List.mem_cons.mp (I2.stkSub b z) with e | e
    · exact (hf b hb).2.1 e
    · exact (hf b hb).2.2.1 e
theorem lc_start {h1 : Heap} {tk : Nat} {m : Str → Option Value} {oD : Obj} (I2 : Inv X pins σ H2 s2) (lc : LC X k scope NY) (hf : ∀ b ∈ fp, FpOk X pins H2 b) (hfl : ∀ b ∈ fp, b < s2.heap.objs.size) (hC : s2.heap.objs.size ≤ C) (hD : s2.heap.objs.size ≤ D) (hDC : D ≠ C)
    (old : ∀ b o, s2.heap.get? b = some o → h1.get? b = some o) (hn : h1.Ns C m) (ho : h1.get? D = some oD) (hoD : ∀ v, oD.data ≠ .cell v) :
    Inv (lcCx X scope NY s2 H2 C fp) [(D, oD)] (List.replicate k none ++ σ) H2 { s2 with heap := h1, toks := tk } := by
  have hfree : ∀ x ∈ scope.names, x.2 = .free → ∃ c, X.env.cells.lookup x.1 = some c := fun x hx e => I2.ok.has x.1 (lc.free x hx e)
  have sub : ∀ x c, (clos X.env scope.names).lookup x = some c → X.env.cells.lookup x = some c := clos_sub scope.names [] hfree (fun y c e => by simp at e)
  have hny := lc.ny
  unfold nyOk at hny
  simp only [Bool.and_eq_true, beq_iff_eq, List.all_eq_true, Bool.or_eq_true, bne_iff_ne, ne_eq] at hny
  obtain ⟨hlen, hz⟩ := hny
  refine ⟨lc_ok I2 lc hf hfl hC, rfl, I2.bare, Un.kept old, ⟨m, hn, fun i x v e1 e2 e3 => ?_⟩, fun x c e => ?_, I2.hok.fresh hC, fun x c e => I2.freeC x c (sub x c e), fun p hp => ?_, I2.hok.kept old, ?_⟩
  · have e1 : NY[i]? = some x := e1
    have hik : k ≤ i := by
      refine Nat.le_of_not_lt fun z => ?_
      rw [List.getElem?_append_left (by simpa using z), List.getElem?_replicate, if_pos z] at e2
      cases e2
    rw [List.getElem?_append_right (by simpa using hik), List.length_replicate] at e2
    have hi2 : i - k < X.N.length := by
      rw [← I2.len]; exact (List.getElem?_eq_some_iff.mp e2).1
    obtain ⟨y, ey⟩ : ∃ y, X.N[i - k]? = some y := ⟨_, List.getElem?_eq_getElem hi2⟩
    have em : (x, y) ∈ (NY.drop k).zip X.N := by
      refine List.mem_of_getElem? (i := i - k) ?_
      rw [List.getElem?_zip_eq_some]
      refine ⟨?_, ey⟩
      rw [List.getElem?_drop, show k + (i - k) = i by omega]; exact e1
    have e3 : Vis (relabel scope X.env) x := e3
    have kf : scope.names.lookup x = some .free := by
      have kk : ∃ q, scope.names.lookup x = some q := by
        rcases e3 with z | z | z <;> rcases relabel_kind (scope := scope) z with z | ⟨_, z⟩ <;> exact ⟨_, z⟩
      have zz := hz (x, y) em
      have nl : scope.names.lookup x ≠ some .local := by
        rcases zz with zz | zz
        · obtain ⟨q, hq⟩ := kk
          have zz : (scope.names.lookup x).isNone = true := zz
          rw [hq] at zz; cases zz
        · exact zz.2
      rcases e3 with z | z | z <;> rcases relabel_kind (scope := scope) z with z | ⟨_, z⟩
      · exact absurd z nl
      · exact z
      · exact absurd rfl (lc.cells _ (PySem.mem_of_lookup z))
      · exact z
      · exact z
      · exact z
    have exy : x = y := by
      rcases hz (x, y) em with zz | zz
      · have zz : (scope.names.lookup x).isNone = true := zz
        rw [kf] at zz; cases zz
      · exact zz.1
    subst exy
    obtain ⟨mX, hnX, hlX⟩ := I2.loc
    have hk := lc.free (x, .free) (PySem.mem_of_lookup kf) rfl
    have hk : X.env.kindOf x = some .cell ∨ X.env.kindOf x = some .free := hk
    obtain ⟨u, ru, lu⟩ := hlX (i - k) x v ey e2 (.inr hk)
    refine ⟨u, ru, ?_⟩
    rcases lu with ⟨z, _⟩ | ⟨_, c, hc, hcell⟩
    · rcases hk with q | q <;> rw [q] at z <;> cases z
    · obtain ⟨c', hc'⟩ := clos_some (env := X.env) scope.names [] x (.inr (PySem.mem_of_lookup kf))
      have : c' = c := by
        have q := sub x c' hc'
        rw [hc] at q; exact (Option.some.inj q).symm
      subst this
      refine .inr ⟨?_, c', hc', hcell.keeps old⟩
      show (relabel scope X.env).names.lookup x = some .cell ∨ (relabel scope X.env).names.lookup x = some .free
      rcases e3 with z | z
      · rcases relabel_kind (scope := scope) z with z | ⟨z, _⟩
        · rw [kf] at z; cases z
        · cases z
      · exact z
  · obtain ⟨v, z⟩ := I2.cell x c (sub x c e)
    exact ⟨v, z.keeps old⟩
  · have e : p = (D, oD) := by simpa [lcCx] using hp
    subst e
    refine ⟨ho, I2.hok.fresh hD, hDC, fun z => ?_, hoD⟩
    have z : D ∈ frs X.stack := z
    rcases List.mem_cons.mp (I2.stkSub D z) with q | q
    · exact absurd (Nat.lt_of_lt_of_le I2.lt hD) (by rw [q]; exact Nat.lt_irrefl _)
    · exact I2.nofs hD q
  · show (List.replicate k none ++ σ).length = NY.length
    rw [hlen, List.length_append, List.length_replicate, I2.len]
theorem lc_out {H4 : Hp} {s4 : Shared} {σ' : St} {ys : List V} {us : List Value} (I2 : Inv X pins σ H2 s2) (hf : ∀ b ∈ fp, FpOk X pins H2 b) (hC : s2.heap.objs.size ≤ C) (hD : s2.heap.objs.size ≤ D)
    (I4 : Inv (lcCx X scope NY s2 H2 C fp) [(D, LCg.lst us)] σ' H4 s4) (rv : Vals ys us) (hz : ys.length ≤ sizeLine) : Inv X pins σ (upd H4 D (.lst ys)) s4 := by
  obtain ⟨pD, nD, neD, nfD, dD⟩ := I4.pin (D, LCg.lst us) (by simp)
  have u0 : Un (frs X.stack) fp H2 H4 s2.heap s4.heap := I4.base
  have neb : ∀ b o, s2.heap.get? b = some o → b ≠ D := fun b o e => Nat.ne_of_lt (Nat.lt_of_lt_of_le (Heap.lt_size e) hD)
  have hok : HOk X.prog X.w (upd H4 D (.lst ys)) s4.heap := fun b u e => by
    by_cases hb : b = D
    · subst hb
      rw [upd_same] at e; cases e
      exact ⟨hz, us, us.length, rv, pD⟩
    · rw [upd_ne hb] at e
      exact (I4.hok b u e).stay (fun _ _ _ q => q) (fun c q => by rw [upd_ne (ne_of_none q nD)]; exact q) fun c xs q => by rw [upd_ne (ne_of_none q nD)]; exact q
  refine I2.call' (ch := fp) I4.os ⟨u0.keep, u0.slot, fun b o e n hx => ?_, u0.there, fun b xs q => ?_, fun b o u q => ?_, fun b ps q => ?_⟩ hok I4.bare fun b hb => ⟨(hf b hb).2.2.2.1, (hf b hb).2.1, (hf b hb).2.2.2.2.1, (hf b hb).2.2.2.2.2⟩
  · rw [upd_ne (neb b o e)]; exact u0.free b o e n hx
  · have z := u0.tups b xs q
    rw [upd_ne (ne_of_none z nD)]; exact z
  · have z := u0.frzs b o u q
    rw [upd_ne (ne_of_none z nD)]; exact z
  · obtain ⟨more, z⟩ := u0.tbls b ps q
    exact ⟨more, by rw [upd_ne (ne_of_none z nD)]; exact z⟩
end
theorem lc_run {X : Cx} {tg elt iter : Expr} {ifs : List Expr} {scope : Scope} {pos : Pos} {NY : List Str} {k : Nat} {g : TG} {tc : TT} {te : TE} (hc : X.calm = true) (lc : LC X k scope NY)
    (hb : ∀ (s₀ : Shared) (H₀ : Hp) (C : Addr) (ex : List Addr), NY.Nodup → PG (lcCx X scope NY s₀ H₀ C ex) tg g ∧ PTs (lcCx X scope NY s₀ H₀ C ex) ifs tc ∧ PE (lcCx X scope NY s₀ H₀ C ex) elt te)
    {pins : List (Addr × Obj)} {σ : St} {H2 : Hp} {s2 : Shared} {it : Addr} {fp : List Addr} {tn : Nat → Heap → Prop} {J : It} {RR : Value → Addr → Result → Shared → Prop} {E : Value → Shared → Prop} {Fin : List V → Hp → Prop}
    (I2 : Inv X pins σ H2 s2) (T : Turn X.prog X.w X.K tg J fp it tn) (st2 : tn 0 s2.heap) (f2 : ∀ b ∈ fp, FpOk X pins H2 b) {W : Nat → Nat → List V → Hp → Prop} {m0 : Nat} (w0 : W 0 m0 [] H2)
    (turn : ∀ i m ys H, W i m ys H → ys.length < sizeLine ∧ ((J.stop i H ∧ Fin ys H) ∨ (J.go i H ∧ ∃ N : List V → Hp → Prop, (∀ ys' H', N ys' H' → ∃ m', m' < m ∧ W (i + 1) m' ys' H') ∧
      ∀ v H', J.yld i H v H' → g v (List.replicate k none ++ σ) H' fun σ2 H2 => SubSt (List.replicate k none ++ σ) σ2 ∧ tc σ2 H2 fun b H3 => if b = true then te σ2 H3 fun y H4 => N (ys ++ [y]) H4 else N ys H3)))
    (fin : ∀ (C D : Addr) (H4 : Hp) (s4 : Shared) (ys : List V) (m : Str → Option Value), s2.heap.objs.size ≤ C → H4 D = none → H4 C = none → D ≠ C → s4.heap.Ns C m → Inv X pins σ (upd H4 D (.lst ys)) s4 → Fin ys H4 → RR (.ref D) C (.ok .next) s4) :
    wpAny (model X.prog X.w) X.A (newList []) (fun acc s3 => wpAny (model X.prog X.w) X.A (newFunctionEnv scope X.env.globals (clos X.env scope.names) [] X.env.qual none .none (some X.env)) (fun cenv s4 =>
      codeAny (model X.prog X.w) X.A (.compStart (.ListComp elt [⟨tg, iter, ifs, 0⟩] scope pos) 0 (.ref it) acc { cenv with scope := relabel scope X.env }) (RR acc cenv.locals) s4) E s3) E s2 := by
  refine wpAny_newObj_type (wpAny_newFunctionEnv lc.cells (by intro y hy; simp at hy) (fun h1 hns1 hsb1 => ?_) lc.kind)
  dsimp only at hns1 hsb1 ⊢
  generalize hG : s2.heap.push { cls := .type "list", dict := none, data := .seq ([] : List Value).toArray } = G at hns1 hsb1 ⊢
  have hC : G.objs.size = s2.heap.objs.size + 1 := by rw [← hG, Heap.size_push]
  have hCle : s2.heap.objs.size ≤ G.objs.size := by omega
  have hDC : s2.heap.objs.size ≠ G.objs.size := by omega
  have hfl : ∀ b ∈ fp, b < s2.heap.objs.size := fun b hb => by obtain ⟨o, e, _⟩ := T.obj 0 _ st2 b hb; exact Heap.lt_size e
  have old : ∀ b o, s2.heap.get? b = some o → h1.get? b = some o := fun b o e => by
    have lt := Heap.lt_size e
    refine hsb1.extBut b o (Nat.ne_of_lt (Nat.lt_of_lt_of_le lt hCle)) (Heap.get?_push_of_some _ ?_)
    rw [← hG]; exact Heap.get?_push_of_some _ e
  have hacc : h1.get? s2.heap.objs.size = some (LCg.lst []) := by
    refine hsb1.extBut _ _ hDC (Heap.get?_push_of_some _ ?_)
    rw [← hG]; exact Heap.get?_push_size _ rfl
  have dl : ∀ (us : List Value) v, (LCg.lst us).data ≠ .cell v := fun us v z => by
    have z' : Data.seq us.toArray us.length = Data.cell v := z
    cases z'
  have I3 := lc_start (h1 := h1) (tk := s2.toks + ([] : List (Str × Value)).length) I2 lc f2 hfl hCle (Nat.le_refl _) hDC old hns1 hacc (dl [])
  have fpY : ∀ {us : List Value} {H' : Hp}, (∀ b ∈ fp, H' b = none) → ∀ b ∈ fp, FpOk (lcCx X scope NY s2 H2 G.objs.size fp) [(s2.heap.objs.size, LCg.lst us)] H' b := fun {us H'} hn b hb => by
    have lt := hfl b hb
    have okY := I3.ok
    refine ⟨hn b hb, (okY.exf b hb).1, okY.exfs b hb, .inl hb, (okY.exf b hb).2, fun p hp => ?_⟩
    have e : p = (s2.heap.objs.size, LCg.lst us) := by simpa [lcCx] using hp
    subst e
    exact Nat.ne_of_gt lt
  obtain ⟨hg, ht, he⟩ := hb s2 H2 G.objs.size fp lc.nd
  have loop : ∀ s3 : Shared, s3 = { s2 with heap := h1, toks := s2.toks + ([] : List (Str × Value)).length } →
      codeAny (model X.prog X.w) X.A (.compLoop (.ListComp elt [⟨tg, iter, ifs, 0⟩] scope pos) 0 (.ref it) (.ref s2.heap.objs.size) (compEnvC scope (clos X.env scope.names) G.objs.size X.env)) (RR (.ref s2.heap.objs.size) G.objs.size) s3 := by
    rintro s3 rfl
    refine compLoop_own (fun n s' => ∃ i H' ys us, Inv (lcCx X scope NY s2 H2 G.objs.size fp) [(s2.heap.objs.size, LCg.lst us)] (List.replicate k none ++ σ) H' s' ∧ Vals ys us ∧ tn i s'.heap ∧ (∀ b ∈ fp, H' b = none) ∧ W i n ys H') ?_ m0
      ⟨0, H2, [], [], I3, .nil, T.keep _ _ _ st2 fun b _ o e => old b o e, fun b hb => (f2 b hb).1, w0⟩
    rintro n s3 ⟨i, H3, ys, us, I3, rv, st3, fr3, w3⟩ E'
    obtain ⟨hsz, hturn⟩ := turn i n ys H3 w3
    rcases hturn with ⟨stop, qn⟩ | ⟨go, N, hN, step⟩
    · refine thn (T.done (lcCx X scope NY s2 H2 G.objs.size fp) rfl rfl rfl hc i _ s3 _ H3 E' I3 (fpY fr3) st3 stop) fun r s4 ⟨hr, I4⟩ => ?_
      subst hr
      obtain ⟨m4, hn4, _⟩ := I4.loc
      exact fin _ _ H3 s4 ys m4 hCle (I4.pin (s2.heap.objs.size, LCg.lst us) (by simp)).2.1 I4.free hDC hn4 (lc_out I2 f2 hCle (Nat.le_refl _) I4 rv (Nat.le_of_lt hsz)) qn
    · refine thn (T.item (lcCx X scope NY s2 H2 G.objs.size fp) rfl rfl rfl hc i _ s3 _ H3 E' I3 (fpY fr3) st3 go) fun r s4 ⟨u, hr, h4⟩ => ?_
      subst hr
      refine thn h4 fun _ s5 ⟨x, H5, I5, r5, y5, st5, fr5⟩ => ?_
      have I5' := I5.pinned (fpY fr5) (T.obj _ _ st5)
      refine thnF (hg _ s5 _ H5 x u _ I5' r5 (step x H5 y5)) fun _ s6 ⟨σ6, H6, I6, sub6, q6⟩ => ?_
      have keep : ∀ {σ7 : St} {H7 : Hp} {s7 : Shared}, Inv (lcCx X scope NY s2 H2 G.objs.size fp) ([(s2.heap.objs.size, LCg.lst us)] ++ pinsAt fp s5.heap) σ7 H7 s7 → tn (i + 1) s7.heap ∧ (∀ b ∈ fp, H7 b = none) := fun {σ7 H7 s7} I7 => by
        refine ⟨T.keep _ _ _ st5 fun b hb o e => (I7.pin (b, o) (List.mem_append_right _ (List.mem_append_right _ (mem_pinsAt hb e)))).1, fun b hb => ?_⟩
        obtain ⟨o, e, d⟩ := T.obj _ _ st5 b hb
        exact (I7.pin (b, o) (List.mem_append_right _ (List.mem_append_right _ (mem_pinsAt hb e)))).2.1
      refine thnF (ht _ s6 σ6 H6 _ I6 q6) fun ok s7 ⟨H7, I7, q7⟩ => ?_
      cases ok with
      | false =>
        rw [if_neg Bool.false_ne_true] at q7 ⊢
        obtain ⟨m', hm, w7⟩ := hN _ _ q7
        obtain ⟨k1, k2⟩ := keep I7
        exact ⟨m', hm, i + 1, H7, ys, us, (I7.weak (by rw [I7.len, I5.len]) sub6.2).unpinned, rv, k1, k2, w7⟩
      | true =>
        rw [if_pos rfl] at q7 ⊢
        refine thnF (he _ s7 σ6 H7 _ I7 q7) fun y s8 ⟨v, H8, I8, r8, q8⟩ => ?_
        obtain ⟨m', hm, w8⟩ := hN _ _ q8
        obtain ⟨k1, k2⟩ := keep I8
        obtain ⟨pD, nD, neD, nfD, dD⟩ := I8.pin (s2.heap.objs.size, LCg.lst us) (by simp)
        have hul : us.toArray.size ≤ sizeLine := by rw [List.size_toArray, ← rv.length]; exact Nat.le_of_lt hsz
        refine append_at pD (fun h9 sb9 hD9 => ?_) hul
        have I8' : Inv (lcCx X scope NY s2 H2 G.objs.size fp) [] (List.replicate k none ++ σ) H8 s8 := (I8.weak (by rw [I8.len, I5.len]) sub6.2).pins_of fun p hp => absurd hp (by simp)
        have hDfp : s2.heap.objs.size ∉ fp := fun z => Nat.lt_irrefl _ (hfl _ z)
        have I9 : Inv (lcCx X scope NY s2 H2 G.objs.size fp) [] (List.replicate k none ++ σ) H8 { s8 with heap := h9 } :=
          I8'.turned (t' := s8.toks) (it := s2.heap.objs.size) (fun b o hb e => (sb9.2 b hb).trans e) nD neD (.inr (Nat.le_refl _)) (fun x c e z => by
            obtain ⟨v', o', e1, e2⟩ := I8.cell x c e
            rw [z, pD] at e1
            have e1' : LCg.lst us = o' := Option.some.inj e1
            rw [← e1'] at e2
            exact dl us v' e2) (fun p hp => absurd hp (by simp [lcCx]))
        refine ⟨m', hm, i + 1, H8, ys ++ [v], us ++ [y], I9.pins_of fun p hp => ?_, rv.append (.cons r8 .nil), T.keep _ _ _ k1 fun b hb o e => (sb9.2 b fun z => hDfp (z ▸ hb)).trans e, k2, w8⟩
        have e : p = (s2.heap.objs.size, LCg.lst (us ++ [y])) := by simpa using hp
        subst e
        exact ⟨hD9.trans (congrArg some (LCg.lst_snoc us y)), nD, neD, nfD, dl _⟩
  exact codeAny_compStart_list (loop _ rfl) (T.self _ 0 _ _ _ (T.keep _ _ _ st2 fun b _ o e => old b o e) (loop _ rfl))
section
variable {X : Cx} {tg elt iter : Expr} {ifs : List Expr} {scope : Scope} {pos : Pos} {NY : List Str} {k : Nat} {wi : TI} {g : TG} {tc : TT} {te : TE}
theorem pe_lc (hc : X.calm = true) (lc : LC X k scope NY) (hi : PI X tg iter wi)
    (hb : ∀ (s₀ : Shared) (H₀ : Hp) (C : Addr) (ex : List Addr), NY.Nodup → PG (lcCx X scope NY s₀ H₀ C ex) tg g ∧ PTs (lcCx X scope NY s₀ H₀ C ex) ifs tc ∧ PE (lcCx X scope NY s₀ H₀ C ex) elt te)
    (hs : ∀ x, foldedSetIterable iter X.env x = pure x := by intro _; rfl) : PE X (.ListComp elt [⟨tg, iter, ifs, 0⟩] scope pos) (tLC k wi g tc te) := by
  intro pins s σ H Q I h
  rw [eval_ListComp]
  refine wpAny_comprehension_free (use := none) rfl hs (clos_eq fun x hx e => I.ok.has x.1 (lc.free x hx e)) lc.kind lc.names (thn (hi pins s σ H _ I h) fun v s1 h1 => thn h1 fun itv s2 h2 => ?_)
  obtain ⟨it, fp, tn, J, H2, e, I2, T, st2, f2, W, ⟨m0, w0⟩, turn⟩ := h2
  subst e
  refine lc_run (RR := fun acc C => compPost (model X.prog X.w) X.A X.xe none (EP X pins σ Q) acc C) hc lc hb I2 T st2 f2 w0 turn fun C D H4 s4 ys m hC nD nC hDC hn I4 q => ?_
  refine ⟨m, hn, fun h' sb => ?_⟩
  have hCn : upd H4 D (.lst ys) C = none := by rw [upd_ne (Ne.symm hDC)]; exact nC
  obtain ⟨f0, f1, f2', f3, f4, f5⟩ := I2.fpOk (H' := upd H4 D (.lst ys)) hC hCn
  exact ⟨.ref D, _, I4.turned (t' := s4.toks) (fun b o hb e => (sb.2 b hb).trans e) f0 f1 f3 f4 f5, rfl, q D nD⟩
end
end L2
end
section
set_option Elab.async false
set_option linter.all false
set_option maxRecDepth 100000
namespace L2
open PySem PySem.Spec PyProof.Rows
def Sm (i : Int) : Prop := i.natAbs < 2 ^ 4000
theorem log2_lt_of {n k : Nat} (hk : 0 < k) (h : n < 2 ^ k) : n.log2 < k := by
  rcases Nat.eq_zero_or_pos n with h0 | hp
  · rw [h0]; simpa using hk
  · exact (Nat.log2_lt (Nat.ne_of_gt hp)).mpr h
section
variable {X : Cx}
def gLst (K : PySem.W.Frag) (n : Nat) (t : TGs) : TG := fun v σ H Q => ∃ a xs, v = .ref a ∧ SqL K H a xs ∧ xs.length = n ∧ t xs σ H Q
theorem pg_lst {es : List Expr} {k : Nat} {t : TGs} {n : Nat} {pos : Pos} (hc : X.calm = true) (h : PGs X es t)
    (hn : (assignEach es X.env).length = n := by rfl) (hst : (assignEach es X.env).findIdx? (·.1) = none := by rfl) : PG X (.Tuple es k pos) (gLst X.K n t) := by
  intro pins s σ H v u Q I r hw
  obtain ⟨a, xs, e1, hq, hl, hw⟩ := hw
  subst e1
  cases r
  obtain ⟨its, rv, pl, hz⟩ := I.list hq
  have hsz : (assignEach es X.env).length = its.toArray.size := by simp [hn, ← hl, rv.length]
  rw [assign_Tuple]
  refine wpAny_bind (wpAny_standAt ?_)
  unfold unpack
  rw [hsz, hst]
  refine wpAny_bind (wpAny_holding (PySem.W.kun_itemsOf (I.ok.hd hc) pl.isList fun h' hx => ?_))
  have I1 : Inv X pins σ H { s with heap := h' } := I.kept (t' := s.toks) fun b o e => hx b o (Nat.ne_of_lt (Heap.lt_size e)) e
  exact h pins _ σ H xs _ Q I1 (by simpa using rv) hw
end
end L2
end
section
set_option Elab.async false
set_option linter.all false
set_option maxRecDepth 100000
namespace L2
open PySem PySem.Spec PyProof.Rows
theorem same_new {H : Hp} {p : Addr} (h : H p = none) (o : HO) : Same H (upd H p o) := fun b u q => by rw [upd_ne (ne_of_none q h)]; exact q
theorem Same.tup {K : PySem.W.Frag} {H H' : Hp} {a : Addr} {xs : List V} (e : Same H H') (h : SqT K H a xs) : SqT K H' a xs := by
  rcases h with (h | ⟨o, h⟩) | h
  · exact .inl (.inl (e _ _ h))
  · exact .inl (.inr ⟨o, e _ _ h⟩)
  · exact .inr h
theorem small {n : Nat} (h : n ≤ 1000) : n ≤ sizeLine := Nat.le_of_lt (small1000 h)
section
variable {K : PySem.W.Frag} {a : Addr} {xs : List V} {H : Hp}
theorem lgo (h : SqL K H a xs) : (Itl K a).stop xs.length H ∧ ∀ i, i < xs.length → (Itl K a).go i H ∧ ∀ v H', (Itl K a).yld i H v H' → H' = H ∧ xs[i]? = some v :=
  ⟨⟨xs, h, Nat.le_refl _⟩, fun i hi => ⟨⟨xs, xs[i], h, by simp [hi]⟩, fun v H' y => ⟨y.1, y.2 xs h⟩⟩⟩
theorem tgo (h : SqT K H a xs) : (Itt K a).stop xs.length H ∧ ∀ i, i < xs.length → (Itt K a).go i H ∧ ∀ v H', (Itt K a).yld i H v H' → H' = H ∧ xs[i]? = some v :=
  ⟨⟨xs, h, Nat.le_refl _⟩, fun i hi => ⟨⟨xs, xs[i], h, by simp [hi]⟩, fun v H' y => ⟨y.1, y.2 xs h⟩⟩⟩
end
end L2
end
section
set_option Elab.async false
set_option linter.all false
set_option maxRecDepth 100000
namespace L2
open PySem PySem.Spec PyProof.Rows
structure Fly (B : Heap) (l : List Env) (x : Addr) (cls : Value) (dct : Option Addr) (fl : Value) (h : Heap) : Prop where
  stays : B.StaysIn h
  new : B.get? x = none
  frames : h.FunFrames B l
  obj : ∃ ox vs T oT ts, h.get? x = some ox ∧ ox.cls = cls ∧ ox.dict = dct ∧ ox.data = .fields vs ∧ vs[1]? = some (.ref T) ∧ B.get? T = none ∧ T ≠ x ∧ h.get? T = some oT ∧ oT.data = .fields ts ∧ ts[3]? = some fl
theorem dict_mapF (o : Obj) (f : Array Value → Array Value) : (o.mapFields f).dict = o.dict := by
  obtain ⟨c, d, dt, sl⟩ := o; cases dt <;> rfl
section
variable {M : Model} {A : Around} {E : Value → Shared → Prop} {s : Shared} {B : Heap} {env : Env} {outer : List Env} {L x : Addr} {Q : Unit → Shared → Prop}
theorem other_rec {h : Heap} {y : Addr} {oy : Obj} {ws : Array Value} (ey : h.get? y = some oy) (dy : oy.data = .fields ws) {b : Addr} {o : Obj} (eb : h.get? b = some o) (nf : ∀ us, o.data ≠ .fields us) : b ≠ y := fun z => by
  rw [z, ey] at eb
  have z' : oy = o := Option.some.inj eb
  rw [← z'] at nf
  exact nf ws dy
theorem fly_entry {ox : Obj} {vs : Array Value} {head : Value} {hadNext : Bool} (hfr : A.frames = some (env :: outer)) (hl : s.heap.FunFrames B (env :: outer)) (hf : env.frame = some L)
    (ex : s.heap.get? x = some ox) (hB : B.StaysIn s.heap) (nx : B.get? x = none) (dx : ox.data = .fields vs) (sz : 1 < vs.size)
    (k : ∀ h', Fly B (env :: outer) x ox.cls ox.dict (rawInt L) h' → s.heap.UpToSlots h' → Q () { s with heap := h' }) :
    wpAny M A (do let a ← frameOf env; let pl ← entryPlaceOf L hadNext; let b ← EntryCells.newEntry head a .none (rawInt L) .none pl; setField (.ref x) 1 b) Q E s := by
  have nfr : x ∉ (env :: outer).filterMap (·.frame) := fun hm => by
    obtain ⟨_, o, ho, nf⟩ := hl.mem hm
    exact other_rec ex dx ho nf rfl
  refine wpAny_bind (wpAny_frameOf_fun hfr hl hf fun g1 so => wpAny_bind (wpAny_entryPlaceOf fun pl hpl => ?_))
  unfold EntryCells.newEntry newFields
  refine wpAny_bind (wpAny_newObj_type ?_ (hpl.sizeOk5 _ _ _ _ _))
  have ex1 : g1.get? x = some ox := (so.2.1 x nfr).trans ex
  have B1 : B.StaysIn g1 := fun b o eb => (so.2.1 b fun hm => by rw [(hl.mem hm).1] at eb; cases eb).trans (hB b o eb)
  generalize eo : ({ cls := .type "traceback", dict := none, data := .fields ([head, .ref L, .none, rawInt L, .none] ++ (if pl.isEmpty then List.replicate 6 Value.none else pl)).toArray } : Obj) = ob
  have ex2 := Heap.get?_push_of_some (h := g1) ob ex1
  refine wpAny_setField ex2 dx sz (k _ ?_ ?_)
  · have Tx : g1.objs.size ≠ x := Nat.ne_of_gt (Heap.lt_size ex1)
    have d3 := Obj.data_mapFields dx (·.setIfInBounds 1 (Value.ref g1.objs.size))
    have e3 := Heap.get?_update_self (Obj.mapFields (·.setIfInBounds 1 (Value.ref g1.objs.size))) ex2 (Obj.isFreed_of_fields d3)
    have freeOb : ob.isFreed = false := by rw [← eo]; rfl
    have T3 := (Heap.get?_update_other (g1.push ob) (Obj.mapFields (·.setIfInBounds 1 (Value.ref g1.objs.size))) (Ne.symm Tx)).trans (Heap.get?_push_size g1 freeOb)
    refine ⟨fun b o eb => ?_, nx, hl.of_keeps fun b o eb nf => ?_, _, _, g1.objs.size, ob, _, e3, Obj.cls_mapFields _ _, dict_mapF _ _, d3, by simp [sz], B1.fresh, Tx, T3, by rw [← eo], ?_⟩
    · rw [Heap.get?_update_other _ _ (fun z => by rw [← z, nx] at eb; cases eb)]
      exact Heap.get?_push_of_some _ (B1 b o eb)
    · obtain ⟨sl, q⟩ := so.2.2 b o eb
      refine ⟨{ o with slots := sl }, ?_, rfl⟩
      rw [Heap.get?_update_other _ _ (Ne.symm (other_rec ex dx eb nf))]
      exact Heap.get?_push_of_some _ q
    · rcases hpl with rfl | ⟨_, _, _, _, _, _, _, rfl⟩ <;> simp
  · intro b o eb nf
    obtain ⟨sl, q⟩ := so.2.2 b o eb
    refine ⟨sl, ?_⟩
    rw [Heap.get?_update_other _ _ (Ne.symm (other_rec ex dx eb nf))]
    exact Heap.get?_push_of_some _ q
theorem fly_first {ox : Obj} {vs : Array Value} (hfr : A.frames = some (env :: outer)) (hl : s.heap.FunFrames B (env :: outer)) (hf : env.frame = some L)
    (ex : s.heap.get? x = some ox) (hB : B.StaysIn s.heap) (nx : B.get? x = none) (dx : ox.data = .fields vs) (v1 : vs[1]? = some .none)
    (k : ∀ h', Fly B (env :: outer) x ox.cls ox.dict (rawInt L) h' → s.heap.UpToSlots h' → Q () { s with heap := h' }) : wpAny M A (noteFrame (.ref x) env) Q E s := by
  unfold noteFrame
  simp only [hf]
  refine wpAny_bind (wpAny_field ex dx v1 ?_)
  rw [if_neg (show ¬ ((Value.none != Value.none) = true) by decide)]
  exact fly_entry hfr hl hf ex hB nx dx (Array.getElem?_eq_some_iff.mp v1).1 k
theorem fly_next {cls : Value} {dct : Option Addr} (hfr : A.frames = some (env :: outer)) (hf : env.frame = some L) (F : Fly B (env :: outer) x cls dct .none s.heap)
    (k : ∀ h', Fly B (env :: outer) x cls dct (rawInt L) h' → s.heap.UpToSlots h' → Q () { s with heap := h' }) : wpAny M A (noteFrame (.ref x) env) Q E s := by
  obtain ⟨ox, vs, T, oT, ts, ex, hc, hd, dx, v1, nT, Tx, eT, dT, t3⟩ := F.obj
  subst hc hd
  unfold noteFrame
  simp only [hf]
  refine wpAny_bind (wpAny_field ex dx v1 ?_)
  rw [if_pos (show (Value.ref T != Value.none) = true by simp)]
  refine wpAny_bind (wpAny_field eT dT t3 ?_)
  rw [if_neg (show ¬ ((Value.none == rawInt L) = true) by simp [rawInt])]
  refine wpAny_bind (wpAny_setField eT dT (Array.getElem?_eq_some_iff.mp t3).1 ?_)
  have oth : ∀ b, b ≠ T → (s.heap.update T (Obj.mapFields (·.setIfInBounds 3 Value.none))).get? b = s.heap.get? b := fun b hb => Heap.get?_update_other _ _ (Ne.symm hb)
  have up : s.heap.UpToSlots (s.heap.update T (Obj.mapFields (·.setIfInBounds 3 Value.none))) := fun b o eb nf => ⟨o.slots, (oth b (other_rec eT dT eb nf)).trans eb⟩
  refine fly_entry hfr (F.frames.of_keeps fun b o eb nf => ⟨o, (oth b (other_rec eT dT eb nf)).trans eb, rfl⟩) hf ((oth x (Ne.symm Tx)).trans ex) (fun b o eb => (oth b fun z => by rw [z, nT] at eb; cases eb).trans (F.stays b o eb)) F.new dx
    (Array.getElem?_eq_some_iff.mp v1).1 fun h' f u => k h' f (up.trans u)
theorem fly_land {l : List Env} {cls fl : Value} {dct : Option Addr} (F : Fly B l x cls dct fl s.heap)
    (k : ∀ h', Fly B l x cls dct .none h' → s.heap.UpToSlots h' → Q () { s with heap := h' }) : wpAny M A (setFlight (.ref x) none) Q E s := by
  obtain ⟨ox, vs, T, oT, ts, ex, hc, hd, dx, v1, nT, Tx, eT, dT, t3⟩ := F.obj
  have sz : 3 < ts.size := (Array.getElem?_eq_some_iff.mp t3).1
  unfold setFlight
  refine wpAny_bind (wpAny_field ex dx v1 ?_)
  rw [if_pos (show (Value.ref T != Value.none) = true by simp)]
  have oth : ∀ b, b ≠ T → (s.heap.update T (Obj.mapFields (·.setIfInBounds 3 ((none : Option Addr).elim Value.none fun f => rawInt f)))).get? b = s.heap.get? b := fun b hb => Heap.get?_update_other _ _ (Ne.symm hb)
  refine wpAny_setField eT dT sz (k _ ⟨fun b o eb => (oth b fun z => by rw [z, nT] at eb; cases eb).trans (F.stays b o eb), F.new, F.frames.of_keeps fun b o eb nf => ⟨o, (oth b (other_rec eT dT eb nf)).trans eb, rfl⟩,
    ox, vs, T, _, _, (oth x (Ne.symm Tx)).trans ex, hc, hd, dx, v1, nT, Tx, Heap.get?_update_self _ eT (Obj.isFreed_of_fields (Obj.data_mapFields dT _)), Obj.data_mapFields dT _, by simp [sz]⟩
    fun b o eb nf => ⟨o.slots, (oth b (other_rec eT dT eb nf)).trans eb⟩)
theorem Fly.out {cls : Value} {dct : Option Addr} {fl : Value} {h : Heap} (F : Fly B (env :: outer) x cls dct fl h) : Fly B outer x cls dct fl h := ⟨F.stays, F.new, F.frames.2.2, F.obj⟩
end
end L2
end
section
set_option Elab.async false
set_option linter.all false
set_option maxRecDepth 100000
namespace L2
open PySem PySem.Spec PyProof.Rows
theorem ObjOk.there {P : Program} {w : World} {H : Hp} {h : Heap} {a : Addr} {o : HO} (x : ObjOk P w H h a o) : ∃ ob, h.get? a = some ob := by
  cases o with
  | lst xs => obtain ⟨_, _, _, _, e⟩ := x; exact ⟨_, e⟩
  | tup xs => obtain ⟨_, _, _, ob, e, _⟩ := x; exact ⟨ob, e⟩
  | dK kvs => obtain ⟨_, _, _, _, o, _, _, e, _⟩ := x; exact ⟨o, e⟩
  | dT kvs => obtain ⟨_, _, _, _, o, _, _, e, _⟩ := x; exact ⟨o, e⟩
  | set S n => obtain ⟨o, _, _, _, e, _⟩ := x; exact ⟨o, e⟩
  | ins C dx fs => obtain ⟨_, _, _, e, _⟩ := x; exact ⟨_, e⟩
  | own y => exact x
  | xd fs => obtain ⟨_, ⟨o, _, _, e, _⟩, _⟩ := x; exact ⟨o, e⟩
  | rng lo hi => obtain ⟨_, _, _, e⟩ := x; exact ⟨_, e⟩
  | frz ob u => obtain ⟨e, _⟩ := x; exact ⟨_, e⟩
  | tbl ps => exact ⟨_, (show h.get? a = some _ from x)⟩
  | met f y => exact ⟨_, (show h.get? a = some _ from x)⟩
  | ext φ => exact x.2.1
structure InB (B : Heap) (fs : List Addr) (h0 : Heap) (H' : Hp) (h' : Heap) : Prop where
  old : ∀ b o, h0.get? b = some o → b ∉ fs → ∀ o', h'.get? b = some o' → B.get? b = some o'
  trk : ∀ b u, H' b = some u → ∀ o', h'.get? b = some o' → B.get? b = some o'
def CXe (P : Program) (w : World) : CXT := fun outer H s E e s' => ∃ (x C : Addr) (dct : Option Addr) (H' : Hp) (B : Heap), e = .ref x ∧ s'.os = s.os ∧ AllBare s'.gens ∧ Un (frs outer) [] H H' s.heap s'.heap ∧ HOk P w H' s'.heap ∧
  Fly B outer x (.ref C) dct .none s'.heap ∧ InB B (frs outer) s.heap H' s'.heap ∧ H' x = none ∧ E (.ref C) dct H'
section
variable {X : Cx} {pins : List (Addr × Obj)} {σ : St} {H H' : Hp} {s s' : Shared} {x C : Addr} {B : Heap} {E : XK} {dct : Option Addr} {M : Model} {EE : Value → Shared → Prop}
theorem frs_cons {env : Env} {outer : List Env} {L : Addr} (hf : env.frame = some L) : frs (env :: outer) = L :: frs outer := by
  unfold frs; rw [List.filterMap_cons, hf]
theorem leave_made {h' : Heap} {args : List Value} {tk : Nat} (I : Inv X pins σ H s) (hst : X.stack = X.env :: X.outer) (hf : X.env.frame = some X.env.locals) (hex : X.ex = []) (m : Heap.MadeExcOf s.heap h' x (.ref C) args) (hE : E (.ref C) none H) :
    wpAny M X.A (leaving X.env (.ref x)) (fun _ s2 => CXe X.prog X.w X.outer X.H₀ X.s₀ E (.ref x) s2) EE { s with heap := h', toks := tk } := by
  have stk := I.stack
  have hfr : X.A.frames = some (X.env :: X.outer) := by rw [← hst]; exact I.ok.frames
  rw [hst] at stk
  have fc : frs (X.env :: X.outer) = X.env.locals :: X.fs := frs_cons hf
  have hin : ∀ env ∈ (X.env :: X.outer), ∀ b, env.frame = some b → b ∈ frs (X.env :: X.outer) := fun env he b hb => List.mem_filterMap.mpr ⟨env, he, hb⟩
  generalize eB : PySem.W.hideAll s.heap (frs (X.env :: X.outer)) = B
  have inB : ∀ b o, s.heap.get? b = some o → b ∉ frs (X.env :: X.outer) → B.get? b = some o := fun b o e n => by rw [← eB]; exact PySem.W.hideAll_get _ e n
  have ofB : ∀ b o, B.get? b = some o → s.heap.get? b = some o := fun b o e => by rw [← eB] at e; exact PySem.W.of_hideAll _ e
  have fl0 : s.heap.FunFrames B (X.env :: X.outer) := by rw [← eB]; exact PySem.W.funFrames_hide stk hin
  have nx : B.get? x = none := by
    cases q : B.get? x with
    | none => rfl
    | some o => have := ofB x o q; rw [m.new] at this; cases this
  obtain ⟨t, et, _, _⟩ := m.there
  have tfree : ∀ b u, H b = some u → b ∉ frs (X.env :: X.outer) := fun b u e hb => by
    have := I.stkFree b (by rw [hst]; exact hb)
    rw [e] at this; cases this
  have hHx : H x = none := by
    cases q : H x with
    | none => rfl
    | some u =>
      obtain ⟨ob, e⟩ := (I.hok x u q).there
      rw [m.new] at e; cases e
  unfold leaving
  refine wpAny_bind (fly_first (s := { s with heap := h', toks := tk }) hfr (fl0.of_keeps fun b o e _ => ⟨o, m.keeps b o e, rfl⟩) hf et (fun b o e => m.keeps b o (ofB b o e)) nx rfl rfl fun h1 F1 u1 => fly_land F1 fun h2 F2 u2 => ?_)
  have up : s.heap.UpToSlots h2 := (Heap.UpToSlots.of_keeps m.keeps).trans (u1.trans u2)
  have keep2 : ∀ b o, s.heap.get? b = some o → b ∉ frs (X.env :: X.outer) → h2.get? b = some o := fun b o e n => F2.stays b o (inB b o e n)
  have below : ∀ b o, X.s₀.heap.get? b = some o → b ∉ X.fs → b ∉ frs (X.env :: X.outer) := fun b o e nb hb => by
    rw [fc] at hb
    rcases List.mem_cons.mp hb with z | z
    · exact absurd (Nat.lt_of_lt_of_le (Heap.lt_size e) I.ok.above) (by rw [z]; exact Nat.lt_irrefl _)
    · exact nb z
  have noex : ∀ b, b ∉ X.ex := fun b z => by rw [hex] at z; cases z
  have slot2 : ∀ b o, s.heap.get? b = some o → b ∈ X.fs → ∃ sl, h2.get? b = some { o with slots := sl } := fun b o e hb => by
    obtain ⟨_, o1, e1, nf⟩ := stk.mem (b := b) (by show b ∈ frs (X.env :: X.outer); rw [fc]; exact List.mem_cons_of_mem _ hb)
    rw [e] at e1; cases e1
    exact up b o e nf
  refine ⟨x, C, none, H, B, rfl, I.os, I.bare, ⟨fun b o e n hb _ => keep2 b o (I.base.keep b o e n hb (noex b)) (below b o e hb), fun b o e n hb _ => ?_, fun b o e n _ => I.base.free b o e n (noex b), fun b o e _ => ?_, I.base.tups, I.base.frzs, I.base.tbls⟩,
    fun b u e => (I.hok b u e).stay (fun c v hc q => keep2 c v q ?_) (fun _ q => q) fun _ _ q => q, F2.out, ⟨fun b o e nb o' e' => ?_, fun b u e o' e' => ?_⟩, hHx, hE⟩
  · obtain ⟨sl, e1⟩ := I.base.slot b o e n hb (noex b)
    obtain ⟨sl2, e2⟩ := slot2 b _ e1 hb
    exact ⟨sl2, e2⟩
  · obtain ⟨o1, e1⟩ := I.base.there b o e (noex b)
    by_cases hb : b ∈ X.fs
    · obtain ⟨sl2, e2⟩ := slot2 b _ e1 hb
      exact ⟨_, e2⟩
    · exact ⟨o1, keep2 b o1 e1 (below b o e hb)⟩
  · rcases hc with z | z
    · rw [z]; exact tfree b u e
    · exact tfree c _ z
  · obtain ⟨o1, e1⟩ := I.base.there b o e (noex b)
    have q := inB b o1 e1 (below b o e nb)
    rw [F2.stays b o1 q] at e'
    cases e'; exact q
  · obtain ⟨o1, e1⟩ := (I.hok b u e).there
    have q := inB b o1 e1 (tfree b u e)
    rw [F2.stays b o1 q] at e'
    cases e'; exact q
theorem leave_on {e : Value} (I : Inv X pins σ H s) (hst : X.stack = X.env :: X.outer) (hf : X.env.frame = some X.env.locals) (hex : X.ex = []) (h : CXe X.prog X.w X.stack H s E e s') :
    wpAny M X.A (leaving X.env e) (fun _ s2 => CXe X.prog X.w X.outer X.H₀ X.s₀ E e s2) EE s' := by
  obtain ⟨x, C, dct, H', B, rfl, ho, hg, un, hok, F, ib, nx, hE⟩ := h
  have stk := I.stack
  have hfr : X.A.frames = some (X.env :: X.outer) := by rw [← hst]; exact I.ok.frames
  rw [hst] at stk F ib un
  have fc : frs (X.env :: X.outer) = X.env.locals :: X.fs := frs_cons hf
  unfold leaving
  refine wpAny_bind (fly_next hfr hf F fun h1 F1 u1 => fly_land F1 fun h2 F2 u2 => ?_)
  have up : s'.heap.UpToSlots h2 := u1.trans u2
  have below : ∀ b o, X.s₀.heap.get? b = some o → b ∉ X.fs → b ∉ frs (X.env :: X.outer) := fun b o e nb hb => by
    rw [fc] at hb
    rcases List.mem_cons.mp hb with z | z
    · exact absurd (Nat.lt_of_lt_of_le (Heap.lt_size e) I.ok.above) (by rw [z]; exact Nat.lt_irrefl _)
    · exact nb z
  have inFs : ∀ b, b ∈ X.fs → b ∈ frs (X.env :: X.outer) := fun b hb => by rw [fc]; exact List.mem_cons_of_mem _ hb
  have noex : ∀ b, b ∉ X.ex := fun b z => by rw [hex] at z; cases z
  have no0 : ∀ b : Addr, b ∉ ([] : List Addr) := fun b => by simp
  have slot2 : ∀ b o, s.heap.get? b = some o → H b = none → b ∈ X.fs → ∃ sl, h2.get? b = some { o with slots := sl } := fun b o e n hb => by
    obtain ⟨_, o1, e1, nf⟩ := stk.mem (b := b) (inFs b hb)
    rw [e] at e1; cases e1
    obtain ⟨sl, e2⟩ := un.slot b o e n (inFs b hb) (no0 b)
    obtain ⟨sl2, e3⟩ := up b _ e2 nf
    exact ⟨sl2, e3⟩
  have free1 : ∀ b o, X.s₀.heap.get? b = some o → X.H₀ b = none → H b = none := fun b o e n => I.base.free b o e n (noex b)
  refine ⟨x, C, dct, H', B, rfl, ho.trans I.os, hg, ⟨fun b o e n hb _ => ?_, fun b o e n hb _ => ?_, fun b o e n _ => ?_, fun b o e _ => ?_, fun b xs q => un.tups b xs (I.base.tups b xs q), fun b o u q => un.frzs b o u (I.base.frzs b o u q), fun b ps q => ?_⟩,
    fun b u e => (hok b u e).stay (fun c v hc q => F2.stays c v ?_) (fun _ q => q) fun _ _ q => q, F2.out, ⟨fun b o e nb o' e' => ?_, fun b u e o' e' => ?_⟩, nx, hE⟩
  · have e1 := I.base.keep b o e n hb (noex b)
    have e2 := un.keep b o e1 (free1 b o e n) (below b o e hb) (no0 b)
    exact F2.stays b o (ib.old b o e1 (below b o e hb) o e2)
  · obtain ⟨sl, e1⟩ := I.base.slot b o e n hb (noex b)
    obtain ⟨sl2, e2⟩ := slot2 b _ e1 (free1 b o e n) hb
    exact ⟨sl2, e2⟩
  · obtain ⟨o1, e1⟩ := I.base.there b o e (noex b)
    exact un.free b o1 e1 (free1 b o e n) (no0 b)
  · obtain ⟨o1, e1⟩ := I.base.there b o e (noex b)
    obtain ⟨o2, e2⟩ := un.there b o1 e1 (no0 b)
    by_cases hb : b ∈ X.fs
    · have n : H b = none := I.stkFree b (by rw [hst]; exact inFs b hb)
      obtain ⟨sl2, e3⟩ := slot2 b _ e1 n hb
      exact ⟨_, e3⟩
    · exact ⟨o2, F2.stays b o2 (ib.old b o1 e1 (below b o e hb) o2 e2)⟩
  · obtain ⟨m1, e1⟩ := I.base.tbls b ps q
    obtain ⟨m2, e2⟩ := un.tbls b _ e1
    exact ⟨m1 ++ m2, by rw [e2, Array.append_assoc]⟩
  · rcases hc with z | z
    · subst z; exact ib.trk c u e v q
    · exact ib.trk c _ z v q
  · obtain ⟨o1, e1⟩ := I.base.there b o e (noex b)
    obtain ⟨o2, e2⟩ := un.there b o1 e1 (no0 b)
    have q := ib.old b o1 e1 (below b o e nb) o2 e2
    rw [F2.stays b o2 q] at e'
    cases e'; exact q
  · obtain ⟨o1, e1⟩ := (hok b u e).there
    have q := ib.trk b u e o1 e1
    rw [F2.stays b o1 q] at e'
    cases e'; exact q
def excO (x C : Addr) (dct : Option Addr) : HO := .ext fun h => ∃ o, h.get? x = some o ∧ o.cls = .ref C ∧ o.dict = dct ∧ PySem.W.notCls o = true
theorem caught_inv {h3 : Heap} {tk : Nat} (I : Inv X pins σ H s) (ho : s'.os = s.os) (hg : AllBare s'.gens) (un : Un (frs X.stack) [] H H' s.heap s'.heap) (hok : HOk X.prog X.w H' s'.heap) (F : Fly B X.stack x (.ref C) dct .none h3)
    (ib : InB B (frs X.stack) s.heap H' s'.heap) (up : s'.heap.UpToSlots h3) (nx : H' x = none) : Inv X pins σ (upd H' x (excO x C dct)) { s' with heap := h3, toks := tk } := by
  have stk := I.stack
  have no0 : ∀ b : Addr, b ∉ ([] : List Addr) := fun b => by simp
  have nex : ∀ b o, s.heap.get? b = some o → b ∉ frs X.stack → b ≠ x := fun b o e nb z => by
    obtain ⟨o2, e2⟩ := un.there b o e (no0 b)
    have q := ib.old b o e nb o2 e2
    rw [z, F.new] at q; cases q
  have nfx : ∀ b, b ∈ frs X.stack → b ≠ x := fun b hb z => by
    obtain ⟨_, o1, e1, nf⟩ := F.frames.mem (b := b) hb
    obtain ⟨ox, vs, T, oT, ts, ex, _, _, dx, _⟩ := F.obj
    rw [z, ex] at e1; cases e1
    exact nf vs dx
  have ne : ∀ b o, s.heap.get? b = some o → b ≠ x := fun b o e => by
    by_cases hb : b ∈ frs X.stack
    · exact nfx b hb
    · exact nex b o e hb
  have hok3 : HOk X.prog X.w (upd H' x (excO x C dct)) h3 := fun b u e => by
    by_cases hb : b = x
    · subst hb
      rw [upd_same] at e; cases e
      obtain ⟨ox, vs, T, oT, ts, ex, hc, hd, dx, _⟩ := F.obj
      have nc : PySem.W.notCls ox = true := by unfold PySem.W.notCls; rw [dx]
      exact ⟨⟨ox, ex, hc, hd, nc⟩, ⟨ox, ex⟩, fun h1 h2 ⟨o, q, r⟩ k => ⟨o, k o q, r⟩⟩
    · rw [upd_ne hb] at e
      refine (hok b u e).stay (fun c v hc q => F.stays c v ?_) (fun c q => by rw [upd_ne (ne_of_none q nx)]; exact q) fun c xs q => by rw [upd_ne (ne_of_none q nx)]; exact q
      rcases hc with z | z
      · subst z; exact ib.trk c u e v q
      · exact ib.trk c _ z v q
  have U : Un (frs X.stack) [] H (upd H' x (excO x C dct)) s.heap h3 := by
    refine ⟨fun b o e n hb _ => ?_, fun b o e n hb _ => ?_, fun b o e n _ => ?_, fun b o e _ => ?_, fun b xs q => ?_, fun b o u q => ?_, fun b ps q => ?_⟩
    · exact F.stays b o (ib.old b o e hb o (un.keep b o e n hb (no0 b)))
    · obtain ⟨sl, e1⟩ := un.slot b o e n hb (no0 b)
      obtain ⟨_, o1, e2, nf⟩ := stk.mem (b := b) hb
      rw [e] at e2; cases e2
      obtain ⟨sl2, e3⟩ := up b _ e1 nf
      exact ⟨sl2, e3⟩
    · rw [upd_ne (ne b o e)]; exact un.free b o e n (no0 b)
    · obtain ⟨o2, e2⟩ := un.there b o e (no0 b)
      by_cases hb : b ∈ frs X.stack
      · have n : H b = none := I.stkFree b hb
        obtain ⟨sl, e1⟩ := un.slot b o e n hb (no0 b)
        obtain ⟨_, o1, e3, nf⟩ := stk.mem (b := b) hb
        rw [e] at e3; cases e3
        obtain ⟨sl2, e4⟩ := up b _ e1 nf
        exact ⟨_, e4⟩
      · exact ⟨o2, F.stays b o2 (ib.old b o e hb o2 e2)⟩
    · have z := un.tups b xs q
      rw [upd_ne (ne_of_none z nx)]; exact z
    · have z := un.frzs b o u q
      rw [upd_ne (ne_of_none z nx)]; exact z
    · obtain ⟨more, z⟩ := un.tbls b ps q
      exact ⟨more, by rw [upd_ne (ne_of_none z nx)]; exact z⟩
  have J := I.call (g' := s'.gens) (t' := tk) (d' := s'.drawn) (ch := []) U hok3 hg (fun b z => absurd z (no0 b))
  obtain ⟨hh, g, d, t, os⟩ := s'
  have e : os = s.os := ho
  subst e
  exact J
end
end L2
end
section
set_option Elab.async false
set_option linter.all false
set_option maxRecDepth 100000
namespace L2
open PySem PySem.Spec PyProof.Rows PySem.W
section
variable {prog : Program} {w : World} {A : Around} {E : Value → Shared → Prop} {s : Shared} {K : Frag} {x D : Addr} {ox : Obj} {od : Option Obj} {name : Str} {tk : Tok}
theorem exc_check {M : Model} {nameV : Value} {Q : Unit → Shared → Prop} (X : K.In s.heap) (I : InstAt s.heap x ox D od) (hb : mroIn K D (.type "BaseException") = some true) (hq : Q () s) :
    wpAny M A (checkBuiltinCall "BaseException.__getattribute__" ⟨[.ref x, nameV], []⟩) Q E s := by
  have hk : builtinKind "BaseException.__getattribute__" = some .slot := by decide +kernel
  have hsp : splitId "BaseException.__getattribute__" = some ("BaseException", "__getattribute__") := by decide +kernel
  have ha := F.args_bexc_ga (.ref x) nameV
  obtain ⟨hh, g, d, t, os⟩ := s
  have L0 : Looks M hh (isInstance (.ref x) (.type "BaseException")) true := (I.type (M := M)).andThen (looks_mroIn X hb)
  simp only [checkBuiltinCall, hk, hsp]
  refine wpAny_bind (L0.at ?_)
  repeat (any_goals (first | assumption | wp_step))
theorem exc_ga {R : Result → Shared → Prop} {g a : Value} (X : K.In s.heap) (I : InstAt s.heap x ox D od) (hb : mroIn K D (.type "BaseException") = some true) (hf : findObj K D od name = some (.bind g a))
    (h : wpAny (model prog w) A.in1 (call g [a, .ref x, .ref D]) (fun v s' => R (.ok (.ret v)) s') (fun e s' => R (.error e) s') s) :
    codeAny (model prog w) A (.call (.builtin "BaseException.__getattribute__") ⟨[.ref x, .str name tk], []⟩) R s := by
  refine codeAny_call_builtin F.attr_ValueError.ga.plain F.entry_bexc_ga (exc_check X I hb ?_)
  obtain ⟨hh, gg, d, t, os⟩ := s
  have L0 := I.type (M := model prog w)
  have L1 := looks_find (M := model prog w) X I hf
  unfold Builtin.«object.__getattribute__»
  refine wpAny_bind (wpAny_of_eq (a := (Value.ref x, [Value.str name tk])) rfl ?_)
  refine wpAny_bind (wpAny_of_eq (a := name) rfl ?_)
  refine wpAny_bind (L0.at (wpAny_bind (L1.at ?_)))
  show wpAny _ _ (do ret (← holding [a] (call g [a, Value.ref x, Value.ref D]))) _ _ _
  exact wpAny_bind (wpAny_holding (wpAny_mono h (fun v s' q => wpAny_pure q) fun e s' q => q))
theorem findObj_bind {a g : Value} (hc : (clsIn K D).isSome = true) (ha : findIn K (.ref D) name = some (some a)) (hg : specialIn K a "__get__" = some (some g)) (ht : takesIn K a = some true) : findObj K D od name = some (.bind g a) := by
  obtain ⟨cd, hc⟩ := Option.isSome_iff_exists.mp hc
  unfold findObj
  rw [hc, Option.bind_some, ha, Option.bind_some]
  simp [hg, ht]
structure ExcC (K : Frag) (D : Addr) : Prop where
  cls : (clsIn K D).isSome = true
  ga : findIn K (.ref D) "__getattribute__" = some (some (.builtin "BaseException.__getattribute__"))
  gh : findIn K (.ref D) "__getattr__" = some none
  base : mroIn K D (.type "BaseException") = some true
  obj : mroIn K D (.type "object") = some true
  ca : findIn K (.ref D) "__class__" = some (some (.builtin "object.__class__"))
  cg : specialIn K (.builtin "object.__class__") "__get__" = some (some (.builtin "getset_descriptor.__get__"))
  ct : takesIn K (.builtin "object.__class__") = some true
theorem exc_class {Q : Option Value → Shared → Prop} (c : ExcC K D) (X : K.In s.heap) (I : InstAt s.heap x ox D od) (h : Q (some (.ref D)) { s with toks := s.toks + 1 }) :
    wpAny (model prog w) A (getAttr? (.ref x) "__class__") Q E s := by
  obtain ⟨hh, gg, d, t, os⟩ := s
  have L0 := I.type (M := model prog w)
  have L1 := looks_findIn (M := model prog w) X c.ga
  have L2 := looks_findIn (M := model prog w) X c.gh
  have hf : findObj K D od "__class__" = some (.bind (.builtin "getset_descriptor.__get__") (.builtin "object.__class__")) := findObj_bind c.cls c.ca c.cg c.ct
  have hx1 : (onTheHeap (Value.ref D) && Value.builtin "BaseException.__getattribute__" == Value.builtin "object.__getattribute__") = false := by
    rw [show (Value.builtin "BaseException.__getattribute__" == Value.builtin "object.__getattribute__") = false by decide +kernel]; rfl
  unfold getAttr? getAttrBy? getAttrBy
  refine wpAny_bind (wpAny_mkText (wpAny_bind (wpAny_attempt (wpAny_holding (wpAny_bind (L0.at (wpAny_bind (L1.at ?_))))))))
  dsimp only
  rw [hx1, if_neg Bool.false_ne_true]
  unfold getAttrByItsOwn
  refine wpAny_bind ?_
  show wpAny _ _ (typeLookup (.ref D) "__getattr__") _ _ _
  refine L2.at ?_
  refine wpAny_bind (wpAny_attempt (wpAny_holding ?_))
  show wpAny _ _ (boundAndCalled (.builtin "BaseException.__getattribute__") (.ref x) (.str "__class__" t)) _ _ _
  unfold boundAndCalled
  refine wpAny_bind (wpAny_of_eq (F.attr_ValueError.ga.bind (.ref x)) ?_)
  refine wpAny_call (exc_ga X I c.base hf ?_)
  refine wpAny_call (class_get X I c.obj ?_)
  exact handed_on rfl (wpAny_pure h)
theorem kitx_exc (c : ExcC K D) : KitX K (.ref x) (.ref D) (fun h => ∃ ox od, InstAt h x ox D od) where
  ty := fun _ _ _ ⟨_, _, I⟩ => I.type
  it := fun _ _ X _ => by
    obtain ⟨cdD, hcD⟩ := Option.isSome_iff_exists.mp c.cls
    unfold clsIn at hcD
    split at hcD
    · rename_i c' d' cd' sl' ho
      intro A' Q' E' s' k q
      unfold isType loadHead
      exact wpAny_bind (wpAny_loadPart (k _ _ (X _ _ ho)) (wpAny_pure q))
    · cases hcD
  ne := fun h tp dd its n sl X htp => by
    obtain ⟨cdD, hcD⟩ := Option.isSome_iff_exists.mp c.cls
    refine Bool.eq_false_iff.mpr fun q => ?_
    have e : D = tp := Value.ref.inj (beq_iff_eq.mp q)
    subst e
    unfold clsIn at hcD
    split at hcD
    · rename_i c' d' cd' sl' ho
      have z := (X _ _ ho).symm.trans htp
      cases z
    · cases hcD
  ca := fun X ⟨_, _, I⟩ k => exc_class c X I k
end
end L2
end
section
set_option Elab.async false
set_option linter.all false
set_option maxRecDepth 100000
namespace L2
open PySem PySem.Spec PyProof.Rows
section
variable {P : Program} {w : World} {K : PySem.W.Frag} {mg : Str → Option Value} {base : Heap}
theorem Fun.okX {CX : CXT} {x qual : Str} {st : Stmt} {f : Addr} {fd : FuncData} {N ps : List Str} {k : Nat} {sp : Sp} (F : Fun K x qual st f fd) (S : FnScope N ps (defScope st)) (len : ∀ vs H Q E, sp vs H Q E → vs.length = ps.length)
    (hbody : ∀ (cdv : Value) (A : Around) (outer : List Env) (s : Shared) (H : Hp) (vs : List V) (Q : VK) (E : XK), Room k (A.deeper (envOfC qual (defScope st) s.heap.objs.size f cdv)) → sp vs H Q E →
      ∃ t, PSs (cxOf CX P w K mg base N qual (defScope st) f cdv A outer s H E) (defBody st) t ∧ t { nx := fun _ H' => Q .non H', rt := Q } (start N vs) H) : FnOk P w K mg base CX (k + 1) f fd ps sp := by
  obtain ⟨oc, od, kV, doc, pm, an, cdv, ct, osl, rfl, lk, hcd⟩ := F.ex
  exact fn_of lk hcd S len fun A outer s H vs Q E hr hsp => hbody cdv A outer s H vs Q E hr hsp
theorem passE {N : List Str} {qual : Str} {scope : Scope} {f : Addr} {cdv : Value} {A : Around} {outer : List Env} {s : Shared} {H : Hp} {E : XK} : Passes (CXe P w) (cxOf (CXe P w) P w K mg base N qual scope f cdv A outer s H E) E :=
  fun pins σ H1 s1 e s' I h => leave_on (X := cxOf (CXe P w) P w K mg base N qual scope f cdv A outer s H E) I rfl rfl rfl h
theorem passN {X : Cx} : Passes (CXe P w) X E0 := fun _ _ _ _ _ _ _ h => by
  obtain ⟨_, _, _, _, _, _, _, _, _, _, _, _, _, z⟩ := h
  exact z.elim
end
theorem exc_obj {K : PySem.W.Frag} {h : Heap} {C : Addr} {bmB : List Value} {newId : String} (X : K.In h) (q : PySem.W.excIn K C bmB newId = true) :
    ∃ bm N nm qn bs hdct sn sub ab col dd k0 k1 k2 k3 k5 mN, h.get? C = some (excClassObj nm qn C N bs bm hdct sn sub ab col dd k0 k1 k2 k3 k5 newId) ∧ h.Ns N mN ∧ mN "__init__" = none ∧ OwnTail h bmB bm := by
  unfold PySem.W.excIn at q
  split at q
  · rename_i dd cd sl lk
    split at q
    · rename_i C' bm k0 k1 k2 k3 nn k5 hm hs
      simp only [Bool.and_eq_true, beq_iff_eq, Bool.not_eq_true'] at q
      obtain ⟨⟨⟨⟨⟨rfl, rfl⟩, hdel⟩, ht⟩, hok⟩, hni⟩ := q
      obtain ⟨nm, bs, mro, ns, qn, hd, sn, sub, ab, col, del⟩ := cd
      dsimp only at hm hdel hok hni
      subst hm hdel
      obtain rfl : sl = #[k0, k1, k2, k3, some (.builtin nn), k5] := by
        obtain ⟨l⟩ := sl
        simp only at hs
        rw [hs]
      exact ⟨bm, ns, nm, qn, bs, hd, sn, sub, ab, col, dd, k0, k1, k2, k3, k5, _, X _ _ lk, .of_isNs (PySem.W.isNs_of_in X hok), PySem.W.nsMap_none_of_in X hok hni, PySem.W.tail_of_in X ht⟩
    · cases q
  · cases q
def tRaise (C : Addr) (ta : TA) (E : XK) : TS := fun _ σ H => ta σ H fun vs H1 => vs.length ≤ sizeLine ∧ E (.ref C) none H1
section
variable {P : Program} {w : World} {K : PySem.W.Frag} {mg : Str → Option Value} {base : Heap} {N : List Str} {qual : Str} {scope : Scope} {f : Addr} {cdv : Value} {A : Around} {outer : List Env} {s0 : Shared} {H0 : Hp} {E : XK}
theorem ps_raise {x : Str} {C : Addr} {e0 : Expr} {rest : List Expr} {np cpos pos : Pos} {ta : TA} (q : PySem.W.excIn K C [.type "ValueError", .type "Exception", .type "BaseException", .type "object"] "ValueError.__new__" = true)
    (hg : Gl (cxOf (CXe P w) P w K mg base N qual scope f cdv A outer s0 H0 E) x) (hm : mg x = some (.ref C)) (ha : PA (cxOf (CXe P w) P w K mg base N qual scope f cdv A outer s0 H0 E) (e0 :: rest) ta)
    (hdb : (x == ("__debug__" : Str)) = false := by decide)
    (he : starEach (e0 :: rest) (envOfC qual scope s0.heap.objs.size f cdv) = (false, eval e0 (envOfC qual scope s0.heap.objs.size f cdv)) :: starEach rest (envOfC qual scope s0.heap.objs.size f cdv) := by rfl)
    (hpl : (backTo cpos (starEach rest (envOfC qual scope s0.heap.objs.size f cdv))).any (·.1) = false := by rfl) :
    PS (cxOf (CXe P w) P w K mg base N qual scope f cdv A outer s0 H0 E) (.Raise (some (.Call (.Name x np) (e0 :: rest) [] cpos)) none pos) (tRaise C ta E) := by
  intro pins s σ H D I h
  obtain ⟨bm, Nn, nm, qn, bs, hdct, sn, sub, ab, col, dd, k0, k1, k2, k3, k5, mN, hC, hN, hni, T⟩ := exc_obj I.mod.kin q
  refine wpAny_Raise_call_subT (C := C) (nm := nm) (q := qn) (N := Nn) (bs := bs) (bm := bm) (hdct := hdct) (sn := sn) (sub := sub) (ab := ab) (col := col) (dd := dd) (k0 := k0) (k1 := k1) (k2 := k2) (k3 := k3) (k5 := k5)
    PySem.F.excBase_ValueError (mN := mN) (T.hasType PySem.F.excBase_ValueError.hasBase) (I.ok.hd rfl) (by
      show (backTo cpos (starEach (e0 :: rest) (envOfC qual scope s0.heap.objs.size f cdv))).any (·.1) = false
      rw [he]; show (false || (backTo cpos (starEach rest (envOfC qual scope s0.heap.objs.size f cdv))).any (·.1)) = false; rw [hpl]; rfl) hni (ld_glob I hg hm ⟨rfl, ?_⟩ hdb)
  have ha' := ha cpos pins s σ H _ I h
  show wpAny _ _ (evalArgs (.ref C) true (backTo cpos (starEach (e0 :: rest) (envOfC qual scope s0.heap.objs.size f cdv))) []) _ _ _
  change wpAny _ _ (spliced (backTo cpos (starEach (e0 :: rest) (envOfC qual scope s0.heap.objs.size f cdv)))) _ _ _ at ha'
  rw [he] at ha' ⊢
  refine Calls.evalArgs_plain (thn ha' fun us s2 ⟨vs, H1, I1, r, hz, hE⟩ => ?_)
  have hl : us.length ≤ sizeLine := by rw [← r.length]; exact hz
  exact ⟨rfl, hl, I1.bk _ _ hC, hN.keeps I1.bk, T.keeps I1.bk, fun h' e m => leave_made (tk := s2.toks) I1 rfl rfl rfl m hE⟩
end
end L2
end
section
set_option Elab.async false
set_option linter.all false
set_option maxRecDepth 100000
namespace L2
open PySem PySem.Spec PyProof.Rows
abbrev TEX := St → Hp → VK → XK → Prop
abbrev TSX := Ends → XK → St → Hp → Prop
def XP (X : Cx) (CX : CXT) (pins : List (Addr × Obj)) (σ : St) (E : XK) (e : Value) (s' : Shared) : Prop := ∃ s1 H1, Inv X pins σ H1 s1 ∧ CX X.stack H1 s1 E e s'
def PEX (X : Cx) (CX : CXT) (e : Expr) (t : TEX) : Prop :=
  ∀ (pins : List (Addr × Obj)) (s : Shared) (σ : St) (H : Hp) (Q : VK) (E : XK), Inv X pins σ H s → t σ H Q E → wpAny (model X.prog X.w) X.A (eval e X.env) (EP X pins σ Q) (XP X CX pins σ E) s
def PSX (X : Cx) (CX : CXT) (st : Stmt) (t : TSX) : Prop :=
  ∀ (pins : List (Addr × Obj)) (s : Shared) (σ : St) (H : Hp) (D : Ends) (E : XK), Inv X pins σ H s → t D E σ H → wpAny (model X.prog X.w) X.A (exec st X.env) (SP X pins D) (XP X CX pins σ E) s
def PSXs (X : Cx) (CX : CXT) (st : List Stmt) (t : TSX) : Prop :=
  ∀ (pins : List (Addr × Obj)) (s : Shared) (σ : St) (H : Hp) (D : Ends) (E : XK), Inv X pins σ H s → t D E σ H → wpAny (model X.prog X.w) X.A (execs st X.env) (SP X pins D) (XP X CX pins σ E) s
section
variable {X : Cx} {CX : CXT} {k : Nat} {f : Addr} {fd : FuncData} {ps : List Str} {sp : Sp} {dvs : List V} {ds : List Value} {x : Str} {p pos : Pos} {e : Expr} {es : List Expr} {t : TA}
def xCall (sp : Sp) (dvs : List V) (t : TA) : TEX := fun σ H Q E => t σ H fun vs H1 => sp (vs ++ dvs) H1 Q E
theorem pex_call (F : FnOk X.prog X.w X.K X.mg X.base CX k f fd ps sp) (hr : Room k X.A) (hg : Gl X x) (hm : X.mg x = some (.ref f)) (hk : PySem.W.keepIn X.K (.ref f) = true) (hb : Binds X.K fd ps ds) (hd : Vals dvs ds)
    (ha : PA X.nox (e :: es) t) (hdb : (x == ("__debug__" : Str)) = false := by decide) (he : starEach (e :: es) X.env = (false, eval e X.env) :: starEach es X.env := by rfl) (hpl : (backTo pos (starEach es X.env)).any (·.1) = false := by rfl) :
    PEX X CX (.Call (.Name x p) (e :: es) [] pos) (xCall sp dvs t) := by
  intro pins s σ H Q E I h
  refine wpAny_Call_Name_kw (ld_glob I hg hm ?_ hdb)
  refine PySem.W.callWith_K (h₀ := X.base) I.ok.mod.kin hk (wpAny_mono (ha pos pins s σ H _ (I.wish _) h) (fun us s1 ⟨vs, H1, I1', r, q⟩ => ?_) fun _ _ z => False.elim z) he hpl
  have I1 : Inv X pins σ H1 s1 := I1'.unwish
  refine ⟨I1.kIn, ?_⟩
  have r2 : Vals (vs ++ dvs) (us ++ ds) := r.append hd
  have hl : (us ++ ds).length = ps.length := by rw [← r2.length]; exact F.len _ _ _ _ q
  refine wpAny_call (codeAny_mono (F.run X.A X.stack s1 H1 ⟨us, []⟩ (us ++ ds) (vs ++ dvs) Q E hr I1.env0 (hb s1 us I1.kIn hl) r2 q) fun r s' hq => ?_)
  cases r with
  | error e => exact ⟨s1, H1, I1, hq⟩
  | ok fl =>
    cases fl with
    | ret u => exact I1.after hq
    | next => exact False.elim hq
    | brk => exact False.elim hq
    | cont => exact False.elim hq
def xDrop (t : TEX) : TSX := fun D E σ H => t σ H (fun _ H1 => D.nx σ H1) E
theorem psx_expr {te : TEX} (he : PEX X CX e te) (hs : swapsWith e none pos.line X.env = pure false := by rfl) : PSX X CX (.Expr e pos) (xDrop te) := by
  intro pins s σ H D E I h
  exact wpAny_Expr_any (thn (he pins s σ H _ E I h) fun v s1 ⟨y, H1, I1, r1, q1⟩ => ⟨σ, H1, I1, q1⟩) I.quiet hs
theorem psxs_one {st : Stmt} {ts : TSX} (h1 : PSX X CX st ts) : PSXs X CX [st] ts := by
  intro pins s σ H D E I h
  refine wpAny_execs_cons (thn (h1 pins s σ H D E I h) fun fl s1 q => ?_)
  cases fl with
  | next => exact wpAny_execs_nil q
  | ret v => exact q
  | brk => exact q
  | cont => exact q
end
theorem Inv.gone {X : Cx} {pins : List (Addr × Obj)} {σ : St} {H : Hp} {s : Shared} {h' : Heap} {m : Str → Option Value} {n : Str} {v : Option Value} {i : Nat} {tk : Nat} (I : Inv X pins σ H s) (hN : X.N.Nodup) (hi : X.N[i]? = some n)
    (hm : ∀ (j : Nat) (y : Str) (v : V), X.N[j]? = some y → σ[j]? = some (some v) → Vis X.env.scope y → ∃ u, RelV v u ∧ Look X.env s.heap m y u) (hn : h'.Ns X.env.locals (fun y => if y = n then v else m y)) (hs : Heap.SameBut X.env.locals s.heap h') :
    Inv X pins (σ.set i none) H { s with heap := h', toks := tk } := by
  have neL : ∀ b o, X.s₀.heap.get? b = some o → b ≠ X.env.locals := fun b o e => Nat.ne_of_lt (Nat.lt_of_lt_of_le (Heap.lt_size e) I.ok.above)
  have hiσ : i < σ.length := by rw [I.len]; exact (List.getElem?_eq_some_iff.mp hi).1
  refine ⟨I.ok, I.os, I.bare, ⟨fun b o e nn hb hx => (hs.2 b (neL b o e)).trans (I.base.keep b o e nn hb hx), fun b o e nn hb hx => ?_, I.base.free, fun b o e hx => ?_, I.base.tups, I.base.frzs, I.base.tbls⟩, ⟨_, hn, fun j y v' e1 e2 e3 => ?_⟩, fun y c e => ?_, I.free, I.freeC, fun p hp => ?_, fun b ob e => ?_, by simpa using I.len⟩
  · obtain ⟨sl, e1⟩ := I.base.slot b o e nn hb hx
    exact ⟨sl, (hs.2 b (neL b o e)).trans e1⟩
  · obtain ⟨o', e1⟩ := I.base.there b o e hx
    exact ⟨o', (hs.2 b (neL b o e)).trans e1⟩
  · have hj : j ≠ i := fun z => by rw [z, List.getElem?_set_self hiσ] at e2; cases e2
    rw [List.getElem?_set_ne (Ne.symm hj)] at e2
    obtain ⟨u, r, l⟩ := hm j y v' e1 e2 e3
    refine ⟨u, r, ?_⟩
    rcases l with ⟨k, e⟩ | ⟨k, c, e, z⟩
    · have ny : y ≠ n := fun z => hj (nodup_ix hN e1 (z ▸ hi))
      exact .inl ⟨k, by simp [ny, e]⟩
    · exact .inr ⟨k, c, e, z.sameBut hs (I.cne y c e)⟩
  · obtain ⟨w', z⟩ := I.cell y c e
    exact ⟨w', z.sameBut hs (I.cne y c e)⟩
  · obtain ⟨e, nn, ne, nf, d⟩ := I.pin p hp
    exact ⟨(hs.2 p.1 ne).trans e, nn, ne, nf, d⟩
  · refine (I.hok b ob e).stay (fun c w' hc q => (hs.2 c ?_).trans q) (fun _ q => q) fun _ _ q => q
    rintro rfl
    rcases hc with z | z
    · rw [← z, I.free] at e; cases e
    · rw [I.free] at z; cases z
def hdl (X : Cx) (x : Addr) : Cx := { X with A := X.A.mark (some (.ref x)), calm := false, xe := fun _ _ => False }
section
variable {X : Cx} {pins : List (Addr × Obj)} {σ : St} {H : Hp} {s : Shared} {x : Addr}
theorem Inv.hdl (I : Inv X pins σ H s) (x : Addr) : Inv (hdl X x) pins σ H s :=
  ⟨⟨I.ok.mod, I.ok.kind, I.ok.glob, I.ok.blt, I.ok.above, I.ok.inj, I.ok.has, I.ok.cab, fun z => absurd z (by show ¬ (false = true); decide), I.ok.frames, I.ok.stk, I.ok.exf, I.ok.bs, I.ok.bsz, I.ok.noex, I.ok.exfs, I.ok.funs, I.ok.frf⟩, I.os, I.bare, I.base, I.loc, I.cell, I.free, I.freeC, I.pin, I.hok, I.len⟩
theorem Inv.unhdl (I : Inv (L2.hdl X x) pins σ H s) (ok : X.Ok) : Inv X pins σ H s := ⟨ok, I.os, I.bare, I.base, I.loc, I.cell, I.free, I.freeC, I.pin, I.hok, I.len⟩
end
def tTry (K : PySem.W.Frag) (Dc : Addr) (i : Nat) (tb : TSX) (th : TS) : TS := fun D σ H => ∃ E : XK, tb D E σ H ∧ ∀ (C : Addr) (dct : Option Addr) (H' : Hp) (x : Addr), E (.ref C) dct H' → H' x = none →
  PySem.W.exmOne K (.ref C) (.ref Dc) = some true ∧ th { nx := fun σ' H'' => D.nx (σ'.set i none) H'', rt := fun _ _ => False } (σ.set i (some (.ref x))) (upd H' x (excO x C dct))
theorem ps_try {X : Cx} {body : List Stmt} {c n : Str} {np hpos pos : Pos} {b0 : Stmt} {suite : List Stmt} {tb : TSX} {th : TS} {i : Nat} {Dc : Addr} (hst : X.stack = X.env :: X.outer) (hf : X.env.frame = some X.env.locals)
    (hN : X.N.Nodup) (hi : X.N[i]? = some n) (hn : X.env.scope.names.lookup n = some .local) (hg : Gl X c) (hm : X.mg c = some (.ref Dc)) (hb : PSXs X (CXe X.prog X.w) body tb) (hh : ∀ x, PSs (hdl X x) (b0 :: suite) th)
    (hdb : (c == ("__debug__" : Str)) = false := by decide) : PS X (.Try body [.ExceptHandler (some (.Name c np)) (some n) (b0 :: suite) hpos] [] [] pos) (tTry X.K Dc i tb th) := by
  intro pins s σ H D I h
  obtain ⟨Ex, hbody, hhand⟩ := h
  refine wpAny_Try_except (wpAny_mono (hb pins s σ H D Ex I hbody) (fun fl s1 q => ?_) (fun e s1 q => ?_))
  · cases fl with
    | next => exact wpAny_execs_nil q
    | ret v => exact q
    | brk => exact q
    | cont => exact q
  obtain ⟨s2, H2, I2, x, C, dct, H', B, rfl, ho, hg', un, hok, F, ib, nx, hE⟩ := q
  obtain ⟨hx, hth⟩ := hhand C dct H' x hE nx
  have hfr : X.A.frames = some (X.env :: X.outer) := by rw [← hst]; exact I.ok.frames
  have F' : Fly B (X.env :: X.outer) x (.ref C) dct .none s1.heap := by rw [← hst]; exact F
  refine fly_next hfr hf F' fun h1 F1 u1 => fly_land F1 fun h2 F2 u2 => ?_
  have I3 := caught_inv (tk := s1.toks) I2 ho hg' un hok (hst ▸ F2) ib (u1.trans u2) nx
  refine wpAny_handleBy_cons (codeAny_handlers_test ?_) (by intro z; cases z)
  refine ld_glob (X := hdl X x) (I3.hdl x) hg hm ?_ hdb
  obtain ⟨ox, vs, T, oT, ts, ex, hcl, _⟩ := F2.obj
  have LT : PySem.W.Looks (model X.prog X.w) h2 (typeOf (.ref x)) (.ref C) := hcl ▸ (PySem.W.Looks.ld ex).andThen .now
  refine (PySem.W.exm_one (M := model X.prog X.w) I3.kIn LT hx) _ _ _ _ (fun _ _ e => e) ?_
  refine codeAny_handlers_suite_as ?_
  refine fly_land F2 fun h3 F3 u3 => ?_
  have I4 := caught_inv (tk := s1.toks) I2 ho hg' un hok (hst ▸ F3) ib (u1.trans (u2.trans u3)) nx
  refine store_ok (X := hdl X x) (v := .ref x) (I4.hdl x) hN hi (.inl hn) rfl (fun s5 I5 => ?_) (.inr hn)
  refine wpAny_mono (hh x pins s5 _ _ _ I5 hth) (fun fl s6 q6 => ?_) fun _ _ z => False.elim z
  cases fl with
  | ret v => obtain ⟨_, _, _, _, _, z⟩ := q6; exact False.elim z
  | brk => obtain ⟨_, _, _, z⟩ := q6; exact False.elim z
  | cont => obtain ⟨_, _, _, z⟩ := q6; exact False.elim z
  | next =>
    obtain ⟨σ6, H6, I6, q⟩ := q6
    have I7 : Inv X pins σ6 H6 s6 := I6.unhdl I.ok
    obtain ⟨m, hnm, hl⟩ := I7.loc
    have hp : (X.env.scope.kind == .class || (X.env.scope.kind == .module && X.env.locals != X.env.globals)) = false := by rw [I.ok.kind]; rfl
    exact wpAny_nameGoes_keeps hn hnm hp fun h' v hn' hs' => ⟨_, H6, I7.gone hN hi hl hn' hs', q⟩
theorem call_isiX {X : Cx} : CallR X (.builtin "isinstance") (fun xs H Q => ∃ (a C : Addr) (c : V) (cv : Value) (b : Bool), xs = [.ref a, c] ∧ H a = some (excO a C none) ∧ ((∃ D, c = .ref D ∧ cv = .ref D) ∨ ∃ T, c = .ty T ∧ cv = .type T) ∧ ExcC X.K C ∧ PySem.W.kitOne X.K (.ref C) cv = some b ∧ Q (.bl b) H) := by
  intro pins s σ H xs us Q I r h
  obtain ⟨a, C, c, cv, b, rfl, ha, hc, ec, hk, q⟩ := h
  obtain ⟨u, w', rfl, ru, rw'⟩ := vals2 r
  obtain rfl : u = Value.ref a := ru
  have e : w' = cv := by
    rcases hc with ⟨D, rfl, rfl⟩ | ⟨T, rfl, rfl⟩
    · exact rw'
    · exact rw'
  subst e
  obtain ⟨⟨o, e1, e2, e3, e4⟩, _, _⟩ := I.hok a _ ha
  have hI : PySem.W.InstAt s.heap a o C none := ⟨e1, e2, e4, by rw [e3]; trivial⟩
  exact PySem.W.kia_one (kitx_exc ec) I.kIn ⟨o, none, hI⟩ hk (fun z => nomatch z) fun tk => ⟨.bl b, H, I.tok tk, rfl, q⟩
end L2
end
section
set_option Elab.async false
set_option linter.all false
set_option maxRecDepth 100000
namespace L2
open PySem PySem.Spec PyProof.Rows
section
variable {X : Cx}
theorem all_range (bs : List Bool) : (List.range bs.length).all (fun i => bs.getD i false) = bs.all id := by
  rw [Bool.eq_iff_iff]
  simp only [List.all_eq_true, List.mem_range, id]
  constructor
  · intro h b hb
    obtain ⟨i, hi, rfl⟩ := List.mem_iff_getElem.mp hb
    have q := h i hi
    simpa [List.getD, hi] using q
  · intro h i hi
    have q := h _ (List.getElem_mem hi)
    simpa [List.getD, hi] using q
theorem bools_at {bs : List Bool} {its : List Value} (r : Vals (bs.map V.bl) its) {i : Nat} {v : Value} (h : its.toArray[i]? = some v) : v = .bool (bs.getD i false) := by
  have hl := r.length
  rw [List.length_map] at hl
  have hi : i < bs.length := by
    rw [hl]
    have : its[i]? = some v := by simpa using h
    exact (List.getElem?_eq_some_iff.mp this).1
  obtain ⟨u, hu, ru⟩ := r.get (i := i) (x := .bl bs[i]) (by simp [hi])
  have e : its[i]? = some v := by simpa using h
  rw [hu] at e
  cases e
  rw [show v = .bool bs[i] from ru]
  simp [List.getD, hi]
theorem call_all (hc : X.calm = true) : CallR X (.builtin "all") (fun xs H Q => ∃ (p : Addr) (bs : List Bool), xs = [.ref p] ∧ SqL X.K H p (bs.map V.bl) ∧ Q (.bl (bs.all id)) H) := by
  intro pins s σ H xs us Q I r h
  obtain ⟨p, bs, rfl, hq, q⟩ := h
  obtain ⟨u, rfl, e⟩ := vals1 r
  cases e
  obtain ⟨its, rv, pl, hz⟩ := I.list hq
  have hl : its.toArray.size = bs.length := by rw [List.size_toArray, ← rv.length, List.length_map]
  have hlt : p < s.heap.objs.size := by obtain ⟨o, e, _⟩ := pl.isList; exact Heap.lt_size e
  refine call_all_walk (wpAny_pyIter_list pl.isList ⟨_, _, _, _, _, _, fun i => bs.getD i false, rfl, Walks.list (A := X.A.in1) (I.ok.hd hc) s.heap.objs.size p (Nat.ne_of_lt hlt) its.toArray, ⟨⟨_, Heap.get?_push_size _ rfl, rfl, rfl⟩, pl.isList.push _⟩, fun i v s' Q' E' hv hQ => ?_, fun h' tk k => ?_⟩)
  · rw [bools_at rv hv]; exact wpAny_truthy_bool hQ
  · refine ⟨.bl (bs.all id), H, I.kept fun b o e => k b o (fun z => Nat.ne_of_lt (Heap.lt_size e) (by simpa using z)) (Heap.get?_push_of_some _ e), ?_, q⟩
    rw [hl, all_range]; rfl
end
end L2
end
section
set_option Elab.async false
set_option linter.all false
namespace SetT
open PySem PySem.SetTable
def iter (t : SetTable) : Nat → Probe → Probe
  | 0, p => p
  | k + 1, p => iter t k (t.advance p)
def start (mask i perturb : Nat) : Probe := { j := i, more := runEnd mask i - i, i, perturb, dummy := none }
end SetT
end
section
set_option Elab.async false
set_option linter.all false
set_option maxRecDepth 100000
namespace TxtA
open PySem PySem.StrLaws PySem.Builtin.Str
def flat (y : List Nat) : List (List Nat) → List Nat
  | [] => []
  | [r] => r
  | r :: r' :: rs => r ++ y ++ flat y (r' :: rs)
def cuts (w : Nat) : Nat → List (List Nat) → List Nat
  | _, [] => []
  | _, [_] => []
  | n, r :: r' :: rs => (n + r.length) :: cuts w (n + r.length + w) (r' :: rs)
def Hit (l y : List Nat) (i : Nat) : Prop := (l.drop i).take y.length = y
theorem hit_head {l t : List Nat} {c i : Nat} (h : Hit l (c :: t) i) : l[i]? = some c := by
  unfold Hit at h
  have : ((l.drop i).take (c :: t).length)[0]? = some c := by rw [h]; rfl
  rw [List.getElem?_take, if_pos (by simp)] at this
  rw [List.getElem?_drop] at this
  simpa using this
theorem at_iff (x y : Str) (hy : y.cps.toList ≠ []) (i : Nat) : At x y x.length i ↔ Hit x.cps.toList y.cps.toList i := by
  have ly : y.length = y.cps.toList.length := by simp [Str.length]
  have lx : x.length = x.cps.toList.length := by simp [Str.length]
  unfold At Hit
  rw [subAt_eq, ly, lx]
  constructor
  · rintro ⟨_, h⟩; exact eq_of_beq h
  · intro h
    refine ⟨?_, by rw [h]; simp⟩
    have e := congrArg List.length h
    rw [List.length_take, List.length_drop] at e
    have : y.cps.toList.length ≠ 0 := by simpa using hy
    omega
theorem walk_no (x y : Str) (lim : Nat) : ∀ (l : List Nat) (st : Array Nat × Nat), (∀ i ∈ l, ¬ (st.2 ≤ i ∧ At x y x.length i)) → (forIn l st (occBody x y x.length lim)).run = st
  | [], st, _ => rfl
  | a :: l, st, h => by
    rw [List.forIn_cons]
    unfold occBody
    have c : ¬ (((st.fst.size < lim ∧ st.snd ≤ a) ∧ a + y.length ≤ x.length) ∧ subAt x y a = true) := fun q => h a (List.mem_cons_self ..) ⟨q.1.1.2, q.1.2, q.2⟩
    rw [if_neg c]
    exact walk_no x y lim l st fun i hi => h i (List.mem_cons_of_mem _ hi)
theorem walk_yes (x y : Str) (lim : Nat) {a : Nat} {l : List Nat} {st : Array Nat × Nat} (hs : st.1.size < lim) (hf : st.2 ≤ a) (h : At x y x.length a) :
    (forIn (a :: l) st (occBody x y x.length lim)).run = (forIn l (st.1.push a, a + y.length) (occBody x y x.length lim)).run := by
  rw [List.forIn_cons]
  have c : ((st.fst.size < lim ∧ st.snd ≤ a) ∧ a + y.length ≤ x.length) ∧ subAt x y a = true := ⟨⟨⟨hs, hf⟩, h.1⟩, h.2⟩
  show (occBody x y x.length lim a st >>= _).run = _
  unfold occBody
  rw [if_pos c]
  rfl
theorem walk_app (x y : Str) (lim : Nat) (l l' : List Nat) (st : Array Nat × Nat) : (forIn (l ++ l') st (occBody x y x.length lim)).run = (forIn l' (forIn l st (occBody x y x.length lim)).run (occBody x y x.length lim)).run := by
  induction l generalizing st with
  | nil => rfl
  | cons a l ih =>
    rw [List.cons_append, List.forIn_cons, List.forIn_cons]
    unfold occBody
    split
    · exact ih _
    · exact ih _
theorem cuts_ge (w : Nat) : ∀ (rows : List (List Nat)) (n k : Nat), k ∈ cuts w n rows → n ≤ k
  | [], _, _, h => by simp [cuts] at h
  | [_], _, _, h => by simp [cuts] at h
  | r :: r' :: rs, n, k, h => by
    rw [cuts, List.mem_cons] at h
    rcases h with rfl | h
    · omega
    · have := cuts_ge w (r' :: rs) _ _ h; omega
theorem mem_of_at {l : List Nat} {pre r post : List Nat} {i c : Nat} (hl : l = pre ++ (r ++ post)) (h1 : pre.length ≤ i) (h2 : i < pre.length + r.length) (h : l[i]? = some c) : c ∈ r := by
  rw [hl, List.getElem?_append_right h1, List.getElem?_append_left (by omega)] at h
  exact List.mem_of_getElem? h
def Free (c : Nat) (t r : List Nat) : Prop := ∀ i, i < r.length → ∀ p, (p = [] ∨ p.head? = some c) → ¬ Hit (r ++ p) (c :: t) i
theorem free_no {c : Nat} {t r : List Nat} (h : c ∉ r) : Free c t r := fun i hi p _ q => by
  have := hit_head q
  rw [List.getElem?_append_left hi] at this
  exact h (List.mem_of_getElem? this)
theorem hit_app {pre l y : List Nat} {i : Nat} (h : pre.length ≤ i) : Hit (pre ++ l) y i ↔ Hit l y (i - pre.length) := by
  unfold Hit
  rw [List.drop_append, List.drop_of_length_le h, List.nil_append]
theorem hits {c : Nat} {t : List Nat} (hc : c ∉ t) : ∀ (rows : List (List Nat)), (∀ r ∈ rows, Free c t r) → ∀ (pre : List Nat) (i : Nat), pre.length ≤ i → (Hit (pre ++ flat (c :: t) rows) (c :: t) i ↔ i ∈ cuts (t.length + 1) pre.length rows)
  | [], _, pre, i, hi => by
    constructor
    · intro h
      have := hit_head h
      rw [flat, List.append_nil, List.getElem?_eq_none hi] at this
      cases this
    · intro h; simp [cuts] at h
  | [r], hr, pre, i, hi => by
    constructor
    · intro h
      rw [flat, hit_app hi] at h
      by_cases hl : i - pre.length < r.length
      · exact absurd (by rw [List.append_nil]; exact h) (hr r (by simp) _ hl [] (.inl rfl))
      · have := hit_head h
        rw [List.getElem?_eq_none (by omega)] at this
        cases this
    · intro h; simp [cuts] at h
  | r :: r' :: rs, hr, pre, i, hi => by
    have e : pre ++ flat (c :: t) (r :: r' :: rs) = pre ++ (r ++ ((c :: t) ++ flat (c :: t) (r' :: rs))) := by rw [flat, List.append_assoc]
    have e2 : pre ++ flat (c :: t) (r :: r' :: rs) = (pre ++ r ++ (c :: t)) ++ flat (c :: t) (r' :: rs) := by rw [e]; simp [List.append_assoc]
    rw [cuts, List.mem_cons]
    by_cases h1 : i < pre.length + r.length
    · constructor
      · intro h
        rw [e, hit_app hi] at h
        exact absurd h (hr r (by simp) _ (by omega) _ (.inr rfl))
      · rintro (h | h)
        · omega
        · have := cuts_ge _ _ _ _ h; omega
    · by_cases h2 : i = pre.length + r.length
      · constructor
        · intro _; exact .inl h2
        · intro _
          unfold Hit
          rw [e, h2, ← List.append_assoc, List.drop_left' (by simp), List.take_left' rfl]
      · by_cases h3 : i < pre.length + r.length + (t.length + 1)
        · constructor
          · intro h
            have e3 : pre ++ flat (c :: t) (r :: r' :: rs) = (pre ++ r ++ [c]) ++ (t ++ flat (c :: t) (r' :: rs)) := by rw [e]; simp [List.append_assoc]
            exact absurd (mem_of_at e3 (by simp; omega) (by simp; omega) (hit_head h)) hc
          · rintro (h | h)
            · omega
            · have := cuts_ge _ _ _ _ h; omega
        · have ih := hits hc (r' :: rs) (fun q hq => hr q (List.mem_cons_of_mem _ hq)) (pre ++ r ++ (c :: t)) i (by simp; omega)
          rw [e2, ih, show (pre ++ r ++ (c :: t)).length = pre.length + r.length + (t.length + 1) by simp; omega]
          constructor
          · exact .inr
          · rintro (h | h)
            · omega
            · exact h
theorem walk_rows {x y : Str} {c : Nat} {t : List Nat} (hy : y.cps.toList = c :: t) (hc : c ∉ t) (lim : Nat) : ∀ (rows : List (List Nat)), rows ≠ [] → (∀ r ∈ rows, Free c t r) → ∀ (pre : List Nat), x.cps.toList = pre ++ flat (c :: t) rows → ∀ (st : Array Nat) (free : Nat), free ≤ pre.length → st.size + rows.length ≤ lim →
    (forIn (List.range' pre.length ((flat (c :: t) rows).length + 1)) (st, free) (occBody x y x.length lim)).run.1.toList = st.toList ++ cuts (t.length + 1) pre.length rows := by
  have ly : y.length = t.length + 1 := by rw [show y.length = y.cps.toList.length by simp [Str.length], hy]; rfl
  have ati : ∀ {rows : List (List Nat)} {pre : List Nat} (hx : x.cps.toList = pre ++ flat (c :: t) rows) (hr : ∀ r ∈ rows, Free c t r) {i : Nat}, pre.length ≤ i → (At x y x.length i ↔ i ∈ cuts (t.length + 1) pre.length rows) := fun {rows pre} hx hr {i} hi => by
    rw [at_iff x y (by rw [hy]; simp), hx, hy]; exact hits hc _ hr _ i hi
  intro rows
  induction rows with
  | nil => intro h; exact absurd rfl h
  | cons r rs ih =>
    intro _ hr pre hx st free hf hs
    cases rs with
    | nil =>
      rw [walk_no x y lim _ _ fun i hi q => ?_]
      · simp [cuts]
      · have := (ati hx hr (by simp [List.mem_range'] at hi; omega)).mp q.2
        simp [cuts] at this
    | cons r' rs =>
      have lf : (flat (c :: t) (r :: r' :: rs)).length + 1 = r.length + (1 + (t.length + ((flat (c :: t) (r' :: rs)).length + 1))) := by rw [flat]; simp; omega
      have sp : List.range' pre.length ((flat (c :: t) (r :: r' :: rs)).length + 1) = List.range' pre.length r.length ++ ((pre.length + r.length) :: (List.range' (pre.length + r.length + 1) t.length ++ List.range' (pre.length + r.length + (t.length + 1)) ((flat (c :: t) (r' :: rs)).length + 1))) := by
        rw [lf, ← List.range'_append_1, Nat.add_comm 1, List.range'_succ, ← List.range'_append_1, show pre.length + r.length + 1 + t.length = pre.length + r.length + (t.length + 1) by omega]
      have e2 : x.cps.toList = (pre ++ r ++ (c :: t)) ++ flat (c :: t) (r' :: rs) := by rw [hx, flat]; simp [List.append_assoc]
      have lp : (pre ++ r ++ (c :: t)).length = pre.length + r.length + (t.length + 1) := by simp; omega
      rw [sp, walk_app, walk_no x y lim (List.range' pre.length r.length) (st, free) fun i hi q => ?_]
      · rw [walk_yes x y lim (by show st.size < lim; simp at hs; omega) (by show free ≤ _; omega) ((ati hx hr (by omega)).mpr (by rw [cuts]; exact List.mem_cons_self ..)), walk_app, walk_no x y lim (List.range' (pre.length + r.length + 1) t.length) _ fun i hi q => ?_]
        · have := ih (by simp) (fun q hq => hr q (List.mem_cons_of_mem _ hq)) (pre ++ r ++ (c :: t)) e2 (st.push (pre.length + r.length)) (pre.length + r.length + y.length) (by rw [lp, ly]; omega) (by simp at hs ⊢; omega)
          rw [lp] at this
          rw [this, cuts]
          simp
        · have h1 := q.1
          simp [List.mem_range'] at hi
          have h2 : pre.length + r.length + y.length ≤ i := h1
          rw [ly] at h2
          omega
      · simp [List.mem_range'] at hi
        have := (ati hx hr (by omega)).mp q.2
        rw [cuts, List.mem_cons] at this
        rcases this with h | h
        · omega
        · have := cuts_ge _ _ _ _ h; omega
def ofL (l : List Nat) : Str := ⟨l.toArray⟩
theorem parts_rows {x : Str} {y : List Nat} : ∀ (rows : List (List Nat)), rows ≠ [] → ∀ (pre : List Nat), x.cps.toList = pre ++ flat y rows → partsFrom x y.length pre.length (cuts y.length pre.length rows) = rows.map ofL
  | [], h, _, _ => absurd rfl h
  | [r], _, pre, hx => by
    rw [cuts, partsFrom, List.map_cons, List.map_nil]
    congr 1
    apply Str.ext'
    apply Array.toList_inj.mp
    rw [strSub_toList, hx, flat, List.drop_left]
    have lx : x.length = pre.length + r.length := by rw [show x.length = x.cps.toList.length by simp [Str.length], hx, flat]; simp
    rw [lx, show pre.length + r.length - pre.length = r.length by omega, List.take_length]
    rfl
  | r :: r' :: rs, _, pre, hx => by
    have e2 : x.cps.toList = (pre ++ r ++ y) ++ flat y (r' :: rs) := by rw [hx, flat]; simp [List.append_assoc]
    have ih := parts_rows (r' :: rs) (by simp) (pre ++ r ++ y) e2
    rw [show (pre ++ r ++ y).length = pre.length + r.length + y.length by simp; omega] at ih
    rw [cuts, partsFrom, ih, show List.map ofL (r :: r' :: rs) = ofL r :: List.map ofL (r' :: rs) from rfl]
    congr 1
    apply Str.ext'
    apply Array.toList_inj.mp
    rw [strSub_toList, hx, flat, List.drop_left, List.append_assoc, show pre.length + r.length - pre.length = r.length by omega, List.take_left' rfl]
    rfl
theorem rows_le (c : Nat) (t : List Nat) : ∀ rows : List (List Nat), rows.length ≤ (flat (c :: t) rows).length + 1
  | [] => by simp
  | [r] => by simp
  | r :: r' :: rs => by
    have := rows_le c t (r' :: rs)
    rw [flat]
    simp at this ⊢
    omega
theorem cuts_nil {w n : Nat} : ∀ {rows : List (List Nat)}, rows ≠ [] → cuts w n rows = [] → ∃ r, rows = [r]
  | [], h, _ => absurd rfl h
  | [r], _, _ => ⟨r, rfl⟩
  | r :: r' :: rs, _, h => by rw [cuts] at h; cases h
theorem split_free {c : Nat} {t : List Nat} {rows : List (List Nat)} (hc : c ∉ t) (hk : ∀ k ∈ c :: t, k < 256) (hne : rows ≠ []) (hr : ∀ r ∈ rows, Free c t r) : Txt.split (ofL (flat (c :: t) rows)) (ofL (c :: t)) = rows.map ofL := by
  have xl : (ofL (flat (c :: t) rows)).cps.toList = [] ++ flat (c :: t) rows := by simp [ofL]
  have yl : (ofL (c :: t)).cps.toList = c :: t := by simp [ofL]
  have lx : (ofL (flat (c :: t) rows)).length = (flat (c :: t) rows).length := by simp [ofL, Str.length]
  have ly : (ofL (c :: t)).length = (c :: t).length := by simp [ofL, Str.length]
  have occ : occurrences (ofL (flat (c :: t) rows)) (ofL (c :: t)) 0 (ofL (flat (c :: t) rows)).length ((ofL (flat (c :: t) rows)).length + 1) = cuts (t.length + 1) 0 rows := by
    rw [occ_eq]
    have := walk_rows (x := ofL (flat (c :: t) rows)) (y := ofL (c :: t)) yl hc ((ofL (flat (c :: t) rows)).length + 1) rows hne hr [] xl #[] 0 (Nat.le_refl _) (by rw [lx]; simpa using rows_le c t rows)
    rw [show (ofL (flat (c :: t) rows)).length + 1 - 0 = (flat (c :: t) rows).length + 1 by rw [lx]; omega]
    simpa using this
  have one : ∀ r, rows = [r] → [ofL (flat (c :: t) rows)] = rows.map ofL := fun r e => by rw [e]; rfl
  have ky : PySem.Builtin.Str.strKind (ofL (c :: t)) = 1 := by
    unfold PySem.Builtin.Str.strKind
    rw [if_pos]
    simpa [ofL] using hk
  have kx : 1 ≤ PySem.Builtin.Str.strKind (ofL (flat (c :: t) rows)) := by
    unfold PySem.Builtin.Str.strKind
    split
    · exact Nat.le_refl _
    · split <;> decide
  unfold Txt.split
  split
  · rename_i h
    simp only [Bool.or_eq_true, decide_eq_true_eq] at h
    rcases h with h | h
    · match rows, hne with
      | [r], _ => exact one r rfl
      | r :: r' :: rs, _ =>
        rw [lx, ly] at h
        rw [flat] at h
        simp at h
        omega
    · omega
  · split
    · rename_i h
      rw [occ] at h
      obtain ⟨r, e⟩ := cuts_nil hne (by simpa using h)
      exact one r e
    · rw [occ, partsBetween_eq, ly]
      have := parts_rows (x := ofL (flat (c :: t) rows)) (y := c :: t) rows hne [] xl
      simpa using this
theorem split_rows {c : Nat} {t : List Nat} {rows : List (List Nat)} (hc : c ∉ t) (hk : ∀ k ∈ c :: t, k < 256) (hne : rows ≠ []) (hr : ∀ r ∈ rows, c ∉ r) : Txt.split (ofL (flat (c :: t) rows)) (ofL (c :: t)) = rows.map ofL :=
  split_free hc hk hne fun r h => free_no (hr r h)
theorem join_rows (y : List Nat) : ∀ rows : List (List Nat), Str.join (ofL y) (rows.map ofL) = ofL (flat y rows)
  | [] => rfl
  | [r] => rfl
  | r :: r' :: rs => by
    have ih := join_rows y (r' :: rs)
    show ofL r ++ ofL y ++ Str.join (ofL y) ((r' :: rs).map ofL) = _
    rw [ih, flat]
    apply Str.ext'
    simp [ofL, Str.cps_append]
end TxtA
end
section
set_option Elab.async false
set_option linter.all false
set_option maxRecDepth 100000
namespace TxtA
open PySem PySem.StrLaws PySem.Builtin.Str PySem.NumText
def digs (n : Nat) : List Nat := (Nat.toDigits 10 n).map Char.toNat
theorem ofS (n : Nat) : Str.ofString (toString ((n : Nat) : Int)) = ofL (digs n) := Str.ext' (Array.toList_inj.mp (by rw [PySem.W.KIN.signs_num]; simp [ofL, digs]))
theorem digs_val (n : Nat) : digitsVal (digs n) = n := PySem.W.KIN.val_back n
theorem digs_all (n : Nat) : AllDigits (digs n) := by
  intro c hc
  obtain ⟨ch, hch, e⟩ := List.mem_map.mp hc
  have r := PyProof.Rows.digit_range (Nat.isDigit_of_mem_toDigits (by decide) (by decide) hch)
  rw [← e]
  exact r
theorem digs_ne (n : Nat) : digs n ≠ [] := fun e => by
  have h3 : Nat.toDigits 10 n = [] := List.map_eq_nil_iff.mp e
  exact absurd h3 Nat.toDigits_ne_nil
theorem digs_lenK {n k : Nat} (h0 : 0 < k) (h : n < 10 ^ k) : (digs n).length ≤ k := by
  unfold digs
  rw [List.length_map]
  exact (Nat.length_toDigits_le_iff (by decide) h0).mpr h
theorem digs_reads {n : Nat} (h : n < 10 ^ 70) : intText? (ofL (digs n)) = some (n : Int) := by
  have l : (ofL (digs n)).length = (digs n).length := by simp [ofL, Str.length]
  have e : (ofL (digs n)).cps.toList = digs n := by simp [ofL]
  have := intText_digits (x := ofL (digs n)) (by rw [e]; exact digs_all n) (by rw [e]; exact digs_ne n) (by rw [l]; exact Nat.le_trans (digs_lenK (by decide) h) (by decide))
  rw [e, digs_val] at this
  exact this
theorem digs_zero {n : Nat} {cs : List Nat} (h : digs n = 48 :: cs) : cs = [] := by
  have hv := digs_val n
  have ha := digs_all n
  rw [h] at hv ha
  rw [digitsVal_zero] at hv
  have hc : AllDigits cs := fun c hc => ha c (List.mem_cons_of_mem _ hc)
  have ht := toDigits_all cs hc
  rw [hv] at ht
  have hl := congrArg List.length h
  rw [digs, List.length_map, ht, List.length_cons] at hl
  have le : (cs.dropWhile (· == 48)).length ≤ cs.length := len_dropWhile _ _
  cases hd : cs.dropWhile (· == 48) with
  | nil =>
    rw [hd] at hl
    simp at hl
    exact hl
  | cons c r =>
    rw [hd] at hl le
    simp at hl le
    omega
end TxtA
end
section
set_option Elab.async false
set_option linter.all false
set_option maxRecDepth 100000
namespace DL
open PySem L2
inductive D where
  | non | bl (b : Bool) | int (i : Int) | str (x : Str) | ty (n : String) | cls (c : Str)
  | tup (xs : List D) | lst (xs : List D) | dct (ks : List Key) (vs : List D) | exc (c : Str) (as : List D)
instance : Inhabited D := ⟨.non⟩
inductive R (α : Type) where
  | ok (a : α) | err (e : D) | bad
def R.bind {α β : Type} : R α → (α → R β) → R β
  | .ok a, k => k a
  | .err e, _ => .err e
  | .bad, _ => .bad
def RW {α : Type} (r : R α) (Q : α → Prop) (E : D → Prop) : Prop := match r with
  | .ok a => Q a
  | .err e => E e
  | .bad => False
theorem RW.mono {α : Type} {r : R α} {Q Q' : α → Prop} {E E' : D → Prop} (h : RW r Q E) (hq : ∀ a, r = .ok a → Q a → Q' a) (he : ∀ e, E e → E' e) : RW r Q' E' := by
  cases r with
  | ok a => exact hq a rfl h
  | err e => exact he e h
  | bad => exact h
theorem RW.of_bind {α β : Type} {r : R α} {k : α → R β} {Q : β → Prop} {E : D → Prop} (h : RW (r.bind k) Q E) : RW r (fun a => RW (k a) Q E) E := by
  cases r with
  | ok a => exact h
  | err e => exact h
  | bad => exact h
def clsNames : List Str := ["ChalkError", "NoPlace", "Same", "NoFloor", "Endless", "NoDeed", "NoText", "NoName", "TooMany", "NoChange", "NoFrame", "NoValue", "Unlike", "NoRatio", "NoBow", "NoRow"]
def subX (c d : Str) : Option Bool := bif clsNames.contains c && clsNames.contains d then some (c == d || d == "ChalkError") else none
structure XcOk (K : PySem.W.Frag) (mg : Str → Option Value) (c : Str) (C : Addr) : Prop where
  here : mg c = some (.ref C)
  exc : ExcC K C
  isi : ∀ d Dd b, subX c d = some b → mg d = some (.ref Dd) → PySem.W.kitOne K (.ref C) (.ref Dd) = some b
  val : PySem.W.kitOne K (.ref C) (.type "ValueError") = some true
  ctc : ∀ d Dd, subX c d = some true → mg d = some (.ref Dd) → PySem.W.exmOne K (.ref C) (.ref Dd) = some true
def DctOk (G : Hp) (dct : Option Addr) (vs : List V) : Prop := (dct = none ∧ vs = []) ∨ ∃ dx v, dct = some dx ∧ vs = [v] ∧ G dx = some (.xd [("at", v)])
mutual
def Rep (K : PySem.W.Frag) (mg : Str → Option Value) (G : Hp) : D → V → Prop
  | .non, v => v = .non
  | .bl b, v => v = .bl b
  | .int i, v => v = .int i
  | .str x, v => v = .str x
  | .ty n, v => v = .ty n
  | .cls c, v => ∃ C, v = .ref C ∧ mg c = some (.ref C)
  | .tup ds, v => ∃ a vs, v = .ref a ∧ SqT K G a vs ∧ Reps K mg G ds vs
  | .lst ds, v => ∃ a vs, v = .ref a ∧ SqL K G a vs ∧ Reps K mg G ds vs
  | .dct ks ds, v => ∃ a vs, v = .ref a ∧ Rd G a (.dK (ks.zip vs)) ∧ ks.length = vs.length ∧ Reps K mg G ds vs
  | .exc c as, v => ∃ x C dct vs, v = .ref x ∧ G x = some (excO x C dct) ∧ XcOk K mg c C ∧ DctOk G dct vs ∧ Reps K mg G as vs
def Reps (K : PySem.W.Frag) (mg : Str → Option Value) (G : Hp) : List D → List V → Prop
  | [], vs => vs = []
  | d :: ds, vs => ∃ v r, vs = v :: r ∧ Rep K mg G d v ∧ Reps K mg G ds r
end
def ExcR (K : PySem.W.Frag) (mg : Str → Option Value) (G : Hp) (e : D) (C : Addr) (dct : Option Addr) : Prop := ∃ c as vs, e = .exc c as ∧ XcOk K mg c C ∧ DctOk G dct vs ∧ Reps K mg G as vs
section
variable {K : PySem.W.Frag} {mg : Str → Option Value} {G G' H H' : Hp}
theorem Same.sqT {a : Addr} {xs : List V} (e : Same G G') (h : SqT K G a xs) : SqT K G' a xs := e.tup h
theorem Same.rd {a : Addr} {u : HO} (e : Same G G') (h : Rd G a u) : Rd G' a u := by
  rcases h with h | ⟨o, h⟩
  · exact .inl (e _ _ h)
  · exact .inr ⟨o, e _ _ h⟩
theorem DctOk.mono {dct : Option Addr} {vs : List V} (e : Same G G') (h : DctOk G dct vs) : DctOk G' dct vs := by
  rcases h with h | ⟨dx, v, h1, h2, h3⟩
  · exact .inl h
  · exact .inr ⟨dx, v, h1, h2, e _ _ h3⟩
mutual
theorem Rep.mono (e : Same G G') : ∀ {d : D} {v : V}, Rep K mg G d v → Rep K mg G' d v
  | .non, _, h => h
  | .bl _, _, h => h
  | .int _, _, h => h
  | .str _, _, h => h
  | .ty _, _, h => h
  | .cls _, _, h => h
  | .tup _, _, ⟨a, vs, h1, h2, h3⟩ => ⟨a, vs, h1, Same.sqT e h2, Reps.mono e h3⟩
  | .lst _, _, ⟨a, vs, h1, h2, h3⟩ => ⟨a, vs, h1, e.seq h2, Reps.mono e h3⟩
  | .dct _ _, _, ⟨a, vs, h1, h2, h3, h4⟩ => ⟨a, vs, h1, Same.rd e h2, h3, Reps.mono e h4⟩
  | .exc _ _, _, ⟨x, C, dct, vs, h1, h2, h3, h4, h5⟩ => ⟨x, C, dct, vs, h1, e _ _ h2, h3, h4.mono e, Reps.mono e h5⟩
theorem Reps.mono (e : Same G G') : ∀ {ds : List D} {vs : List V}, Reps K mg G ds vs → Reps K mg G' ds vs
  | [], _, h => h
  | _ :: _, _, ⟨v, r, h1, h2, h3⟩ => ⟨v, r, h1, Rep.mono e h2, Reps.mono e h3⟩
end
theorem Reps.length : ∀ {ds : List D} {vs : List V}, Reps K mg G ds vs → ds.length = vs.length
  | [], _, h => by cases h; rfl
  | _ :: _, _, ⟨v, r, h1, _, h3⟩ => by cases h1; rw [List.length_cons, List.length_cons, Reps.length h3]
theorem Reps.nil : Reps K mg G [] [] := rfl
theorem Reps.cons {d : D} {v : V} {ds : List D} {vs : List V} (h : Rep K mg G d v) (t : Reps K mg G ds vs) : Reps K mg G (d :: ds) (v :: vs) := ⟨v, vs, rfl, h, t⟩
theorem Reps.append : ∀ {ds es : List D} {vs ws : List V}, Reps K mg G ds vs → Reps K mg G es ws → Reps K mg G (ds ++ es) (vs ++ ws)
  | [], _, _, _, h, t => by cases h; exact t
  | _ :: _, _, _, _, ⟨v, r, h1, h2, h3⟩, t => by cases h1; exact ⟨v, r ++ _, rfl, h2, h3.append t⟩
theorem Reps.get : ∀ {ds : List D} {vs : List V} {i : Nat} {d : D}, Reps K mg G ds vs → ds[i]? = some d → ∃ v, vs[i]? = some v ∧ Rep K mg G d v
  | [], _, _, _, _, e => by simp at e
  | _ :: _, _, 0, _, ⟨v, r, h1, h2, _⟩, e => by simp at e; subst e; subst h1; exact ⟨v, rfl, h2⟩
  | _ :: ds, _, i + 1, d, ⟨v, r, h1, _, h3⟩, e => by
    subst h1
    obtain ⟨w, e1, e2⟩ := Reps.get (i := i) (d := d) h3 (by simpa using e)
    exact ⟨w, by simpa using e1, e2⟩
theorem Reps.drop : ∀ {ds : List D} {vs : List V} (n : Nat), Reps K mg G ds vs → Reps K mg G (ds.drop n) (vs.drop n)
  | _, _, 0, h => h
  | [], _, _ + 1, h => by cases h; exact rfl
  | _ :: _, _, n + 1, ⟨_, _, h1, _, h3⟩ => by subst h1; exact h3.drop n
theorem Reps.take : ∀ {ds : List D} {vs : List V} (n : Nat), Reps K mg G ds vs → Reps K mg G (ds.take n) (vs.take n)
  | _, _, 0, h => by simp only [List.take_zero]; exact rfl
  | [], _, _ + 1, h => by cases h; exact rfl
  | _ :: _, _, n + 1, ⟨v, _, h1, h2, h3⟩ => by subst h1; exact ⟨v, _, rfl, h2, h3.take n⟩
theorem Reps.ints (ns : List Int) : Reps K mg G (ns.map D.int) (ns.map V.int) := by
  induction ns with
  | nil => exact rfl
  | cons n r ih => exact ⟨_, _, rfl, rfl, ih⟩
theorem Reps.of_ints : ∀ {ns : List Int} {vs : List V}, Reps K mg G (ns.map D.int) vs → vs = ns.map V.int
  | [], _, h => h
  | _ :: _, _, ⟨_, _, h1, h2, h3⟩ => by subst h1; cases h2; rw [Reps.of_ints h3]; rfl
theorem Reps.of_bools : ∀ {bs : List Bool} {vs : List V}, Reps K mg G (bs.map D.bl) vs → vs = bs.map V.bl
  | [], _, h => h
  | _ :: _, _, ⟨_, _, h1, h2, h3⟩ => by subst h1; cases h2; rw [Reps.of_bools h3]; rfl
theorem Reps.at {ds : List D} {vs : List V} {i : Int} {d : D} (h : Reps K mg G ds vs) (e : atI ds i = some d) : ∃ v, atI vs i = some v ∧ Rep K mg G d v := by
  unfold atI at e ⊢
  rw [h.length] at e
  cases q : ixN vs.length i with
  | none => rw [q] at e; cases e
  | some j => rw [q] at e; exact h.get e
structure Step (G H G' H' : Hp) : Prop where
  g : Same G G'
  h : Same H H'
  e : Same G' H'
  c : ∀ a o, H a = some o → G a = none → G' a = none
theorem Step.refl (e : Same G H) : Step G H G H := ⟨Same.refl _, Same.refl _, e, fun _ _ _ h => h⟩
theorem Step.trans {G1 H1 : Hp} (a : Step G H G1 H1) (b : Step G1 H1 G' H') : Step G H G' H' :=
  ⟨a.g.trans b.g, a.h.trans b.h, b.e, fun x o p q => b.c x o (a.h x o p) (a.c x o p q)⟩
theorem same_upd {p : Addr} {o : HO} (h : H p = none) : Same H (upd H p o) := same_new h o
theorem Step.pub {p : Addr} {o : HO} (e : Same G H) (h : H p = none) : Step G H (upd G p o) (upd H p o) := by
  refine ⟨same_upd (e.free h), same_upd h, fun b u q => ?_, fun a u p1 q1 => ?_⟩
  · by_cases hb : b = p
    · subst hb; rw [upd_same] at q ⊢; exact q
    · rw [upd_ne hb] at q ⊢; exact e b u q
  · have hb : a ≠ p := ne_of_none p1 h
    rw [upd_ne hb]; exact q1
theorem Step.hid {p : Addr} {o : HO} (e : Same G H) (h : H p = none) : Step G H G (upd H p o) :=
  ⟨Same.refl _, same_upd h, e.trans (same_upd h), fun _ _ _ q => q⟩
theorem Step.heap (e : Same G H) (h : Same H H') : Step G H G H' := ⟨Same.refl _, h, e.trans h, fun _ _ _ q => q⟩
end
abbrev DSt := List (Option D)
structure Ok0 (K : PySem.W.Frag) (mg : Str → Option Value) (σd : DSt) (σ : St) (G H : Hp) : Prop where
  ext : Same G H
  len : σd.length = σ.length
  val : ∀ (i : Nat) (d : D), σd[i]? = some (some d) → ∃ v, σ[i]? = some (some v) ∧ Rep K mg G d v
section
variable {K : PySem.W.Frag} {mg : Str → Option Value} {G G' H H' : Hp} {σd : DSt} {σ : St}
theorem Ok0.step (o : Ok0 K mg σd σ G H) (s : Step G H G' H') : Ok0 K mg σd σ G' H' :=
  ⟨s.e, o.len, fun i d q => let ⟨v, h1, h2⟩ := o.val i d q; ⟨v, h1, h2.mono s.g⟩⟩
theorem Ok0.set {i : Nat} {d : D} {v : V} (o : Ok0 K mg σd σ G H) (h : Rep K mg G d v) : Ok0 K mg (σd.set i (some d)) (σ.set i (some v)) G H := by
  refine ⟨o.ext, by simp [o.len], fun j e q => ?_⟩
  by_cases hj : j = i
  · subst hj
    have hl : j < σd.length := by have := (List.getElem?_eq_some_iff.mp q).1; simpa using this
    rw [List.getElem?_set_self hl] at q
    cases q
    exact ⟨v, by rw [List.getElem?_set_self (by rw [← o.len]; exact hl)], h⟩
  · rw [List.getElem?_set_ne (Ne.symm hj)] at q ⊢
    exact o.val j e q
theorem Ok0.cons {x : Option D} {y : Option V} (o : Ok0 K mg σd σ G H) (h : ∀ d, x = some d → ∃ v, y = some v ∧ Rep K mg G d v) : Ok0 K mg (x :: σd) (y :: σ) G H := by
  refine ⟨o.ext, by simp [o.len], fun j e q => ?_⟩
  cases j with
  | zero =>
    have q' : x = some e := by simpa using q
    obtain ⟨v, h1, h2⟩ := h e q'
    exact ⟨v, by simp [h1], h2⟩
  | succ j => exact o.val j e (by simpa using q)
theorem Ok0.nones (o : Ok0 K mg σd σ G H) : ∀ k : Nat, Ok0 K mg (List.replicate k none ++ σd) (List.replicate k none ++ σ) G H
  | 0 => o
  | k + 1 => (Ok0.nones o k).cons (x := none) (y := none) (fun d e => by cases e)
end
section
variable (K : PySem.W.Frag) (mg : Str → Option Value) (E : XK)
def After (Q : VK) (G H : Hp) (d : D) : Prop := ∀ v G' H', Step G H G' H' → Rep K mg G' d v → Q v H'
def AfterT (Q : Bool → Hp → Prop) (G H : Hp) (b : Bool) : Prop := ∀ G' H', Step G H G' H' → Q b H'
def AfterA (Q : List V → Hp → Prop) (G H : Hp) (ds : List D) : Prop := ∀ vs G' H', Step G H G' H' → Reps K mg G' ds vs → Q vs H'
def AfterF (Q : VK) (G H : Hp) (ds : List D) : Prop := ∀ a vs G' H', Step G H G' H' → H a = none → H' a = some (.lst vs) → G' a = none → Reps K mg G' ds vs → Q (.ref a) H'
def AfterX (G H : Hp) (e : D) : Prop := ∀ G' H' C dct, Step G H G' H' → ExcR K mg G' e C dct → E (.ref C) dct H'
def tE (f : DSt → R D) : TE := fun σ H Q => ∃ G σd, Ok0 K mg σd σ G H ∧ RW (f σd) (After K mg Q G H) (AfterX K mg E G H)
def tT (f : DSt → R Bool) : TT := fun σ H Q => ∃ G σd, Ok0 K mg σd σ G H ∧ RW (f σd) (AfterT Q G H) (AfterX K mg E G H)
def tAr (f : DSt → R (List D)) : TA := fun σ H Q => ∃ G σd, Ok0 K mg σd σ G H ∧ RW (f σd) (AfterA K mg Q G H) (AfterX K mg E G H)
def tFr (f : DSt → R (List D)) : TE := fun σ H Q => ∃ G σd, Ok0 K mg σd σ G H ∧ RW (f σd) (AfterF K mg Q G H) (AfterX K mg E G H)
end
def DE (X : Cx) (E : XK) (e : Expr) (f : DSt → R D) : Prop := PE X e (tE X.K X.mg E f)
def DT (X : Cx) (E : XK) (e : Expr) (f : DSt → R Bool) : Prop := PT X e (tT X.K X.mg E f)
def DW (X : Cx) (E : XK) (e : Expr) (f : DSt → R Bool) : Prop := PW X e (tT X.K X.mg E f)
def DA (X : Cx) (E : XK) (es : List Expr) (f : DSt → R (List D)) : Prop := PA X es (tAr X.K X.mg E f)
def DF (X : Cx) (E : XK) (e : Expr) (f : DSt → R (List D)) : Prop := PE X e (tFr X.K X.mg E f)
section
variable {X : Cx} {E : XK} {K : PySem.W.Frag} {mg : Str → Option Value} {G G1 H H1 : Hp}
theorem PE.mono' {e : Expr} {t t' : TE} (h : PE X e t) (m : ∀ σ H Q, t' σ H Q → t σ H Q) : PE X e t' := fun pins s σ H Q I q => h pins s σ H Q I (m σ H Q q)
theorem PT.mono' {e : Expr} {t t' : TT} (h : PT X e t) (m : ∀ σ H Q, t' σ H Q → t σ H Q) : PT X e t' := fun pins s σ H Q I q => h pins s σ H Q I (m σ H Q q)
theorem PW.mono' {e : Expr} {t t' : TT} (h : PW X e t) (m : ∀ σ H Q, t' σ H Q → t σ H Q) : PW X e t' := fun wh pins s σ H Q I q => h wh pins s σ H Q I (m σ H Q q)
theorem PA.mono' {es : List Expr} {t t' : TA} (h : PA X es t) (m : ∀ σ H Q, t' σ H Q → t σ H Q) : PA X es t' := fun pos pins s σ H Q I q => h pos pins s σ H Q I (m σ H Q q)
theorem PS.mono' {st : Stmt} {t t' : TS} (h : PS X st t) (m : ∀ D σ H, t' D σ H → t D σ H) : PS X st t' := fun pins s σ H D I q => h pins s σ H D I (m D σ H q)
theorem PSs.mono' {st : List Stmt} {t t' : TS} (h : PSs X st t) (m : ∀ D σ H, t' D σ H → t D σ H) : PSs X st t' := fun pins s σ H D I q => h pins s σ H D I (m D σ H q)
theorem After.step {Q : VK} {d : D} (h : After K mg Q G H d) (s : Step G H G1 H1) : After K mg Q G1 H1 d := fun v G' H' s' r => h v G' H' (s.trans s') r
theorem AfterX.step {e : D} (h : AfterX K mg E G H e) (s : Step G H G1 H1) : AfterX K mg E G1 H1 e := fun G' H' C dct s' r => h G' H' C dct (s.trans s') r
theorem AfterT.step {Q : Bool → Hp → Prop} {b : Bool} (h : AfterT Q G H b) (s : Step G H G1 H1) : AfterT Q G1 H1 b := fun G' H' s' => h G' H' (s.trans s')
theorem After.now {Q : VK} {d : D} {v : V} (h : After K mg Q G H d) (e : Same G H) (r : Rep K mg G d v) : Q v H := h v G H (.refl e) r
theorem DF.de {e : Expr} {f : DSt → R (List D)} (h : DF X E e f) : DE X E e (fun σ => (f σ).bind fun ds => .ok (.lst ds)) := by
  refine PE.mono' h fun σ H Q ⟨G, σd, ok, q⟩ => ⟨G, σd, ok, q.of_bind.mono (fun ds _ q => ?_) fun _ z => z⟩
  intro a vs G' H' s n e g r
  have q' : After X.K X.mg Q G H (.lst ds) := q
  have sg : Same G' (upd G' a (.lst vs)) := same_upd g
  refine q' (.ref a) (upd G' a (.lst vs)) H' ⟨s.g.trans sg, s.h, fun b u p => ?_, fun b u p1 p2 => ?_⟩ ⟨a, vs, rfl, SqL.of upd_same, r.mono sg⟩
  · by_cases hb : b = a
    · subst hb; rw [upd_same] at p; cases p; exact e
    · rw [upd_ne hb] at p; exact s.e b u p
  · have hb : b ≠ a := ne_of_none p1 n
    rw [upd_ne hb]; exact s.c b u p1 p2
def eVar (i : Nat) : DSt → R D := fun σ => match σ[i]? with
  | some (some d) => .ok d
  | _ => .bad
theorem de_var (i : Nat) {x : Str} {pos : Pos} (hN : X.N[i]? = some x := by rfl) (hv : Vis X.env.scope x := by first | exact Or.inl rfl | exact Or.inr (Or.inl rfl) | exact Or.inr (Or.inr rfl)) (hd : (x == ("__debug__" : Str)) = false := by decide)
    (hcd : (x == ("__classdict__" : Str)) = false := by decide) : DE X E (.Name x pos) (eVar i) := by
  refine PE.mono' (pv i hN hv hd hcd) fun σ H Q ⟨G, σd, ok, q⟩ => ?_
  unfold eVar at q
  split at q
  · rename_i d e
    obtain ⟨v, h1, h2⟩ := ok.val i d e
    exact ⟨v, h1, After.now q ok.ext h2⟩
  · exact q.elim
def eC (d : D) : DSt → R D := fun _ => .ok d
theorem de_int {i j pos} : DE X E (.Constant (.int i) j pos) (eC (.int i)) := PE.mono' pe_int fun _ _ _ ⟨_, _, ok, q⟩ => After.now q ok.ext rfl
theorem de_bl {b j pos} : DE X E (.Constant (.bool b) j pos) (eC (.bl b)) := PE.mono' pe_bl fun _ _ _ ⟨_, _, ok, q⟩ => After.now q ok.ext rfl
theorem de_non {j pos} : DE X E (.Constant .none j pos) (eC .non) := PE.mono' pe_non fun _ _ _ ⟨_, _, ok, q⟩ => After.now q ok.ext rfl
theorem de_str {x j pos} : DE X E (.Constant (.str x) j pos) (eC (.str x)) := PE.mono' pe_str fun _ _ _ ⟨_, _, ok, q⟩ => After.now q ok.ext rfl
theorem de_glob {x : Str} {d : D} {v : V} {u : Value} {pos : Pos} (hm : X.mg x = some u) (r : RelV v u) (rp : ∀ G, Rep X.K X.mg G d v) (hg : Gl X x := by rfl) (hd : (x == ("__debug__" : Str)) = false := by decide) : DE X E (.Name x pos) (eC d) :=
  PE.mono' (pe_glob hg hm r hd) fun _ _ _ ⟨_, _, ok, q⟩ => After.now q ok.ext (rp _)
theorem de_cls {x : Str} {C : Addr} {pos : Pos} (hm : X.mg x = some (.ref C)) (hg : Gl X x := by rfl) (hd : (x == ("__debug__" : Str)) = false := by decide) : DE X E (.Name x pos) (eC (.cls x)) :=
  de_glob hm (v := .ref C) rfl (fun _ => ⟨C, rfl, hm⟩) hg hd
theorem de_ty {x : Str} {n : String} {pos : Pos} (hm : X.mg x = none) (hv : bootBuiltins x = some (.type n) := by rfl) (hg : Gl X x := by rfl) (hn : x ≠ "__name__" := by decide) (hd : (x == ("__debug__" : Str)) = false := by decide) : DE X E (.Name x pos) (eC (.ty n)) :=
  PE.mono' (pe_bltn hg hm hv (v := .ty n) rfl hn hd) fun _ _ _ ⟨_, _, ok, q⟩ => After.now q ok.ext rfl
def OpD (K : PySem.W.Frag) (mg : Str → Option Value) (r : R2) (g : D → D → R D) : Prop :=
  ∀ (G H : Hp) (a b : D) (x y : V) (Q : VK), Same G H → Rep K mg G a x → Rep K mg G b y → RW (g a b) (After K mg Q G H) (fun _ => False) → r x y H Q
def eOp (g : D → D → R D) (fa fb : DSt → R D) : DSt → R D := fun σ => (fa σ).bind fun x => (fb σ).bind fun y => g x y
theorem tE_then {f : DSt → R D} {α : Type} {k : D → R α} {σ : St} {H : Hp} {Q : VK} {P : Hp → Hp → α → Prop} {G : Hp} {σd : DSt}
    (ok : Ok0 K mg σd σ G H) (q : RW ((f σd).bind k) (P G H) (AfterX K mg E G H))
    (h : ∀ d v G' H', Step G H G' H' → Ok0 K mg σd σ G' H' → Rep K mg G' d v → RW (k d) (P G H) (AfterX K mg E G' H') → Q v H') : tE K mg E f σ H Q :=
  ⟨G, σd, ok, q.of_bind.mono (fun d _ q v G' H' s r => h d v G' H' s (ok.step s) r (q.mono (fun _ _ z => z) fun e z => z.step s)) fun _ z => z⟩
theorem noX {α : Type} {r : R α} {Q : α → Prop} {E' : D → Prop} (hr : ∀ e, r ≠ .err e) (h : RW r Q E') : RW r Q (fun _ => False) := by
  cases r with
  | ok a => exact h
  | err e => exact absurd rfl (hr e)
  | bad => exact h
def NoErr (g : D → D → R D) : Prop := ∀ a b e, g a b ≠ .err e
theorem tOp_of {r : R2} {g : D → D → R D} (hd : OpD X.K X.mg r g) (hn : NoErr g) {fa fb : DSt → R D} {σ : St} {H : Hp} {Q : VK} (h : tE X.K X.mg E (eOp g fa fb) σ H Q) : tOp r (tE X.K X.mg E fa) (tE X.K X.mg E fb) σ H Q := by
  obtain ⟨G, σd, ok, q⟩ := h
  refine tE_then (P := After X.K X.mg Q) ok q fun a x G1 H1 s1 ok1 r1 q1 => ?_
  refine tE_then (P := fun _ _ => After X.K X.mg Q G H) ok1 q1 fun b y G2 H2 s2 ok2 r2 q2 => ?_
  exact hd G2 H2 a b x y Q ok2.ext (r1.mono s2.g) r2 (noX (hn a b) (q2.mono (fun _ _ z => z.step (s1.trans s2)) fun _ z => z))
variable {a b c : Expr} {fa fb fc : DSt → R D} {pos : Pos}
theorem de_op {op : Operator} {r : R2} {g : D → D → R D} (ho : OpR X (binaryOp op) r) (hd : OpD X.K X.mg r g) (hn : NoErr g) (ha : DE X E a fa) (hb : DE X E b fb) : DE X E (.BinOp a op b pos) (eOp g fa fb) :=
  PE.mono' (pe_op ho ha hb) fun _ _ _ h => tOp_of hd hn h
theorem de_cmp {op : CmpOp} {r : R2} {g : D → D → R D} (ho : OpR X (compareOp op) r) (hd : OpD X.K X.mg r g) (hn : NoErr g) (ha : DE X E a fa) (hb : DE X E b fb) (hm : behindInMarks op b = false := by first | exact nobehind _ (by decide) (by decide) | rfl) : DE X E (.Compare a [op] [b] pos) (eOp g fa fb) :=
  PE.mono' (pe_cmpR ho ha hb hm) fun _ _ _ h => tOp_of hd hn h
def asB : D → R Bool
  | .bl b => .ok b
  | _ => .bad
def eTest (f : DSt → R D) : DSt → R Bool := fun σ => (f σ).bind asB
theorem tTest_of {t : TE} {f : DSt → R D} (h : ∀ σ H Q, tE X.K X.mg E f σ H Q → t σ H Q) {σ : St} {H : Hp} {Q : Bool → Hp → Prop} (q : tT X.K X.mg E (eTest f) σ H Q) : tTest t σ H Q := by
  obtain ⟨G, σd, ok, q⟩ := q
  refine h σ H _ ⟨G, σd, ok, q.of_bind.mono (fun d _ q v G' H' s r => ?_) fun _ z => z⟩
  cases d with
  | bl k => cases r; exact ⟨k, rfl, (show AfterT Q G H k from q) G' H' s⟩
  | _ => exact (show False from q).elim
theorem dt_cmp {op : CmpOp} {r : R2} {g : D → D → R D} (ho : OpR X (compareOp op) r) (hd : OpD X.K X.mg r g) (hn : NoErr g) (ha : DE X E a fa) (hb : DE X E b fb) (hm : behindInMarks op b = false := by first | exact nobehind _ (by decide) (by decide) | rfl) : DT X E (.Compare a [op] [b] pos) (eTest (eOp g fa fb)) :=
  PT.mono' (pt_cmpR ho ha hb hm) fun _ _ _ q => tTest_of (fun _ _ _ h => tOp_of hd hn h) q
def eChain (g g' : D → D → R D) (fa fb fc : DSt → R D) : DSt → R D := fun σ => (fa σ).bind fun x => (fb σ).bind fun y => (g x y).bind fun z => (asB z).bind fun k => bif k then (fc σ).bind fun w => g' y w else .ok (.bl false)
theorem dt_val {e : Expr} {f : DSt → R D} (h : DE X E e f) (he : ∀ whole, isTrue e X.env whole = (do let v ← whole; standAt e.pos; holding [v] (truthy v)) := by intro _; rfl) : DT X E e (eTest f) :=
  PT.mono' (pt_val h he) fun σ H Q q => tTest_of (t := tE X.K X.mg E f) (fun _ _ _ h => h) q
theorem DW.dt {e : Expr} {f : DSt → R Bool} (h : DW X E e f) : DT X E e f := h _
variable {rest : List Expr} {ga gb : DSt → R Bool}
def eAnd (fa fb : DSt → R Bool) : DSt → R Bool := fun σ => (fa σ).bind fun k => bif k then fb σ else .ok false
def eOr (fa fb : DSt → R Bool) : DSt → R Bool := fun σ => (fa σ).bind fun k => bif k then .ok true else fb σ
def eNot (fa : DSt → R Bool) : DSt → R Bool := fun σ => (fa σ).bind fun k => .ok (!k)
theorem tT_then {f : DSt → R Bool} {α : Type} {k : Bool → R α} {σ : St} {H : Hp} {Q : Bool → Hp → Prop} {P : α → Prop} {G : Hp} {σd : DSt}
    (ok : Ok0 K mg σd σ G H) (q : RW ((f σd).bind k) P (AfterX K mg E G H))
    (h : ∀ b G' H', Step G H G' H' → Ok0 K mg σd σ G' H' → RW (k b) P (AfterX K mg E G' H') → Q b H') : tT K mg E f σ H Q :=
  ⟨G, σd, ok, q.of_bind.mono (fun d _ q G' H' s => h d G' H' s (ok.step s) (q.mono (fun _ _ z => z) fun e z => z.step s)) fun _ z => z⟩
theorem dw_and1 (ha : DT X E a ga) : DW X E (.BoolOp .And [a] pos) ga := pw_and1 ha
theorem dw_or1 (ha : DT X E a ga) : DW X E (.BoolOp .Or [a] pos) ga := pw_or1 ha
theorem dw_and (ha : DT X E a ga) (hb : DW X E (.BoolOp .And (b :: rest) pos) gb) : DW X E (.BoolOp .And (a :: b :: rest) pos) (eAnd ga gb) := by
  refine PW.mono' (pw_and ha hb) fun σ H Q ⟨G, σd, ok, q⟩ => ?_
  refine tT_then ok q fun k G' H' s ok' q' => ?_
  cases k with
  | true => rw [if_pos rfl]; exact ⟨G', σd, ok', q'.mono (fun _ _ z => z.step s) fun _ z => z⟩
  | false => rw [if_neg Bool.false_ne_true]; exact (show AfterT Q G H false from q') G' H' s
theorem dw_or (ha : DT X E a ga) (hb : DW X E (.BoolOp .Or (b :: rest) pos) gb) : DW X E (.BoolOp .Or (a :: b :: rest) pos) (eOr ga gb) := by
  refine PW.mono' (pw_or ha hb) fun σ H Q ⟨G, σd, ok, q⟩ => ?_
  refine tT_then ok q fun k G' H' s ok' q' => ?_
  cases k with
  | true => rw [if_pos rfl]; exact (show AfterT Q G H true from q') G' H' s
  | false => rw [if_neg Bool.false_ne_true]; exact ⟨G', σd, ok', q'.mono (fun _ _ z => z.step s) fun _ z => z⟩
theorem dt_not (ha : DT X E a ga) : DT X E (.UnaryOp .Not a pos) (eNot ga) := by
  refine PT.mono' (pt_not ha) fun σ H Q ⟨G, σd, ok, q⟩ => ?_
  exact tT_then ok q fun k G' H' s _ q' => (show AfterT Q G H (!k) from q') G' H' s
def vAnd (fa fb : DSt → R D) : DSt → R D := fun σ => (fa σ).bind fun x => (asB x).bind fun k => bif k then fb σ else .ok (.bl false)
def vOr (fa fb : DSt → R D) : DSt → R D := fun σ => (fa σ).bind fun x => (asB x).bind fun k => bif k then .ok (.bl true) else fb σ
def vNot (fa : DSt → R D) : DSt → R D := fun σ => (fa σ).bind fun x => (asB x).bind fun k => .ok (.bl !k)
theorem de_not (ha : DE X E a fa) : DE X E (.UnaryOp .Not a pos) (vNot fa) := by
  refine PE.mono' (pe_not ha) fun σ H Q ⟨G, σd, ok, q⟩ => ?_
  refine tE_then (P := After X.K X.mg Q) ok q fun d v G' H' s ok' r q' => ?_
  cases d with
  | bl k => cases r; exact ⟨k, rfl, (show After X.K X.mg Q G H (.bl !k) from q') _ G' H' s rfl⟩
  | _ => exact (show False from q').elim
def eIf (c : DSt → R Bool) (fa fb : DSt → R D) : DSt → R D := fun σ => (c σ).bind fun k => bif k then fa σ else fb σ
def eUn (g : D → R D) (fa : DSt → R D) : DSt → R D := fun σ => (fa σ).bind g
def aNil : DSt → R (List D) := fun _ => .ok []
def aCons (fa : DSt → R D) (fs : DSt → R (List D)) : DSt → R (List D) := fun σ => (fa σ).bind fun x => (fs σ).bind fun xs => .ok (x :: xs)
variable {es : List Expr} {fs : DSt → R (List D)}
theorem da_nil : DA X E [] aNil := PA.mono' pa_nil fun σ H Q ⟨G, σd, ok, q⟩ => (show AfterA X.K X.mg Q G H [] from q) [] G H (.refl ok.ext) Reps.nil
theorem da_cons (ha : DE X E a fa) (hr : DA X E es fs) (hs : starEach (a :: es) X.env = (false, eval a X.env) :: starEach es X.env := by rfl) : DA X E (a :: es) (aCons fa fs) := by
  refine PA.mono' (pa_cons ha hr hs) fun σ H Q ⟨G, σd, ok, q⟩ => ?_
  refine tE_then (P := AfterA X.K X.mg Q) ok q fun d v G' H' s ok' r q' => ?_
  refine ⟨G', σd, ok', q'.of_bind.mono (fun ds _ z vs G2 H2 s2 r2 => ?_) fun _ z => z⟩
  exact (show AfterA X.K X.mg Q G H (d :: ds) from z) _ G2 H2 (s.trans s2) (Reps.cons (r.mono s2.g) r2)
def few (n : Nat) : Bool := decide (n ≤ 1000)
theorem few_le {n : Nat} (h : few n = true) : n ≤ sizeLine := small (of_decide_eq_true h)
def eTup (fs : DSt → R (List D)) : DSt → R D := fun σ => (fs σ).bind fun ds => bif few ds.length then .ok (.tup ds) else .bad
theorem tA_then {α : Type} {k : List D → R α} {σ : St} {H : Hp} {Q : List V → Hp → Prop} {P : α → Prop} {G : Hp} {σd : DSt}
    (ok : Ok0 K mg σd σ G H) (q : RW ((fs σd).bind k) P (AfterX K mg E G H))
    (h : ∀ ds vs G' H', Step G H G' H' → Ok0 K mg σd σ G' H' → Reps K mg G' ds vs → RW (k ds) P (AfterX K mg E G' H') → Q vs H') : tAr K mg E fs σ H Q :=
  ⟨G, σd, ok, q.of_bind.mono (fun ds _ q vs G' H' s r => h ds vs G' H' s (ok.step s) r (q.mono (fun _ _ z => z) fun e z => z.step s)) fun _ z => z⟩
theorem de_tup {x1} (h : DA X E es fs) : DE X E (.Tuple es x1 pos) (eTup fs) := by
  refine PE.mono' (pe_tup h) fun σ H Q ⟨G, σd, ok, q⟩ => ?_
  refine tA_then (P := After X.K X.mg Q G H) ok q fun ds vs G' H' s ok' r q' => ?_
  cases hf : few ds.length with
  | false => rw [hf] at q'; exact (show False from q').elim
  | true =>
    rw [hf] at q'
    have q2 : After X.K X.mg Q G H (.tup ds) := q'
    refine ⟨by rw [← r.length]; exact few_le hf, fun p hp => ?_⟩
    have s2 : Step G' H' (upd G' p (.tup vs)) (upd H' p (.tup vs)) := .pub ok'.ext hp
    exact q2 _ _ _ (s.trans s2) ⟨p, vs, rfl, SqT.of upd_same, r.mono s2.g⟩
def eLst (fs : DSt → R (List D)) : DSt → R (List D) := fun σ => (fs σ).bind fun ds => bif few ds.length then .ok ds else .bad
theorem df_lst (h : DA X E es fs) : DF X E (.List es pos) (eLst fs) := by
  refine PE.mono' (pe_lst h) fun σ H Q ⟨G, σd, ok, q⟩ => ?_
  refine tA_then (P := AfterF X.K X.mg Q G H) ok q fun ds vs G' H' s ok' r q' => ?_
  cases hf : few ds.length with
  | false => rw [hf] at q'; exact (show False from q').elim
  | true =>
    rw [hf] at q'
    have q2 : AfterF X.K X.mg Q G H ds := q'
    refine ⟨by rw [← r.length]; exact few_le hf, fun p hp => ?_⟩
    exact q2 p vs G' _ (s.trans (.hid ok'.ext hp)) (s.h.free hp) upd_same (ok'.ext.free hp) r
def gIx : D → D → R D
  | .tup xs, .int i => match atI xs i with
    | some d => .ok d
    | none => .bad
  | .lst xs, .int i => match atI xs i with
    | some d => .ok d
    | none => .bad
  | _, _ => .bad
theorem nx_ix : NoErr gIx := by
  intro a b e h
  cases a <;> cases b <;> simp only [gIx] at h <;> first | exact absurd h (by simp) | (split at h <;> cases h)
theorem od_ix : OpD K mg (fun x y H Q => rIxL K x y H Q ∨ rIxT K x y H Q) gIx := by
  intro G H a b x y Q e ra rb q
  cases b with
  | int i =>
    cases rb
    cases a with
    | lst xs =>
      obtain ⟨p, vs, rfl, h1, h2⟩ := ra
      cases ed : atI xs i with
      | none => simp only [gIx, ed] at q; exact q.elim
      | some d =>
        simp only [gIx, ed] at q
        obtain ⟨v, h3, h4⟩ := h2.at ed
        exact .inl ⟨p, vs, i, v, rfl, rfl, e.seq h1, h3, After.now q e h4⟩
    | tup xs =>
      obtain ⟨p, vs, rfl, h1, h2⟩ := ra
      cases ed : atI xs i with
      | none => simp only [gIx, ed] at q; exact q.elim
      | some d =>
        simp only [gIx, ed] at q
        obtain ⟨v, h3, h4⟩ := h2.at ed
        exact .inr ⟨p, vs, i, v, rfl, rfl, Same.sqT e h1, h3, After.now q e h4⟩
    | _ => exact (show False from q).elim
  | _ => cases a <;> exact (show False from q).elim
theorem de_ix (ha : DE X E a fa) (hb : DE X E b fb) (hs : PlainIx b := by intro _ _; rfl) : DE X E (.Subscript a b pos) (eOp gIx fa fb) :=
  PE.mono' (pe_ix (ix_list.or ix_tup) ha hb hs) fun _ _ _ h => tOp_of od_ix nx_ix h
end
def spD (K : PySem.W.Frag) (mg : Str → Option Value) (m : List D → R D) : Sp := fun vs H Q E => ∃ G ds, Same G H ∧ Reps K mg G ds vs ∧ RW (m ds) (After K mg Q G H) (AfterX K mg E G H)
structure FnAt (P : Program) (w : World) (K : PySem.W.Frag) (mg : Str → Option Value) (base : Heap) (k : Nat) (x : Str) (m : List D → R D) : Prop where
  ex : ∃ (f : Addr) (fd : FuncData) (ps : List Str), FnOk P w K mg base (CXe P w) k f fd ps (spD K mg m) ∧ mg x = some (.ref f) ∧ PySem.W.keepIn K (.ref f) = true ∧ Binds K fd ps []
theorem FnAt.mono {P : Program} {w : World} {K : PySem.W.Frag} {mg : Str → Option Value} {base : Heap} {j k : Nat} {x : Str} {m : List D → R D} (F : FnAt P w K mg base j x m) (h : j ≤ k) : FnAt P w K mg base k x m := by
  obtain ⟨f, fd, ps, h1, h2⟩ := F.ex
  exact ⟨f, fd, ps, h1.mono h, h2⟩
structure XC (X : Cx) (E : XK) (k : Nat) : Prop where
  calm : X.calm = true
  room : Room k X.A
  pass : Passes (CXe X.prog X.w) X E
def eCall (m : List D → R D) (fs : DSt → R (List D)) : DSt → R D := fun σ => (fs σ).bind m
def CallD (K : PySem.W.Frag) (mg : Str → Option Value) (r : List V → Hp → VK → Prop) (g : List D → R D) : Prop :=
  ∀ (G H : Hp) (ds : List D) (vs : List V) (Q : VK), Same G H → Reps K mg G ds vs → RW (g ds) (After K mg Q G H) (fun _ => False) → r vs H Q
def R.noerr {α : Type} : R α → R α
  | .ok a => .ok a
  | _ => .bad
def eBlt (g : List D → R D) (fs : DSt → R (List D)) : DSt → R D := fun σ => (fs σ).bind fun ds => (g ds).noerr
theorem noerr_ok {α : Type} {r : R α} {Q : α → Prop} {E' : D → Prop} (h : RW r.noerr Q E') : ∃ a, r = .ok a ∧ Q a := by
  cases r with
  | ok a => exact ⟨a, rfl, h⟩
  | err e => exact (show False from h).elim
  | bad => exact (show False from h).elim
section
variable {X : Cx} {E : XK} {k : Nat} {x : Str} {m : List D → R D} {p pos : Pos} {e : Expr} {es : List Expr} {fs : DSt → R (List D)}
theorem de_call (C : XC X E k) (F : FnAt X.prog X.w X.K X.mg X.base k x m) (ha : DA X E (e :: es) fs) (hg : Gl X x := by rfl) (hdb : (x == ("__debug__" : Str)) = false := by decide)
    (he : starEach (e :: es) X.env = (false, eval e X.env) :: starEach es X.env := by rfl) (hpl : (backTo pos (starEach es X.env)).any (·.1) = false := by rfl) : DE X E (.Call (.Name x p) (e :: es) [] pos) (eCall m fs) := by
  obtain ⟨f, fd, ps, h1, h2, h3, h4⟩ := F.ex
  refine PE.mono' (pe_call h1 C.room hg h2 h3 h4 .nil C.pass ha hdb he hpl) fun σ H Q ⟨G, σd, ok, q⟩ => ?_
  refine ⟨G, σd, ok, q.of_bind.mono (fun ds hds z vs G' H' s r => ?_) fun _ z => z⟩
  show spD X.K X.mg m (vs ++ []) H' Q E
  rw [List.append_nil]
  exact ⟨G', ds, s.e, r, z.mono (fun _ _ z => z.step s) fun _ z => z.step s⟩
theorem de_blt {id : String} {r : List V → Hp → VK → Prop} {g : List D → R D} (hc : CallR X (.builtin id) r) (hd : CallD X.K X.mg r g) (hm : X.mg x = none) (hv : bootBuiltins x = some (.builtin id)) (ha : DA X E (e :: es) fs) (hg : Gl X x := by rfl) (hn : x ≠ "__name__" := by decide) (hdb : (x == ("__debug__" : Str)) = false := by decide)
    (he : starEach (e :: es) X.env = (false, eval e X.env) :: starEach es X.env := by rfl) (hpl : (backTo pos (starEach es X.env)).any (·.1) = false := by rfl) : DE X E (.Call (.Name x p) (e :: es) [] pos) (eBlt g fs) := by
  refine PE.mono' (pe_callB hc hg hm hv ha hn hdb he hpl) fun σ H Q ⟨G, σd, ok, q⟩ => ?_
  refine ⟨G, σd, ok, q.of_bind.mono (fun ds _ z vs G' H' s r => ?_) fun _ z => z⟩
  obtain ⟨d, e1, z⟩ := noerr_ok z
  exact hd G' H' ds vs Q s.e r (by rw [e1]; exact z.step s)
theorem de_bty {T : String} {r : List V → Hp → VK → Prop} {g : List D → R D} (hc : CallR X (.type T) r) (hd : CallD X.K X.mg r g) (hm : X.mg x = none) (ha : DA X E (e :: es) fs) (hv : bootBuiltins x = some (.type T) := by rfl) (hg : Gl X x := by rfl) (hn : x ≠ "__name__" := by decide) (hdb : (x == ("__debug__" : Str)) = false := by decide)
    (he : starEach (e :: es) X.env = (false, eval e X.env) :: starEach es X.env := by rfl) (hpl : (backTo pos (starEach es X.env)).any (·.1) = false := by rfl) : DE X E (.Call (.Name x p) (e :: es) [] pos) (eBlt g fs) := by
  refine PE.mono' (pe_callTy hc hg hm hv ha hn hdb he hpl) fun σ H Q ⟨G, σd, ok, q⟩ => ?_
  refine ⟨G, σd, ok, q.of_bind.mono (fun ds _ z vs G' H' s r => ?_) fun _ z => z⟩
  obtain ⟨d, e1, z⟩ := noerr_ok z
  exact hd G' H' ds vs Q s.e r (by rw [e1]; exact z.step s)
end
def setAll {α : Type} : List (Option α) → List Nat → List α → List (Option α)
  | σ, k :: ks, v :: vs => setAll (σ.set k (some v)) ks vs
  | σ, _, _ => σ
theorem setAll_len {α : Type} : ∀ (ks : List Nat) (σ : List (Option α)) (vs : List α), (setAll σ ks vs).length = σ.length
  | [], _, _ => by unfold setAll; rfl
  | _ :: _, _, [] => by unfold setAll; rfl
  | _ :: ks, σ, _ :: vs => by unfold setAll; rw [setAll_len ks]; simp
theorem setAll_ne {α : Type} {j : Nat} : ∀ (ks : List Nat) (σ : List (Option α)) (vs : List α), j ∉ ks → (setAll σ ks vs)[j]? = σ[j]?
  | [], _, _, _ => by unfold setAll; rfl
  | _ :: _, _, [], _ => by unfold setAll; rfl
  | k :: ks, σ, _ :: vs, h => by
    unfold setAll
    rw [setAll_ne ks _ vs fun z => h (List.mem_cons_of_mem _ z), List.getElem?_set_ne (fun z => h (by rw [← z]; exact List.mem_cons_self))]
def tG (K : PySem.W.Frag) (mg : Str → Option Value) (ks : List Nat) (gp : D → R (List D)) : TG := fun v σ H Q => ∃ G d, Same G H ∧ Rep K mg G d v ∧ RW (gp d) (fun us => ∀ ws, Reps K mg G us ws → Q (setAll σ ks ws) H) (fun _ => False)
def DG (X : Cx) (tg : Expr) (ks : List Nat) (gp : D → R (List D)) : Prop := PG X tg (tG X.K X.mg ks gp)
def gpOne : D → R (List D) := fun d => .ok [d]
def gpSeq (n : Nat) : D → R (List D)
  | .tup ds => bif ds.length == n then .ok ds else .bad
  | .lst ds => bif ds.length == n then .ok ds else .bad
  | _ => .bad
section
variable {X : Cx} {pos : Pos}
theorem PG.mono' {tg : Expr} {t t' : TG} (h : PG X tg t) (m : ∀ v σ H Q, t' v σ H Q → t v σ H Q) : PG X tg t' := fun pins s σ H v u Q I r q => h pins s σ H v u Q I r (m v σ H Q q)
theorem PG.or {tg : Expr} {t t' : TG} (h : PG X tg t) (h' : PG X tg t') : PG X tg (fun v σ H Q => t v σ H Q ∨ t' v σ H Q) := fun pins s σ H v u Q I r q => by
  rcases q with q | q
  · exact h pins s σ H v u Q I r q
  · exact h' pins s σ H v u Q I r q
theorem dg_name (i : Nat) {x : Str} (hN : X.N.Nodup) (hi : X.N[i]? = some x := by rfl) (hx : Loc X.env.scope x := by first | exact Or.inl rfl | exact Or.inr rfl) (hf : X.fn x = true ∨ X.env.scope.names.lookup x = some .local := by first | exact .inl rfl | exact .inr rfl | assumption) : DG X (.Name x pos) [i] gpOne :=
  PG.mono' (pg_name hN hi hx hf) fun v σ H Q ⟨G, d, e, r, q⟩ => by
    have q' := (show ∀ ws, Reps X.K X.mg G [d] ws → Q (setAll σ [i] ws) H from q) [v] (Reps.cons r Reps.nil)
    exact q'
def gNames : List Nat → TGs
  | [] => gNil
  | i :: r => gCons (gName i) (gNames r)
theorem gNames_of : ∀ (ks : List Nat) (vs : List V) (σ : St) (H : Hp) (Q : St → Hp → Prop), vs.length = ks.length → Q (setAll σ ks vs) H → gNames ks vs σ H Q
  | [], [], _, _, _, _, q => ⟨rfl, q⟩
  | i :: r, v :: vs, σ, H, Q, hl, q => ⟨v, vs, rfl, gNames_of r vs _ H Q (by simpa using hl) q⟩
theorem dg_seq {es : List Expr} {k : Nat} (ks : List Nat) (n : Nat) (hc : X.calm = true) (h : PGs X es (gNames ks)) (hk : ks.length = n := by rfl)
    (hn : (assignEach es X.env).length = n := by rfl) (hst : (assignEach es X.env).findIdx? (·.1) = none := by rfl) : DG X (.Tuple es k pos) ks (gpSeq n) := by
  refine PG.mono' (PG.or (pg_tup hc h hn hst) (pg_lst hc h hn hst)) fun v σ H Q ⟨G, d, e, r, q⟩ => ?_
  cases d with
  | tup ds =>
    obtain ⟨a, vs, rfl, h1, h2⟩ := r
    by_cases hd : ds.length = n
    · have q' : ∀ ws, Reps X.K X.mg G ds ws → Q (setAll σ ks ws) H := by
        simp only [gpSeq, hd, beq_self_eq_true, cond_true] at q; exact q
      exact .inl ⟨a, vs, rfl, Same.sqT e h1, by rw [← h2.length]; exact hd, gNames_of ks vs σ H Q (by rw [← h2.length, hd, hk]) (q' vs h2)⟩
    · have : (ds.length == n) = false := by simpa using hd
      simp only [gpSeq, this, cond_false] at q; exact q.elim
  | lst ds =>
    obtain ⟨a, vs, rfl, h1, h2⟩ := r
    by_cases hd : ds.length = n
    · have q' : ∀ ws, Reps X.K X.mg G ds ws → Q (setAll σ ks ws) H := by
        simp only [gpSeq, hd, beq_self_eq_true, cond_true] at q; exact q
      exact .inr ⟨a, vs, rfl, e.seq h1, by rw [← h2.length]; exact hd, gNames_of ks vs σ H Q (by rw [← h2.length, hd, hk]) (q' vs h2)⟩
    · have : (ds.length == n) = false := by simpa using hd
      simp only [gpSeq, this, cond_false] at q; exact q.elim
  | _ => exact (show False from q).elim
end
theorem Ok0.setAll {K : PySem.W.Frag} {mg : Str → Option Value} {G H : Hp} : ∀ {ks : List Nat} {us : List D} {ws : List V} {σd : DSt} {σ : St}, Ok0 K mg σd σ G H → Reps K mg G us ws → Ok0 K mg (setAll σd ks us) (setAll σ ks ws) G H
  | [], _, _, _, _, o, _ => by unfold DL.setAll; exact o
  | _ :: _, [], _, _, _, o, h => by cases h; unfold DL.setAll; exact o
  | k :: ks, _ :: _, _, _, _, o, ⟨v, r, h1, h2, h3⟩ => by subst h1; unfold DL.setAll; exact Ok0.setAll (o.set h2) h3
structure IterD (K : PySem.W.Frag) (mg : Str → Option Value) (J : It) (G : Hp) (ds : List D) : Prop where
  stop : ∀ H, Same G H → J.stop ds.length H
  turn : ∀ (H : Hp) (i : Nat) (d : D), Same G H → ds[i]? = some d → J.go i H ∧ ∀ x H', J.yld i H x H' → ∀ G1, Same G G1 → Same G1 H → ∃ G2, Step G1 H G2 H' ∧ Rep K mg G2 d x
def tI (K : PySem.W.Frag) (mg : Str → Option Value) (E : XK) (f : DSt → R (List D)) : TI := fun σ H R => ∃ G σd, Ok0 K mg σd σ G H ∧ RW (f σd) (fun ds => ∀ J G' H', Step G H G' H' → IterD K mg J G' ds → R J H') (AfterX K mg E G H)
def DI (X : Cx) (E : XK) (tg iter : Expr) (f : DSt → R (List D)) : Prop := PI X tg iter (tI X.K X.mg E f)
section
variable {X : Cx} {E : XK} {tg : Expr}
theorem PI.mono' {iter : Expr} {t t' : TI} (h : PI X tg iter t) (m : ∀ σ H R, t' σ H R → t σ H R) : PI X tg iter t' := fun pins s σ H R I q => h pins s σ H R I (m σ H R q)
theorem IterD.list {K : PySem.W.Frag} {mg : Str → Option Value} {G : Hp} {a : Addr} {vs : List V} {ds : List D} (h : SqL K G a vs) (r : Reps K mg G ds vs) : IterD K mg (Itl K a) G ds := by
  refine ⟨fun H e => by rw [r.length]; exact (lgo (e.seq h)).1, fun H i d e hd => ?_⟩
  have hi : i < vs.length := by rw [← r.length]; exact (List.getElem?_eq_some_iff.mp hd).1
  obtain ⟨g1, g2⟩ := (lgo (e.seq h)).2 i hi
  refine ⟨g1, fun x H' y G1 e1 e2 => ?_⟩
  obtain ⟨rfl, hx⟩ := g2 x H' y
  obtain ⟨v, h1, h2⟩ := r.get hd
  rw [hx] at h1; cases h1
  exact ⟨G1, .refl e2, h2.mono e1⟩
theorem IterD.tup {K : PySem.W.Frag} {mg : Str → Option Value} {G : Hp} {a : Addr} {vs : List V} {ds : List D} (h : SqT K G a vs) (r : Reps K mg G ds vs) : IterD K mg (Itt K a) G ds := by
  refine ⟨fun H e => by rw [r.length]; exact (tgo (Same.sqT e h)).1, fun H i d e hd => ?_⟩
  have hi : i < vs.length := by rw [← r.length]; exact (List.getElem?_eq_some_iff.mp hd).1
  obtain ⟨g1, g2⟩ := (tgo (Same.sqT e h)).2 i hi
  refine ⟨g1, fun x H' y G1 e1 e2 => ?_⟩
  obtain ⟨rfl, hx⟩ := g2 x H' y
  obtain ⟨v, h1, h2⟩ := r.get hd
  rw [hx] at h1; cases h1
  exact ⟨G1, .refl e2, h2.mono e1⟩
def rngD (lo : Int) (n : Nat) : List D := (List.range n).map fun (i : Nat) => D.int (lo + (i : Int))
theorem IterD.rng {K : PySem.W.Frag} {mg : Str → Option Value} {G : Hp} (lo : Int) (n : Nat) : IterD K mg (Itr lo n) G (rngD lo n) := by
  have hl : (rngD lo n).length = n := by simp [rngD]
  refine ⟨fun H e => by rw [hl]; exact Nat.le_refl _, fun H i d e hd => ?_⟩
  have hi : i < n := by have := (List.getElem?_eq_some_iff.mp hd).1; omega
  refine ⟨hi, fun x H' y G1 e1 e2 => ?_⟩
  obtain ⟨rfl, rfl⟩ := y
  have : d = .int (lo + (i : Int)) := by simp [rngD, hi] at hd; exact hd.symm
  subst this
  exact ⟨G1, .refl e2, rfl⟩
def asSeq : D → R (List D)
  | .tup ds => .ok ds
  | .lst ds => .ok ds
  | _ => .bad
def iSeq (f : DSt → R D) : DSt → R (List D) := fun σ => (f σ).bind asSeq
theorem di_seq {l : Expr} {f : DSt → R D} (hl : DE X E l f) : DI X E tg l (iSeq f) := by
  have hL : PI X tg l (iList X.K (tE X.K X.mg E f)) := pi_list hl
  have hT : PI X tg l (iTup X.K (tE X.K X.mg E f)) := pi_tup hl
  intro pins s σ H R I ⟨G, σd, ok, q⟩
  cases hf : f σd with
  | bad => unfold iSeq at q; rw [hf] at q; exact (show False from q).elim
  | err e =>
    unfold iSeq at q; rw [hf] at q
    refine hL pins s σ H R I ⟨G, σd, ok, ?_⟩
    rw [hf]; exact q
  | ok d =>
    unfold iSeq at q; rw [hf] at q
    cases d with
    | lst ds =>
      have q' : ∀ J G' H', Step G H G' H' → IterD X.K X.mg J G' ds → R J H' := q
      refine hL pins s σ H R I ⟨G, σd, ok, ?_⟩
      rw [hf]
      rintro v G' H' st ⟨a, vs, rfl, h1, h2⟩
      exact ⟨a, rfl, ⟨vs, st.e.seq h1⟩, q' _ G' H' st (.list h1 h2)⟩
    | tup ds =>
      have q' : ∀ J G' H', Step G H G' H' → IterD X.K X.mg J G' ds → R J H' := q
      refine hT pins s σ H R I ⟨G, σd, ok, ?_⟩
      rw [hf]
      rintro v G' H' st ⟨a, vs, rfl, h1, h2⟩
      exact ⟨a, rfl, ⟨vs, Same.sqT st.e h1⟩, q' _ G' H' st (.tup h1 h2)⟩
    | _ => exact (show False from q).elim
def rOk (i : Int) : Bool := Nat.blt i.natAbs 1073741824
theorem rOk_is {i : Int} (h : rOk i = true) : -(2 ^ 30) ≤ i ∧ i < 2 ^ 30 := by
  unfold rOk at h
  rw [Nat.blt_eq] at h
  omega
def rng1 : List D → R (List D)
  | [.int j] => bif rOk j then .ok (rngD 0 j.toNat) else .bad
  | _ => .bad
def rng2 : List D → R (List D)
  | [.int i, .int j] => bif rOk i && rOk j then .ok (rngD i (j - i).toNat) else .bad
  | _ => .bad
def iArgs (g : List D → R (List D)) (fs : DSt → R (List D)) : DSt → R (List D) := fun σ => (fs σ).bind g
variable {fs : DSt → R (List D)} {a b c : Expr} {p pos : Pos}
theorem di_range1 (hm : X.mg "range" = none) (ha : DA X E [a] fs) (hg : Gl X "range" := by rfl) (hs : starEach [a] X.env = [(false, eval a X.env)] := by rfl) : DI X E tg (.Call (.Name "range" p) [a] [] pos) (iArgs rng1 fs) := by
  refine PI.mono' (pi_range1 hg hm ha hs) fun σ H R ⟨G, σd, ok, q⟩ => ?_
  refine ⟨G, σd, ok, q.of_bind.mono (fun ds _ z vs G' H' s r => ?_) fun _ z => z⟩
  match ds, z, r with
  | [.int j], z, r =>
    obtain rfl := Reps.of_ints (ns := [j]) r
    cases hj : rOk j with
    | false => simp only [rng1, hj, cond_false] at z; exact z.elim
    | true =>
      simp only [rng1, hj, cond_true] at z
      have := rOk_is hj
      exact ⟨j, rfl, by omega, by omega, z _ G' H' s (.rng 0 _)⟩
end
def lcD (ks : List Nat) (gp : D → R (List D)) (c : DSt → R Bool) (e : DSt → R D) (σ : DSt) : List D → R (List D)
  | [] => .ok []
  | d :: ds => (gp d).bind fun us => (c (setAll σ ks us)).bind fun k => bif k then (e (setAll σ ks us)).bind fun y => (lcD ks gp c e σ ds).bind fun ys => .ok (y :: ys) else lcD ks gp c e σ ds
def most (n : Nat) : Bool := decide (n < sizeLine)
def eLC (k : Nat) (ks : List Nat) (fi : DSt → R (List D)) (gp : D → R (List D)) (c : DSt → R Bool) (e : DSt → R D) : DSt → R (List D) := fun σ => (fi σ).bind fun ds => bif most ds.length then (lcD ks gp c e (List.replicate k none ++ σ) ds).noerr else .bad
def eTrue : DSt → R Bool := fun _ => .ok true
def DTs (X : Cx) (E : XK) (cs : List Expr) (f : DSt → R Bool) : Prop := PTs X cs (tT X.K X.mg E f)
theorem PTs.mono' {X : Cx} {cs : List Expr} {t t' : TT} (h : PTs X cs t) (m : ∀ σ H Q, t' σ H Q → t σ H Q) : PTs X cs t' := fun pins s σ H Q I q => h pins s σ H Q I (m σ H Q q)
theorem dts_nil {X : Cx} {E : XK} : DTs X E [] eTrue := PTs.mono' pts_nil fun σ H Q ⟨G, σd, ok, q⟩ => (show AfterT Q G H true from q) G H (.refl ok.ext)
theorem RW.ok_of {α : Type} {r : R α} {a : α} {Q : α → Prop} {E : D → Prop} (e : r = .ok a) (h : Q a) : RW r Q E := by rw [e]; exact h
theorem bind_ok {α β : Type} {r : R α} {k : α → R β} {b : β} (h : r.bind k = .ok b) : ∃ a, r = .ok a ∧ k a = .ok b := by
  cases r with
  | ok a => exact ⟨a, rfl, h⟩
  | err e => cases h
  | bad => cases h
section
variable {X : Cx} {E : XK} {tg elt iter : Expr} {ifs : List Expr} {scope : Scope} {pos : Pos} {NY : List Str} {k : Nat} {ks : List Nat} {fi : DSt → R (List D)} {gp : D → R (List D)} {fc : DSt → R Bool} {fe : DSt → R D}
theorem subSt_setAll {k : Nat} {ks : List Nat} {σ : St} (h : ks.all (fun i => decide (i < k)) = true) (ws : List V) : SubSt (List.replicate k none ++ σ) (setAll (List.replicate k none ++ σ) ks ws) := by
  refine ⟨setAll_len _ _ _, fun j v e => ?_⟩
  rw [setAll_ne _ _ _ fun hj => ?_]
  · exact e
  · have hk : j < k := of_decide_eq_true (List.all_eq_true.mp h j hj)
    rw [List.getElem?_append_left (by simpa using hk), List.getElem?_replicate, if_pos hk] at e
    cases e
theorem tLC_of {te : TE} {tc : TT} (hk : ks.all (fun i => decide (i < k)) = true) {σ : St} {H : Hp} {Q : VK}
    (h : tFr X.K X.mg E (eLC k ks fi gp fc fe) σ H Q) : tLC k (tI X.K X.mg E fi) (tG X.K X.mg ks gp) (tT X.K X.mg E0 fc) (tE X.K X.mg E0 fe) σ H Q := by
  obtain ⟨G, σd, ok, q⟩ := h
  refine ⟨G, σd, ok, q.of_bind.mono (fun ds _ z J G1 H1 s1 it => ?_) fun _ z => z⟩
  cases hm : most ds.length with
  | false => rw [hm] at z; exact (show False from z).elim
  | true =>
    rw [hm] at z
    obtain ⟨tot, ht, z⟩ := noerr_ok (show RW (lcD ks gp fc fe (List.replicate k none ++ σd) ds).noerr _ _ from z)
    have hlt : ds.length < sizeLine := of_decide_eq_true hm
    have ok1 := ok.step s1
    refine ⟨fun i m ys H' => m = ds.length - i ∧ i ≤ ds.length ∧ ∃ G' yd rest, Step G1 H1 G' H' ∧ Reps X.K X.mg G' yd ys ∧ yd.length ≤ i ∧ lcD ks gp fc fe (List.replicate k none ++ σd) (ds.drop i) = .ok rest ∧ tot = yd ++ rest,
      ⟨ds.length, by simp, Nat.zero_le _, G1, [], tot, .refl ok1.ext, Reps.nil, Nat.zero_le _, ht, rfl⟩, ?_⟩
    rintro i m ys H' ⟨rfl, hi, G', yd, rest, s, r, hyl, hr, rfl⟩
    refine ⟨by rw [← r.length]; omega, ?_⟩
    by_cases hlt2 : i < ds.length
    · right
      obtain ⟨d, hd⟩ : ∃ d, ds[i]? = some d := ⟨ds[i], by simp [hlt2]⟩
      obtain ⟨g1, g2⟩ := it.turn H' i d (s.g.trans s.e) hd
      have hdrop : ds.drop i = d :: ds.drop (i + 1) := by
        rw [List.drop_eq_getElem_cons hlt2]
        congr 1
        exact Option.some.inj ((List.getElem?_eq_getElem hlt2).symm.trans hd)
      rw [hdrop] at hr
      refine ⟨g1, fun ys' H'' => ∃ G' yd rest, Step G1 H1 G' H'' ∧ Reps X.K X.mg G' yd ys' ∧ yd.length ≤ i + 1 ∧ lcD ks gp fc fe (List.replicate k none ++ σd) (ds.drop (i + 1)) = .ok rest ∧ _ = yd ++ rest, fun ys' H'' h => ⟨ds.length - (i + 1), by omega, rfl, hlt2, h⟩, fun v H'' hy => ?_⟩
      obtain ⟨G2, s2, rv⟩ := g2 v H'' hy G' s.g s.e
      unfold lcD at hr
      obtain ⟨us, e1, hr⟩ := bind_ok hr
      obtain ⟨kk, e2, hr⟩ := bind_ok hr
      have s12 := s.trans s2
      have okN : Ok0 X.K X.mg (List.replicate k none ++ σd) (List.replicate k none ++ σ) G2 H'' := (ok1.step s12).nones k
      refine ⟨G2, d, s2.e, rv, RW.ok_of e1 fun ws rws => ⟨subSt_setAll hk ws, ?_⟩⟩
      have okS := okN.setAll (ks := ks) rws
      refine ⟨G2, _, okS, RW.ok_of e2 fun G3 H3 s3 => ?_⟩
      cases kk with
      | false =>
        rw [if_neg Bool.false_ne_true]
        exact ⟨G3, yd, rest, s12.trans s3, r.mono (s2.g.trans s3.g), by omega, hr, rfl⟩
      | true =>
        rw [if_pos rfl]
        obtain ⟨y, e3, hr⟩ := bind_ok (show (fe (setAll (List.replicate k none ++ σd) ks us)).bind _ = _ from hr)
        obtain ⟨ys2, e4, hr⟩ := bind_ok hr
        cases hr
        refine ⟨G3, _, okS.step s3, RW.ok_of e3 fun w G4 H4 s4 r4 => ?_⟩
        exact ⟨G4, yd ++ [y], ys2, (s12.trans s3).trans s4, (r.mono ((s2.g.trans s3.g).trans s4.g)).append (Reps.cons r4 Reps.nil), by simp; omega, e4, by simp⟩
    · left
      have hi2 : i = ds.length := by omega
      subst hi2
      refine ⟨it.stop H' (s.g.trans s.e), fun Dd hD => ?_⟩
      rw [List.drop_length] at hr
      have hre : rest = [] := by unfold lcD at hr; cases hr; rfl
      subst hre
      rw [List.append_nil] at z
      have st := (s1.trans s)
      exact z Dd ys G' _ (st.trans (.hid st.e hD)) (st.h.free hD) upd_same (st.e.free hD) r
theorem df_lc (C : X.calm = true) (lc : LC X k scope NY) (hk : ks.all (fun i => decide (i < k)) = true) (hi : DI X E tg iter fi)
    (hb : ∀ (s₀ : Shared) (H₀ : Hp) (C : Addr) (ex : List Addr), NY.Nodup → DG (lcCx X scope NY s₀ H₀ C ex) tg ks gp ∧ DTs (lcCx X scope NY s₀ H₀ C ex) E0 ifs fc ∧ DE (lcCx X scope NY s₀ H₀ C ex) E0 elt fe)
    (hs : ∀ x, foldedSetIterable iter X.env x = pure x := by intro _; rfl) : DF X E (.ListComp elt [⟨tg, iter, ifs, 0⟩] scope pos) (eLC k ks fi gp fc fe) :=
  PE.mono' (pe_lc (g := tG X.K X.mg ks gp) (tc := tT X.K X.mg E0 fc) (te := tE X.K X.mg E0 fe) C lc hi (fun s0 H0 Ca ex nd => hb s0 H0 Ca ex nd) hs) fun _ _ _ h => tLC_of (te := tE X.K X.mg E0 fe) (tc := tT X.K X.mg E0 fc) hk h
end
end DL
end
section
set_option Elab.async false
set_option linter.all false
set_option maxRecDepth 100000
namespace DL
open PySem L2
mutual
def imm : D → Bool
  | .lst _ => false
  | .dct _ _ => false
  | .tup ds => imms ds
  | .exc _ as => imms as
  | .non => true
  | .bl _ => true
  | .int _ => true
  | .str _ => true
  | .ty _ => true
  | .cls _ => true
def imms : List D → Bool
  | [] => true
  | d :: ds => imm d && imms ds
end
structure Ok (K : PySem.W.Frag) (mg : Str → Option Value) (H0 : Hp) (own : List Nat) (σd : DSt) (σ : St) (G H : Hp) : Prop where
  ext : Same G H
  len : σd.length = σ.length
  val : ∀ (i : Nat) (d : D), i ∉ own → σd[i]? = some (some d) → ∃ v, σ[i]? = some (some v) ∧ Rep K mg G d v
  mine : ∀ (i : Nat) (d : D), i ∈ own → σd[i]? = some (some d) → ∃ a ds vs, σ[i]? = some (some (.ref a)) ∧ d = .lst ds ∧ H a = some (.lst vs) ∧ G a = none ∧ H0 a = none ∧ Reps K mg G ds vs
  dj : ∀ (i j : Nat) (a : Addr) (d d' : D), i ∈ own → j ∈ own → σd[i]? = some (some d) → σd[j]? = some (some d') → σ[i]? = some (some (.ref a)) → σ[j]? = some (some (.ref a)) → i = j
def maskF (own : List Nat) : Nat → DSt → DSt
  | _, [] => []
  | i, d :: ds => (bif own.contains i then none else d) :: maskF own (i + 1) ds
def mask (own : List Nat) (σ : DSt) : DSt := maskF own 0 σ
theorem maskF_get {own : List Nat} : ∀ (σ : DSt) (k i : Nat) (d : D), (maskF own k σ)[i]? = some (some d) → k + i ∉ own ∧ σ[i]? = some (some d)
  | [], _, _, _, h => by unfold maskF at h; simp at h
  | x :: σ, k, 0, d, h => by
    unfold maskF at h
    simp only [List.getElem?_cons_zero, Option.some.injEq] at h
    cases hc : own.contains k with
    | true => rw [hc] at h; cases h
    | false =>
      rw [hc] at h
      have h' : x = some d := h
      subst h'
      exact ⟨by simpa using hc, rfl⟩
  | x :: σ, k, i + 1, d, h => by
    unfold maskF at h
    have := maskF_get σ (k + 1) i d (by simpa using h)
    rw [show k + (i + 1) = k + 1 + i by omega]
    exact ⟨this.1, by simpa using this.2⟩
theorem maskF_len {own : List Nat} : ∀ (σ : DSt) (k : Nat), (maskF own k σ).length = σ.length
  | [], _ => rfl
  | _ :: σ, k => by unfold maskF; simp [maskF_len σ]
def OwnAt (own : List Nat) (σd : DSt) (σ : St) (b : Addr) : Prop := ∃ i d, i ∈ own ∧ σd[i]? = some (some d) ∧ σ[i]? = some (some (.ref b))
open Classical in
noncomputable def pubG (own : List Nat) (σd : DSt) (σ : St) (G H : Hp) : Hp := fun b => if OwnAt own σd σ b then H b else G b
section
variable {K : PySem.W.Frag} {mg : Str → Option Value} {G G' G0 H H' H0 : Hp} {own : List Nat} {σd : DSt} {σ : St}
theorem Ok.masked (o : Ok K mg H0 own σd σ G H) : Ok0 K mg (mask own σd) σ G H :=
  ⟨o.ext, by unfold mask; rw [maskF_len]; exact o.len, fun i d h => by
    have := maskF_get σd 0 i d h
    rw [Nat.zero_add] at this
    exact o.val i d this.1 this.2⟩
theorem Ok.zero (o : Ok0 K mg σd σ G H) : Ok K mg H0 [] σd σ G H :=
  ⟨o.ext, o.len, fun i d _ h => o.val i d h, fun i d h => absurd h (by simp), fun i j a d d' h => absurd h (by simp)⟩
theorem Ok.step (o : Ok K mg H0 own σd σ G H) (s : Step G H G' H') : Ok K mg H0 own σd σ G' H' :=
  ⟨s.e, o.len, fun i d hi h => let ⟨v, h1, h2⟩ := o.val i d hi h; ⟨v, h1, h2.mono s.g⟩, fun i d hi h => by
    obtain ⟨a, ds, vs, h1, h2, h3, h4, h5, h6⟩ := o.mine i d hi h
    exact ⟨a, ds, vs, h1, h2, s.h _ _ h3, s.c _ _ h3 h4, h5, h6.mono s.g⟩, o.dj⟩
theorem Ok.notOwn (o : Ok K mg H0 own σd σ G H) {b : Addr} {u : HO} (h : G b = some u) : ¬ OwnAt own σd σ b := by
  rintro ⟨i, d, h1, h2, h3⟩
  obtain ⟨a, ds, vs, q1, q2, q3, q4, _⟩ := o.mine i d h1 h2
  rw [q1] at h3
  cases h3
  rw [q4] at h; cases h
theorem Ok.ownLst (o : Ok K mg H0 own σd σ G H) {b : Addr} (h : OwnAt own σd σ b) : (∃ vs, H b = some (.lst vs)) ∧ G b = none ∧ H0 b = none := by
  obtain ⟨i, d, h1, h2, h3⟩ := h
  obtain ⟨a, ds, vs, q1, q2, q3, q4, q5, _⟩ := o.mine i d h1 h2
  rw [q1] at h3
  cases h3
  exact ⟨⟨vs, q3⟩, q4, q5⟩
theorem Ok.pub (o : Ok K mg H0 own σd σ G H) : Ok0 K mg σd σ (pubG own σd σ G H) H ∧ Same G (pubG own σd σ G H) := by
  have sg : Same G (pubG own σd σ G H) := fun b u h => by unfold pubG; rw [if_neg (o.notOwn h)]; exact h
  refine ⟨⟨fun b u h => ?_, o.len, fun i d h => ?_⟩, sg⟩
  · unfold pubG at h
    split at h
    · exact h
    · exact o.ext b u h
  · by_cases hi : i ∈ own
    · obtain ⟨a, ds, vs, q1, rfl, q3, q4, q5, q6⟩ := o.mine i d hi h
      refine ⟨_, q1, a, vs, rfl, SqL.of ?_, q6.mono sg⟩
      unfold pubG
      rw [if_pos ⟨i, _, hi, h, q1⟩]; exact q3
    · obtain ⟨v, h1, h2⟩ := o.val i d hi h
      exact ⟨v, h1, h2.mono sg⟩
theorem Ok.pubStep (o : Ok K mg H0 own σd σ G H) (s0 : Step G0 H0 G H) : Step G0 H0 (pubG own σd σ G H) H := by
  refine ⟨s0.g.trans o.pub.2, s0.h, o.pub.1.ext, fun b u h1 h2 => ?_⟩
  unfold pubG
  rw [if_neg fun z => by rw [(o.ownLst z).2.2] at h1; cases h1]
  exact s0.c b u h1 h2
theorem Ok.drop (o : Ok K mg H0 own σd σ G H) (s : Same H H') : Ok K mg H0 own σd σ G H' :=
  o.step (.heap o.ext s)
theorem get_set_self {α : Type} {l : List (Option α)} {i : Nat} {x d : α} (h : (l.set i (some x))[i]? = some (some d)) : d = x ∧ i < l.length := by
  have hl : i < l.length := by have := (List.getElem?_eq_some_iff.mp h).1; simpa using this
  rw [List.getElem?_set_self hl] at h
  cases h
  exact ⟨rfl, hl⟩
theorem Ok.set {i : Nat} {d : D} {v : V} (o : Ok K mg H0 own σd σ G H) (hi : i ∉ own) (h : Rep K mg G d v) : Ok K mg H0 own (σd.set i (some d)) (σ.set i (some v)) G H := by
  have ne : ∀ {j : Nat}, j ∈ own → j ≠ i := fun hj z => hi (z ▸ hj)
  refine ⟨o.ext, by simp [o.len], fun j e hj q => ?_, fun j e hj q => ?_, fun j k a d1 d2 h1 h2 h3 h4 h5 h6 => ?_⟩
  · by_cases hji : j = i
    · subst hji
      obtain ⟨rfl, hl⟩ := get_set_self q
      exact ⟨v, by rw [List.getElem?_set_self (by rw [← o.len]; exact hl)], h⟩
    · rw [List.getElem?_set_ne (Ne.symm hji)] at q ⊢
      exact o.val j e hj q
  · rw [List.getElem?_set_ne (Ne.symm (ne hj))] at q ⊢
    exact o.mine j e hj q
  · rw [List.getElem?_set_ne (Ne.symm (ne h1))] at h3 h5
    rw [List.getElem?_set_ne (Ne.symm (ne h2))] at h4 h6
    exact o.dj j k a d1 d2 h1 h2 h3 h4 h5 h6
theorem Ok.setAll : ∀ {ks : List Nat} {us : List D} {ws : List V} {σd : DSt} {σ : St}, Ok K mg H0 own σd σ G H → (∀ k ∈ ks, k ∉ own) → Reps K mg G us ws → Ok K mg H0 own (DL.setAll σd ks us) (DL.setAll σ ks ws) G H
  | [], _, _, _, _, o, _, _ => by unfold DL.setAll; exact o
  | _ :: _, [], _, _, _, o, _, h => by cases h; unfold DL.setAll; exact o
  | k :: ks, _ :: _, _, _, _, o, hk, ⟨v, r, h1, h2, h3⟩ => by
    subst h1; unfold DL.setAll
    exact Ok.setAll (o.set (hk k List.mem_cons_self) h2) (fun j hj => hk j (List.mem_cons_of_mem _ hj)) h3
theorem Ok.new {i : Nat} {ds : List D} {vs : List V} {a : Addr} {own' : List Nat} (o : Ok K mg H0 own σd σ G H) (s : Step G H G' H') (n : H a = none) (e : H' a = some (.lst vs)) (g : G' a = none) (n0 : H0 a = none) (r : Reps K mg G' ds vs)
    (hown : ∀ j, j ∈ own' ↔ j = i ∨ j ∈ own) : Ok K mg H0 own' (σd.set i (some (.lst ds))) (σ.set i (some (.ref a))) G' H' := by
  have o' := o.step s
  have away : ∀ {j : Nat} {d : D}, j ∈ own → j ≠ i → σd[j]? = some (some d) → σ[j]? = some (some (.ref a)) → False := fun {j d} hj _ hd hs => by
    obtain ⟨b, _, _, q1, _, q3, _⟩ := o.mine j d hj hd
    rw [q1] at hs; cases hs
    rw [n] at q3; cases q3
  refine ⟨o'.ext, by simp [o.len], fun j d hj q => ?_, fun j d hj q => ?_, fun j k b d1 d2 h1 h2 h3 h4 h5 h6 => ?_⟩
  · have hji : j ≠ i := fun z => hj ((hown j).mpr (.inl z))
    rw [List.getElem?_set_ne (Ne.symm hji)] at q ⊢
    exact o'.val j d (fun z => hj ((hown j).mpr (.inr z))) q
  · by_cases hji : j = i
    · subst hji
      obtain ⟨rfl, hl⟩ := get_set_self q
      exact ⟨a, ds, vs, by rw [List.getElem?_set_self (by rw [← o.len]; exact hl)], rfl, e, g, n0, r⟩
    · rw [List.getElem?_set_ne (Ne.symm hji)] at q ⊢
      exact o'.mine j d (((hown j).mp hj).resolve_left hji) q
  · by_cases hji : j = i
    · by_cases hki : k = i
      · rw [hji, hki]
      · subst hji
        obtain ⟨rfl, hl⟩ := get_set_self h3
        rw [List.getElem?_set_self (by rw [← o.len]; exact hl)] at h5
        cases h5
        rw [List.getElem?_set_ne (Ne.symm hki)] at h4 h6
        exact (away (((hown k).mp h2).resolve_left hki) hki h4 h6).elim
    · by_cases hki : k = i
      · subst hki
        obtain ⟨rfl, hl⟩ := get_set_self h4
        rw [List.getElem?_set_self (by rw [← o.len]; exact hl)] at h6
        cases h6
        rw [List.getElem?_set_ne (Ne.symm hji)] at h3 h5
        exact (away (((hown j).mp h1).resolve_left hji) hji h3 h5).elim
      · rw [List.getElem?_set_ne (Ne.symm hji)] at h3 h5
        rw [List.getElem?_set_ne (Ne.symm hki)] at h4 h6
        exact o.dj j k b d1 d2 (((hown j).mp h1).resolve_left hji) (((hown k).mp h2).resolve_left hki) h3 h4 h5 h6
theorem Ok.write {i : Nat} {d : D} {ds : List D} {vs : List V} {a : Addr} (o : Ok K mg H0 own σd σ G H) (hi : i ∈ own) (hd : σd[i]? = some (some d)) (ha : σ[i]? = some (some (.ref a))) (r : Reps K mg G ds vs) :
    Ok K mg H0 own (σd.set i (some (.lst ds))) σ G (upd H a (.lst vs)) := by
  obtain ⟨b, ds0, vs0, q1, q2, q3, q4, q5, q6⟩ := o.mine i d hi hd
  rw [ha] at q1; cases q1
  have hl : i < σd.length := (List.getElem?_eq_some_iff.mp hd).1
  refine ⟨fun b u h => ?_, by simp [o.len], fun j e hj q => ?_, fun j e hj q => ?_, fun j k b d1 d2 h1 h2 h3 h4 h5 h6 => ?_⟩
  · rw [upd_ne (ne_of_none h q4)]; exact o.ext b u h
  · have hji : j ≠ i := fun z => hj (z ▸ hi)
    rw [List.getElem?_set_ne (Ne.symm hji)] at q
    exact o.val j e hj q
  · by_cases hji : j = i
    · subst hji
      obtain ⟨rfl, _⟩ := get_set_self q
      exact ⟨a, ds, vs, ha, rfl, upd_same, q4, q5, r⟩
    · rw [List.getElem?_set_ne (Ne.symm hji)] at q
      obtain ⟨c, es, ws, p1, p2, p3, p4⟩ := o.mine j e hj q
      have hc : c ≠ a := fun z => by subst z; exact hji (o.dj j i c e d hj hi q hd p1 ha)
      exact ⟨c, es, ws, p1, p2, by rw [upd_ne hc]; exact p3, p4⟩
  · have back : ∀ {j : Nat} {e : D}, (σd.set i (some (.lst ds)))[j]? = some (some e) → ∃ e', σd[j]? = some (some e') := fun {j e} q => by
      by_cases hji : j = i
      · exact ⟨d, hji ▸ hd⟩
      · rw [List.getElem?_set_ne (Ne.symm hji)] at q; exact ⟨e, q⟩
    obtain ⟨e1, h3⟩ := back h3
    obtain ⟨e2, h4⟩ := back h4
    exact o.dj j k b e1 e2 h1 h2 h3 h4 h5 h6
theorem Step.write {a : Addr} {o u : HO} (s0 : Step G0 H0 G H) (n : H0 a = none) (g : G a = none) : Step G0 H0 G (upd H a u) :=
  ⟨s0.g, fun b v h => by rw [upd_ne (ne_of_none h n)]; exact s0.h b v h, fun b v h => by rw [upd_ne (ne_of_none h g)]; exact s0.e b v h, s0.c⟩
theorem Ok.release {i : Nat} {own' : List Nat} (o : Ok K mg H0 own σd σ G H) (s0 : Step G0 H0 G H) (hi : i ∈ own) (hown : ∀ j, j ∈ own' ↔ j ≠ i ∧ j ∈ own) : ∃ G', Ok K mg H0 own' σd σ G' H ∧ Step G0 H0 G' H ∧ Same G G' := by
  by_cases hb : ∃ d, σd[i]? = some (some d)
  · obtain ⟨d, hd⟩ := hb
    obtain ⟨a, ds, vs, q1, rfl, q3, q4, q5, q6⟩ := o.mine i d hi hd
    have sg : Same G (upd G a (.lst vs)) := same_upd q4
    have eh : Same (upd G a (.lst vs)) H := fun b u h => by
      by_cases hb : b = a
      · subst hb; rw [upd_same] at h; cases h; exact q3
      · rw [upd_ne hb] at h; exact o.ext b u h
    refine ⟨upd G a (.lst vs), ⟨eh, o.len, fun j e hj q => ?_, fun j e hj q => ?_, fun j k b d1 d2 h1 h2 h3 h4 h5 h6 => ?_⟩, ⟨s0.g.trans sg, s0.h, eh, fun b u h1 h2 => ?_⟩, sg⟩
    · by_cases hji : j = i
      · subst hji
        rw [hd] at q; cases q
        exact ⟨_, q1, a, vs, rfl, SqL.of upd_same, q6.mono sg⟩
      · obtain ⟨v, h1, h2⟩ := o.val j e (fun z => hj ((hown j).mpr ⟨hji, z⟩)) q
        exact ⟨v, h1, h2.mono sg⟩
    · obtain ⟨hji, hj'⟩ := (hown j).mp hj
      obtain ⟨c, es, ws, p1, p2, p3, p4, p5, p6⟩ := o.mine j e hj' q
      have hc : c ≠ a := fun z => by subst z; exact hji (o.dj j i c e _ hj' hi q hd p1 q1)
      exact ⟨c, es, ws, p1, p2, p3, by rw [upd_ne hc]; exact p4, p5, p6.mono sg⟩
    · exact o.dj j k b d1 d2 ((hown j).mp h1).2 ((hown k).mp h2).2 h3 h4 h5 h6
    · rw [upd_ne (ne_of_none h1 q5)]; exact s0.c b u h1 h2
  · refine ⟨G, ⟨o.ext, o.len, fun j e hj q => ?_, fun j e hj q => o.mine j e ((hown j).mp hj).2 q, fun j k b d1 d2 h1 h2 => o.dj j k b d1 d2 ((hown j).mp h1).2 ((hown k).mp h2).2⟩, s0, Same.refl _⟩
    have hji : j ≠ i := fun z => hb ⟨e, z ▸ q⟩
    exact o.val j e (fun z => hj ((hown j).mpr ⟨hji, z⟩)) q
end
inductive Out where
  | nx (σ : DSt) | rt (d : D) | bk (σ : DSt) | ct (σ : DSt) | rf (ds : List D)
section
variable (K : PySem.W.Frag) (mg : Str → Option Value) (E : XK)
def OutW (G0 H0 : Hp) (own' ol : List Nat) (Dn : Ends) (G : Hp) : Out → Prop
  | .nx σd' => ∀ σ' G' H', Ok K mg H0 own' σd' σ' G' H' → Step G0 H0 G' H' → Same G G' → Dn.nx σ' H'
  | .bk σd' => ∀ σ' G' H', Ok K mg H0 ol σd' σ' G' H' → Step G0 H0 G' H' → Same G G' → Dn.bk σ' H'
  | .ct σd' => ∀ σ' G' H', Ok K mg H0 ol σd' σ' G' H' → Step G0 H0 G' H' → Same G G' → Dn.ct σ' H'
  | .rt d => ∀ v G' H', Step G0 H0 G' H' → Rep K mg G' d v → Dn.rt v H'
  | .rf ds => ∀ a vs G' H', Step G0 H0 G' H' → H0 a = none → H' a = some (.lst vs) → G' a = none → Reps K mg G' ds vs → Dn.rt (.ref a) H'
def tS (G0 H0 : Hp) (own own' ol : List Nat) (f : DSt → R Out) : TS := fun Dn σ H => ∃ G σd, Ok K mg H0 own σd σ G H ∧ Step G0 H0 G H ∧ RW (f σd) (OutW K mg G0 H0 own' ol Dn G) (AfterX K mg E G0 H0)
end
theorem OutW.shift {K : PySem.W.Frag} {mg : Str → Option Value} {G0 H0 G G' : Hp} {own' ol : List Nat} {Dn : Ends} (s : Same G G') {o : Out} (h : OutW K mg G0 H0 own' ol Dn G o) : OutW K mg G0 H0 own' ol Dn G' o := by
  cases o with
  | nx _ => exact fun a b c d e f => h a b c d e (s.trans f)
  | bk _ => exact fun a b c d e f => h a b c d e (s.trans f)
  | ct _ => exact fun a b c d e f => h a b c d e (s.trans f)
  | rt _ => exact h
  | rf _ => exact h
def DS (X : Cx) (E : XK) (own own' ol : List Nat) (st : Stmt) (f : DSt → R Out) : Prop := ∀ G0, PS X st (tS X.K X.mg E G0 X.H₀ own own' ol f)
def DSs (X : Cx) (E : XK) (own own' ol : List Nat) (st : List Stmt) (f : DSt → R Out) : Prop := ∀ G0, PSs X st (tS X.K X.mg E G0 X.H₀ own own' ol f)
def sSeq (f g : DSt → R Out) : DSt → R Out := fun σ => (f σ).bind fun o => match o with
  | .nx σ' => g σ'
  | o => .ok o
def sNext : DSt → R Out := fun σ => .ok (.nx σ)
section
variable {X : Cx} {E : XK} {own own1 own2 own' ol : List Nat} {st : Stmt} {rest : List Stmt} {f g : DSt → R Out} {pos : Pos}
theorem dss_nil : DSs X E own own ol [] sNext := fun G0 => PSs.mono' pss_nil fun Dn σ H ⟨G, σd, ok, s0, q⟩ => (show OutW X.K X.mg G0 X.H₀ own ol Dn G (.nx σd) from q) σ G H ok s0 (Same.refl _)
theorem dss_cons (h1 : DS X E own own1 ol st f) (h2 : DSs X E own1 own2 ol rest g) : DSs X E own own2 ol (st :: rest) (sSeq f g) := fun G0 => PSs.mono' (pss_cons (h1 G0) (h2 G0)) fun Dn σ H ⟨G, σd, ok, s0, q⟩ => by
  refine ⟨G, σd, ok, s0, q.of_bind.mono (fun o _ z => ?_) fun _ z => z⟩
  cases o with
  | nx σ1 =>
    intro σ' G' H' ok' s' e'
    exact ⟨G', σ1, ok', s', (show RW (g σ1) _ _ from z).mono (fun o _ z => z.shift e') fun _ z => z⟩
  | rt d => exact z
  | rf d => exact z
  | bk d => exact z
  | ct d => exact z
theorem dss_one (h1 : DS X E own own1 ol st f) : DSs X E own own1 ol [st] f := fun G0 => pss_one (h1 G0)
theorem dss_rel (i : Nat) (hi : own.contains i = true) (ho : own' = own.filter fun j => j != i) (h : DSs X E own' own2 ol rest g) : DSs X E own own2 ol rest g := fun G0 => PSs.mono' (h G0) fun Dn σ H ⟨G, σd, ok, s0, q⟩ => by
  obtain ⟨G', ok', s', e'⟩ := ok.release (i := i) (own' := own') s0 (by simpa using hi) fun j => by subst ho; simp [and_comm]
  exact ⟨G', σd, ok', s', q.mono (fun o _ z => z.shift e') fun _ z => z⟩
def sRet (fe : DSt → R D) : DSt → R Out := fun σ => (fe σ).bind fun d => .ok (.rt d)
theorem ds_ret {e : Expr} {fe : DSt → R D} (h : DE X E e fe) : DS X E own own' ol (.Return (some e) pos) (sRet fe) := fun G0 => PS.mono' (ps_ret h) fun Dn σ H ⟨G, σd, ok, s0, q⟩ => by
  have s1 := ok.pubStep s0
  exact ⟨_, σd, ok.pub.1, q.of_bind.mono (fun d _ z v G' H' s r => (show OutW X.K X.mg G0 X.H₀ own' ol Dn G (.rt d) from z) v G' H' (s1.trans s) r) fun _ z => z.step s1⟩
def sIf (c : DSt → R Bool) (f g : DSt → R Out) : DSt → R Out := fun σ => (c σ).bind fun k => bif k then f σ else g σ
theorem ds_if {c : Expr} {a b : List Stmt} {fc : DSt → R Bool} (hc : DT X E c fc) (ha : DSs X E own own' ol a f) (hb : DSs X E own own' ol b g) : DS X E own own' ol (.If c a b pos) (sIf fc f g) := fun G0 =>
  PS.mono' (ps_if hc (ha G0) (hb G0)) fun Dn σ H ⟨G, σd, ok, s0, q⟩ => by
  have s1 := ok.pubStep s0
  refine ⟨_, σd, ok.pub.1, q.of_bind.mono (fun k _ z G' H' s => ?_) fun _ z => z.step s1⟩
  have ok' := ok.drop s.h
  have s' : Step G0 X.H₀ G H' := s0.trans (.heap ok.ext s.h)
  cases k with
  | true => exact iteT ⟨G, σd, ok', s', z⟩
  | false => exact iteF ⟨G, σd, ok', s', z⟩
def sExpr (fe : DSt → R D) : DSt → R Out := fun σ => (fe σ).bind fun _ => .ok (.nx σ)
def sSet (own : List Nat) (i : Nat) (fe : DSt → R D) : DSt → R Out := fun σ => (fe (mask own σ)).bind fun d => .ok (.nx (σ.set i (some d)))
def sSet0 (i : Nat) (fe : DSt → R D) : DSt → R Out := fun σ => (fe σ).bind fun d => .ok (.nx (σ.set i (some d)))
def sSetP (i : Nat) (fe : DSt → R D) : DSt → R Out := fun σ => (fe σ).bind fun d => bif imm d then .ok (.nx (σ.set i (some d))) else .bad
theorem mem_of {own : List Nat} {i : Nat} (h : own.contains i = false) : i ∉ own := by simpa using h
theorem mask_nil (σ : DSt) : mask [] σ = σ := by
  have : ∀ (σ : DSt) (k : Nat), maskF [] k σ = σ := fun σ => by
    induction σ with
    | nil => intro k; rfl
    | cons d ds ih => intro k; unfold maskF; rw [ih]; rfl
  exact this σ 0
theorem asgV {te : TE} {fe : DSt → R D} {i : Nat} {G0 : Hp} (h : ∀ σ H Q, tE X.K X.mg E fe σ H Q → te σ H Q) (ho : own.contains i = false) {Dn : Ends} {σ : St} {H : Hp} (q : tS X.K X.mg E G0 X.H₀ own own ol (sSet own i fe) Dn σ H) : tAsg te (gName i) Dn σ H := by
  obtain ⟨G, σd, ok, s0, q⟩ := q
  refine h σ H _ ⟨G, mask own σd, ok.masked, q.of_bind.mono (fun d _ z v G' H' s r => ?_) fun _ z => z.step s0⟩
  exact (show OutW X.K X.mg G0 X.H₀ own ol Dn G (.nx (σd.set i (some d))) from z) _ G' H' ((ok.step s).set (mem_of ho) r) (s0.trans s) s.g
def sNew (own : List Nat) (i : Nat) (fe : DSt → R (List D)) : DSt → R Out := fun σ => (fe (mask own σ)).bind fun ds => .ok (.nx (σ.set i (some (.lst ds))))
def ownWith (own : List Nat) (i : Nat) : List Nat := if own.contains i then own else i :: own
theorem mem_ownWith {own : List Nat} {i j : Nat} : j ∈ ownWith own i ↔ j = i ∨ j ∈ own := by
  unfold ownWith
  split
  · rename_i h
    have hi : i ∈ own := by simpa using h
    exact ⟨.inr, fun h => h.elim (fun e => e ▸ hi) id⟩
  · simp
theorem asgN {te : TE} {fe : DSt → R (List D)} {i : Nat} {G0 : Hp} (h : ∀ σ H Q, tFr X.K X.mg E fe σ H Q → te σ H Q) {Dn : Ends} {σ : St} {H : Hp} (q : tS X.K X.mg E G0 X.H₀ own (ownWith own i) ol (sNew own i fe) Dn σ H) : tAsg te (gName i) Dn σ H := by
  obtain ⟨G, σd, ok, s0, q⟩ := q
  refine h σ H _ ⟨G, mask own σd, ok.masked, q.of_bind.mono (fun ds _ z a vs G' H' s n e g r => ?_) fun _ z => z.step s0⟩
  exact (show OutW X.K X.mg G0 X.H₀ (ownWith own i) ol Dn G (.nx (σd.set i (some (.lst ds)))) from z) _ G' H' (ok.new s n e g (s0.h.free n) r fun j => mem_ownWith) (s0.trans s) s.g
variable {i : Nat} {x : Str} {e : Expr} {pos' : Pos} {fe : DSt → R D} {fl : DSt → R (List D)}
theorem ds_set (i : Nat) (hN : X.N.Nodup) (he : DE X E e fe) (ho : own.contains i = false := by rfl) (hi : X.N[i]? = some x := by rfl) (hx : Loc X.env.scope x := by first | exact Or.inl rfl | exact Or.inr rfl) (hs : swapsWith e (some (.Name x pos')) pos.line X.env = pure false := by rfl)
    (hf : X.fn x = true ∨ X.env.scope.names.lookup x = some .local := by first | exact .inl rfl | exact .inr rfl | assumption) : DS X E own own ol (.Assign [.Name x pos'] e pos) (sSet own i fe) := fun G0 =>
  PS.mono' (ps_set hN hi hx he hs hf) fun Dn σ H q => asgV (fun _ _ _ z => z) ho q
theorem ds_set0 (i : Nat) (hN : X.N.Nodup) (he : DE X E e fe) (hi : X.N[i]? = some x := by rfl) (hx : Loc X.env.scope x := by first | exact Or.inl rfl | exact Or.inr rfl) (hs : swapsWith e (some (.Name x pos')) pos.line X.env = pure false := by rfl)
    (hf : X.fn x = true ∨ X.env.scope.names.lookup x = some .local := by first | exact .inl rfl | exact .inr rfl | assumption) : DS X E [] [] ol (.Assign [.Name x pos'] e pos) (sSet0 i fe) := fun G0 => by
  have : sSet0 i fe = sSet [] i fe := by funext σ; unfold sSet0 sSet; rw [mask_nil]
  rw [this]
  exact PS.mono' (ps_set hN hi hx he hs hf) fun Dn σ H q => asgV (fun _ _ _ z => z) rfl q
theorem ds_new (i : Nat) (hN : X.N.Nodup) (he : DF X E e fl) (hw : own' = ownWith own i := by rfl) (hi : X.N[i]? = some x := by rfl) (hx : Loc X.env.scope x := by first | exact Or.inl rfl | exact Or.inr rfl) (hs : swapsWith e (some (.Name x pos')) pos.line X.env = pure false := by rfl)
    (hf : X.fn x = true ∨ X.env.scope.names.lookup x = some .local := by first | exact .inl rfl | exact .inr rfl | assumption) : DS X E own own' ol (.Assign [.Name x pos'] e pos) (sNew own i fl) := fun G0 => by
  subst hw; exact PS.mono' (ps_set hN hi hx he hs hf) fun Dn σ H q => asgN (fun _ _ _ z => z) q
def vLst (fl : DSt → R (List D)) : DSt → R D := fun σ => (fl σ).bind fun ds => .ok (.lst ds)
theorem DF.val (h : DF X E e fl) : DE X E e (vLst fl) := h.de
variable {tg elt iter : Expr} {ifs : List Expr} {scope : Scope} {NY : List Str} {k : Nat} {ks : List Nat} {fi : DSt → R (List D)} {gp : D → R (List D)} {fc : DSt → R Bool} {lpos : Pos}
def sAsg (own : List Nat) (ks : List Nat) (gp : D → R (List D)) (fe : DSt → R D) : DSt → R Out := fun σ => (fe (mask own σ)).bind fun d => (gp d).noerr.bind fun us => .ok (.nx (setAll σ ks us))
theorem ds_asg (he : DE X E e fe) (hg : DG X tg ks gp) (ho : ks.all (fun i => !own.contains i) = true := by rfl) (hs : swapsWithSole [tg] e pos.line X.env = pure false := by rfl) (hw : swappedStores [tg] e X.env = pure none := by rfl)
    (h1 : (assignEach [tg] X.env).map (·.2) = [assign tg X.env] := by rfl) : DS X E own own ol (.Assign [tg] e pos) (sAsg own ks gp fe) := fun G0 => PS.mono' (ps_asg he hg hs hw h1) fun Dn σ H ⟨G, σd, ok, s0, q⟩ => by
  refine ⟨G, mask own σd, ok.masked, q.of_bind.mono (fun d _ z v G' H' s r => ?_) fun _ z => z.step s0⟩
  obtain ⟨us, e1, z⟩ := noerr_ok z.of_bind
  refine ⟨G', d, s.e, r, RW.ok_of e1 fun ws rw' => ?_⟩
  refine (show OutW X.K X.mg G0 X.H₀ own ol Dn G (.nx (setAll σd ks us)) from z) _ G' H' ((ok.step s).setAll (fun k hk => ?_) rw') (s0.trans s) s.g
  simpa using List.all_eq_true.mp ho k hk
def sPar (own : List Nat) (i j : Nat) (fs : DSt → R (List D)) : DSt → R Out := fun σ => (fs (mask own σ)).bind fun ds => match ds with
  | [a, b] => .ok (.nx ((σ.set i (some a)).set j (some b)))
  | _ => .bad
def lstAt (σ : DSt) (i : Nat) : R (List D) := match σ[i]? with
  | some (some (.lst ds)) => .ok ds
  | _ => .bad
def sApp (own : List Nat) (i : Nat) (fe : DSt → R D) : DSt → R Out := fun σ => (lstAt σ i).bind fun ds => (fe (mask own σ)).bind fun d => bif most ds.length then .ok (.nx (σ.set i (some (.lst (ds ++ [d]))))) else .bad
def sAppP (i : Nat) (fe : DSt → R D) : DSt → R Out := fun σ => (lstAt σ i).bind fun ds => (fe σ).bind fun d => bif most ds.length && imm d then .ok (.nx (σ.set i (some (.lst (ds ++ [d]))))) else .bad
theorem lstAt_ok {σ : DSt} {i : Nat} {ds : List D} (h : lstAt σ i = .ok ds) : σ[i]? = some (some (.lst ds)) := by
  unfold lstAt at h
  split at h
  · cases h; assumption
  · cases h
theorem lstAt_ne {σ : DSt} {i : Nat} {e : D} : lstAt σ i ≠ .err e := by
  unfold lstAt
  split <;> simp
theorem ds_app (i : Nat) {apos cpos : Pos} {np : Pos} (he : DE X E e fe) (ho : own.contains i = true := by rfl) (hN : X.N[i]? = some x := by rfl) (hv : Vis X.env.scope x := by first | exact Or.inl rfl | exact Or.inr (Or.inl rfl) | exact Or.inr (Or.inr rfl)) (hd : (x == ("__debug__" : Str)) = false := by decide)
    (hcd : (x == ("__classdict__" : Str)) = false := by decide)
    (hbase : attributeBase (.Name x np) "append" X.env (eval (.Name x np) X.env) = eval (.Name x np) X.env := by rfl)
    (hfew : ((backTo cpos (starEach [e] X.env)).all (fun x => !x.1) && (backToKw cpos (keywordEach [] X.env)).all (fun x => x.1.isSome) && decide ([e].length + ([] : List Keyword).length + (if ([] : List Keyword).isEmpty then 0 else 1) < 30)) = true := by rfl)
    (hline : (apos.endLine == cpos.line) = true := by rfl) (hs : starEach [e] X.env = (false, eval e X.env) :: starEach [] X.env := by rfl) (hplain : (backTo cpos (starEach [] X.env)).any (·.1) = false := by rfl)
    (hsw : swapsWith (.Call (.Attribute (.Name x np) "append" apos) [e] [] cpos) none pos.line X.env = pure false := by rfl) :
    DS X E own own ol (.Expr (.Call (.Attribute (.Name x np) "append" apos) [e] [] cpos) pos) (sApp own i fe) := fun G0 =>
  PS.mono' (ps_expr (pe_bm PySem.F.plainAttrs_list PySem.F.slot_list_append PySem.F.type_list_append mt_append (pv i hN hv hd hcd) (da_cons he da_nil hs) hbase hfew hline hs hplain) hsw) fun Dn σ H ⟨G, σd, ok, s0, q⟩ => by
  have q1 := q.of_bind
  cases hL : lstAt σd i with
  | bad => rw [hL] at q1; exact q1.elim
  | err e => exact absurd hL lstAt_ne
  | ok ds =>
    rw [hL] at q1
    have q2 : RW ((fe (mask own σd)).bind fun d => bif most ds.length then R.ok (.nx (σd.set i (some (.lst (ds ++ [d]))))) else .bad) (OutW X.K X.mg G0 X.H₀ own ol Dn G) (AfterX X.K X.mg E G0 X.H₀) := q1
    have hd := lstAt_ok hL
    have hi : i ∈ own := by simpa using ho
    obtain ⟨a, ds', vs, p1, p2, p3, p4, p5, p6⟩ := ok.mine i _ hi hd
    cases p2
    refine ⟨_, p1, .inl ⟨rfl, _, SqL.of p3⟩, ?_⟩
    refine ⟨G, mask own σd, ok.masked, (show RW ((aCons fe aNil) (mask own σd)) _ _ from ?_)⟩
    unfold aCons
    have q3 := q2.of_bind
    cases hf : fe (mask own σd) with
    | bad => rw [hf] at q3; exact q3.elim
    | err e => rw [hf] at q3; exact (show AfterX X.K X.mg E G0 X.H₀ e from q3).step s0
    | ok d =>
      rw [hf] at q3
      rintro ws G' H' s ⟨v, _, e1, r1, r2⟩
      subst e1
      cases r2
      cases hm : most ds.length with
      | false => rw [hm] at q3; exact (show False from q3).elim
      | true =>
        rw [hm] at q3
        have hlt : ds.length < sizeLine := of_decide_eq_true hm
        have ok' := ok.step s
        refine ⟨a, vs, v, rfl, rfl, s.h _ _ p3, by rw [← p6.length]; exact hlt, ?_⟩
        exact (show OutW X.K X.mg G0 X.H₀ own ol Dn G (.nx (σd.set i (some (.lst (ds ++ [d]))))) from q3) σ G' _ (ok'.write hi hd p1 ((p6.mono s.g).append (Reps.cons r1 Reps.nil))) ((s0.trans s).write (o := .lst vs) p5 (s.c _ _ p3 p4)) s.g
end
def forL (ks : List Nat) (gp : D → R (List D)) (fb : DSt → R Out) : List D → DSt → R Out
  | [], σ => .ok (.nx σ)
  | d :: ds, σ => (gp d).noerr.bind fun us => (fb (setAll σ ks us)).bind fun o => match o with
    | .nx σ' => forL ks gp fb ds σ'
    | .ct σ' => forL ks gp fb ds σ'
    | .bk σ' => .ok (.nx σ')
    | .rt d => .ok (.rt d)
    | .rf d => .ok (.rf d)
def sFor (own ks : List Nat) (gp : D → R (List D)) (fi : DSt → R (List D)) (fb : DSt → R Out) : DSt → R Out := fun σ => (fi (mask own σ)).bind fun ds => forL ks gp fb ds σ
structure XL (X : Cx) : Prop where
  own : PassesOwn (model X.prog X.w) X.A X.env X.xe
section
variable {X : Cx} {E : XK} {own ol ks : List Nat} {tg iter : Expr} {body : List Stmt} {gp : D → R (List D)} {fi : DSt → R (List D)} {fb : DSt → R Out} {pos : Pos}
theorem ds_for (L : XL X) (hc : X.calm = true) (hi : DI X E tg iter fi) (hg : DG X tg ks gp) (hb : DSs X E own own own body fb) (ho : ks.all (fun i => !own.contains i) = true := by rfl) (hs : ∀ x, foldedSetIterable iter X.env x = pure x := by intro _; rfl) :
    DS X E own own ol (.For tg iter body [] pos) (sFor own ks gp fi fb) := fun G0 => PS.mono' (ps_for L.own hc hi hg (hb G0) hs) fun Dn σ H ⟨G, σd, ok, s0, q⟩ => by
  refine ⟨G, mask own σd, ok.masked, q.of_bind.mono (fun ds _ z J G1 H1 s1 it => ?_) fun _ z => z.step s0⟩
  have hko : ∀ k ∈ ks, k ∉ own := fun k hk => by simpa using List.all_eq_true.mp ho k hk
  refine ⟨fun i m σ' H' => m = ds.length - i ∧ i ≤ ds.length ∧ ∃ G' σd', Ok X.K X.mg X.H₀ own σd' σ' G' H' ∧ Same G1 G' ∧ Step G0 X.H₀ G' H' ∧ RW (forL ks gp fb (ds.drop i) σd') (OutW X.K X.mg G0 X.H₀ own ol Dn G1) (AfterX X.K X.mg E G0 X.H₀),
    ⟨ds.length, by simp, Nat.zero_le _, G1, σd, ok.step s1, Same.refl _, s0.trans s1, z.mono (fun _ _ z => z.shift s1.g) fun _ z => z⟩, ?_⟩
  rintro i m σ' H' ⟨rfl, hi, G', σd', ok', e', s', w⟩
  by_cases hlt : i < ds.length
  · right
    obtain ⟨d, hd⟩ : ∃ d, ds[i]? = some d := ⟨ds[i], by simp [hlt]⟩
    obtain ⟨g1, g2⟩ := it.turn H' i d (e'.trans ok'.ext) hd
    have hdrop : ds.drop i = d :: ds.drop (i + 1) := by
      rw [List.drop_eq_getElem_cons hlt]
      congr 1
      exact Option.some.inj ((List.getElem?_eq_getElem hlt).symm.trans hd)
    rw [hdrop] at w
    refine ⟨g1, fun σ2 H2 => i + 1 ≤ ds.length ∧ ∃ G' σd', Ok X.K X.mg X.H₀ own σd' σ2 G' H2 ∧ Same G1 G' ∧ Step G0 X.H₀ G' H2 ∧ RW (forL ks gp fb (ds.drop (i + 1)) σd') (OutW X.K X.mg G0 X.H₀ own ol Dn G1) (AfterX X.K X.mg E G0 X.H₀),
      fun σ2 H2 ⟨h1, h2⟩ => ⟨ds.length - (i + 1), by omega, rfl, h1, h2⟩, fun x H2 hy => ?_⟩
    obtain ⟨G2, s2, r2⟩ := g2 x H2 hy G' e' ok'.ext
    unfold forL at w
    obtain ⟨us, e1, w⟩ := noerr_ok w.of_bind
    refine ⟨G2, d, s2.e, r2, RW.ok_of e1 fun ws rws => ?_⟩
    have ok2 := (ok'.step s2).setAll hko rws
    refine ⟨G2, _, ok2, s'.trans s2, w.of_bind.mono (fun o _ z => ?_) fun _ z => z⟩
    cases o with
    | nx σ3 => exact fun σ4 G4 H4 ok4 s4 e4 => ⟨hlt, G4, σ3, ok4, (e'.trans s2.g).trans e4, s4, z⟩
    | ct σ3 => exact fun σ4 G4 H4 ok4 s4 e4 => ⟨hlt, G4, σ3, ok4, (e'.trans s2.g).trans e4, s4, z⟩
    | bk σ3 => exact fun σ4 G4 H4 ok4 s4 e4 => (show OutW X.K X.mg G0 X.H₀ own ol Dn G1 (.nx σ3) from z) σ4 G4 H4 ok4 s4 ((e'.trans s2.g).trans e4)
    | rt d => exact z
    | rf d => exact z
  · left
    have hi2 : i = ds.length := by omega
    subst hi2
    rw [List.drop_length] at w
    refine ⟨it.stop H' (e'.trans ok'.ext), ?_⟩
    unfold forL at w
    exact (show OutW X.K X.mg G0 X.H₀ own ol Dn G1 (.nx σd') from w) σ' G' H' ok' s' e'
def whileN (c : DSt → R Bool) (fb : DSt → R Out) : Nat → DSt → R Out
  | 0, _ => .bad
  | n + 1, σ => (c σ).bind fun k => bif k then (fb σ).bind fun o => match o with
      | .nx σ' => whileN c fb n σ'
      | .ct σ' => whileN c fb n σ'
      | .bk σ' => .ok (.nx σ')
      | .rt d => .ok (.rt d)
      | .rf d => .ok (.rf d)
    else .ok (.nx σ)
open Classical in
noncomputable def sWhile (c : DSt → R Bool) (fb : DSt → R Out) : DSt → R Out := fun σ => if h : ∃ n, whileN c fb n σ ≠ .bad then whileN c fb (Classical.choose h) σ else .bad
theorem whileN_more {c : DSt → R Bool} {fb : DSt → R Out} : ∀ (n : Nat) (σ : DSt) (r : R Out), whileN c fb n σ = r → r ≠ .bad → ∀ k, whileN c fb (n + k) σ = r
  | 0, σ, r, h, hr, k => absurd h.symm hr
  | n + 1, σ, r, h, hr, k => by
    rw [show n + 1 + k = (n + k) + 1 by omega]
    unfold whileN at h ⊢
    cases hc : c σ with
    | bad => rw [hc] at h; exact absurd h.symm hr
    | err e => rw [hc] at h; exact h
    | ok b =>
      rw [hc] at h
      cases b with
      | false => exact h
      | true =>
        have h' : (fb σ).bind (fun o => match o with
          | .nx σ' => whileN c fb n σ'
          | .ct σ' => whileN c fb n σ'
          | .bk σ' => .ok (.nx σ')
          | .rt d => .ok (.rt d)
          | .rf d => .ok (.rf d)) = r := h
        show (fb σ).bind (fun o => match o with
          | .nx σ' => whileN c fb (n + k) σ'
          | .ct σ' => whileN c fb (n + k) σ'
          | .bk σ' => .ok (.nx σ')
          | .rt d => .ok (.rt d)
          | .rf d => .ok (.rf d)) = r
        cases hf : fb σ with
        | bad => rw [hf] at h'; exact absurd h'.symm hr
        | err e => rw [hf] at h'; exact h'
        | ok o =>
          rw [hf] at h'
          cases o with
          | nx σ' => exact whileN_more n σ' r h' hr k
          | ct σ' => exact whileN_more n σ' r h' hr k
          | bk σ' => exact h'
          | rt d => exact h'
          | rf d => exact h'
theorem sWhile_eq {c : DSt → R Bool} {fb : DSt → R Out} {n : Nat} {σ : DSt} {r : R Out} (h : whileN c fb n σ = r) (hr : r ≠ .bad) : sWhile c fb σ = r := by
  unfold sWhile
  have hx : ∃ n, whileN c fb n σ ≠ .bad := ⟨n, by rw [h]; exact hr⟩
  rw [dif_pos hx]
  have h1 := Classical.choose_spec hx
  have a := whileN_more _ σ _ rfl h1 n
  have b := whileN_more _ σ _ h hr (Classical.choose hx)
  rw [Nat.add_comm] at b
  rw [← a, b]
theorem sWhile_step (c : DSt → R Bool) (fb : DSt → R Out) (σ : DSt) : sWhile c fb σ = (c σ).bind fun k => bif k then (fb σ).bind fun o => match o with
      | .nx σ' => sWhile c fb σ'
      | .ct σ' => sWhile c fb σ'
      | .bk σ' => .ok (.nx σ')
      | .rt d => .ok (.rt d)
      | .rf d => .ok (.rf d)
    else .ok (.nx σ) := by
  cases hc : c σ with
  | bad =>
    unfold sWhile
    rw [dif_neg]
    · rfl
    · rintro ⟨n, h⟩
      cases n with
      | zero => exact h rfl
      | succ n => unfold whileN at h; rw [hc] at h; exact h rfl
  | err e => exact sWhile_eq (n := 1) (by unfold whileN; rw [hc]; rfl) (by simp [R.bind])
  | ok b =>
    cases b with
    | false => exact sWhile_eq (n := 1) (by unfold whileN; rw [hc]; rfl) (by simp [R.bind])
    | true =>
      show sWhile c fb σ = (fb σ).bind _
      cases hf : fb σ with
      | bad =>
        unfold sWhile
        rw [dif_neg]
        · rfl
        · rintro ⟨n, h⟩
          cases n with
          | zero => exact h rfl
          | succ n => unfold whileN at h; rw [hc] at h; simp only [R.bind, cond_true] at h; rw [hf] at h; exact h rfl
      | err e => exact sWhile_eq (n := 1) (by unfold whileN; rw [hc]; show (fb σ).bind _ = _; rw [hf]; rfl) (by simp [R.bind])
      | ok o =>
        have go : ∀ σ', (∀ n, whileN c fb (n + 1) σ = whileN c fb n σ') → sWhile c fb σ = sWhile c fb σ' := fun σ' hn => by
          by_cases hx : ∃ n, whileN c fb n σ' ≠ .bad
          · obtain ⟨n, h⟩ := hx
            rw [sWhile_eq (n := n) rfl h, sWhile_eq (n := n + 1) (hn n) h]
          · have : sWhile c fb σ' = .bad := by unfold sWhile; rw [dif_neg hx]
            rw [this]
            unfold sWhile
            rw [dif_neg]
            rintro ⟨n, h⟩
            cases n with
            | zero => exact h rfl
            | succ n => rw [hn n] at h; exact hx ⟨n, h⟩
        cases o with
        | nx σ' => exact go σ' fun n => by unfold whileN; rw [hc]; show (fb σ).bind _ = _; rw [hf]; cases n <;> rfl
        | ct σ' => exact go σ' fun n => by unfold whileN; rw [hc]; show (fb σ).bind _ = _; rw [hf]; cases n <;> rfl
        | bk σ' => exact sWhile_eq (n := 1) (by unfold whileN; rw [hc]; show (fb σ).bind _ = _; rw [hf]; rfl) (by simp [R.bind])
        | rt d => exact sWhile_eq (n := 1) (by unfold whileN; rw [hc]; show (fb σ).bind _ = _; rw [hf]; rfl) (by simp [R.bind])
        | rf d => exact sWhile_eq (n := 1) (by unfold whileN; rw [hc]; show (fb σ).bind _ = _; rw [hf]; rfl) (by simp [R.bind])
theorem ds_while {c : Expr} {fc : DSt → R Bool} (L : XL X) (hc : DT X E c fc) (hb : DSs X E own own own body fb) : DS X E own own ol (.While c body [] pos) (sWhile fc fb) := fun G0 => PS.mono' (ps_while L.own hc (hb G0)) fun Dn σ H ⟨G, σd, ok, s0, q⟩ => by
  have hx : ∃ n, whileN fc fb n σd ≠ .bad := by
    by_cases hx : ∃ n, whileN fc fb n σd ≠ .bad
    · exact hx
    · unfold sWhile at q; rw [dif_neg hx] at q; exact (show False from q).elim
  obtain ⟨n, hn⟩ := hx
  rw [sWhile_eq rfl hn] at q
  refine ⟨fun m σ' H' => ∃ G' σd', Ok X.K X.mg X.H₀ own σd' σ' G' H' ∧ Same G G' ∧ Step G0 X.H₀ G' H' ∧ RW (whileN fc fb m σd') (OutW X.K X.mg G0 X.H₀ own ol Dn G) (AfterX X.K X.mg E G0 X.H₀), ⟨n, G, σd, ok, Same.refl _, s0, q⟩, ?_⟩
  rintro m σ1 H1 ⟨G1, σd1, ok1, e1, s1, w⟩
  cases m with
  | zero => exact (show False from w).elim
  | succ m =>
    unfold whileN at w
    have sp := ok1.pubStep s1
    refine ⟨_, σd1, ok1.pub.1, w.of_bind.mono (fun k _ z G' H' s => ?_) fun _ z => z.step sp⟩
    have ok' := ok1.drop s.h
    have s' : Step G0 X.H₀ G1 H' := s1.trans (.heap ok1.ext s.h)
    cases k with
    | true =>
      refine iteT ?_
      refine ⟨fun σ2 H2 => ∃ G' σd', Ok X.K X.mg X.H₀ own σd' σ2 G' H2 ∧ Same G G' ∧ Step G0 X.H₀ G' H2 ∧ RW (whileN fc fb m σd') (OutW X.K X.mg G0 X.H₀ own ol Dn G) (AfterX X.K X.mg E G0 X.H₀), fun σ2 H2 h => ⟨m, Nat.lt_succ_self _, h⟩, ?_⟩
      refine ⟨G1, σd1, ok', s', (show RW ((fb σd1).bind _) _ _ from z).of_bind.mono (fun o _ z => ?_) fun _ z => z⟩
      cases o with
      | nx σ3 => exact fun σ4 G4 H4 ok4 s4 e4 => ⟨G4, σ3, ok4, e1.trans e4, s4, z⟩
      | ct σ3 => exact fun σ4 G4 H4 ok4 s4 e4 => ⟨G4, σ3, ok4, e1.trans e4, s4, z⟩
      | bk σ3 => exact fun σ4 G4 H4 ok4 s4 e4 => (show OutW X.K X.mg G0 X.H₀ own ol Dn G (.nx σ3) from z) σ4 G4 H4 ok4 s4 (e1.trans e4)
      | rt d => exact z
      | rf d => exact z
    | false =>
      refine iteF ?_
      exact (show OutW X.K X.mg G0 X.H₀ own ol Dn G (.nx σd1) from z) σ1 G1 H' ok' s' e1
end
def startD (n : Nat) (ds : List D) : DSt := ds.map some ++ List.replicate (n - ds.length) none
def fin : R Out → R D
  | .ok (.rt d) => .ok d
  | .ok (.rf ds) => .ok (.lst ds)
  | .ok (.nx _) => .ok .non
  | .ok _ => .bad
  | .err e => .err e
  | .bad => .bad
def fnM (n nN : Nat) (body : DSt → R Out) : List D → R D := fun ds => bif ds.length == n then fin (body (startD nN ds)) else .bad
theorem Reps.startOk {K : PySem.W.Frag} {mg : Str → Option Value} {G H : Hp} (e : Same G H) : ∀ {ds : List D} {vs : List V} (k : Nat), Reps K mg G ds vs → Ok0 K mg (ds.map some ++ List.replicate k none) (vs.map some ++ List.replicate k none) G H
  | [], _, k, h => by
    cases h
    have := Ok0.nones (K := K) (mg := mg) (G := G) (H := H) (σd := []) (σ := []) ⟨e, rfl, fun i d q => by simp at q⟩ k
    simpa using this
  | d :: ds, _, k, ⟨v, r, h1, h2, h3⟩ => by
    subst h1
    exact (Reps.startOk e k h3).cons (x := some d) (y := some v) fun d' q => by cases q; exact ⟨v, rfl, h2⟩
section
variable {P : Program} {w : World} {K : PySem.W.Frag} {mg : Str → Option Value} {base : Heap}
theorem FnAt.mk' {x qual : Str} {st : Stmt} {f : Addr} {fd : FuncData} {N ps : List Str} {k n nN : Nat} {own' : List Nat} {body : DSt → R Out} (F : Fun K x qual st f fd) (S : FnScope N ps (defScope st)) (hm : mg x = some (.ref f)) (b : Binds K fd ps [])
    (hn : ps.length = n) (hN : N.length = nN)
    (hb : ∀ (X : Cx) (E : XK), (∃ cdv A outer s H, X = cxOf (CXe P w) P w K mg base N qual (defScope st) f cdv A outer s H E) → XC X E k → XL X → DSs X E [] own' [] (defBody st) body) : FnAt P w K mg base (k + 1) x (fnM n nN body) := by
  refine ⟨f, fd, ps, F.okX S (fun vs H Q E h => ?_) (fun cdv A outer s H vs Q E hr hsp => ?_), hm, F.kp, b⟩
  · obtain ⟨G, ds, e, r, q⟩ := h
    by_cases hd : ds.length = n
    · rw [← r.length, hd, hn]
    · have : (ds.length == n) = false := by simpa using hd
      unfold fnM at q
      rw [this] at q
      exact (show False from q).elim
  · obtain ⟨G, ds, e, r, q⟩ := hsp
    have hd : ds.length = n := by
      by_cases hd : ds.length = n
      · exact hd
      · have : (ds.length == n) = false := by simpa using hd
        unfold fnM at q
        rw [this] at q
        exact (show False from q).elim
    unfold fnM at q
    rw [show (ds.length == n) = true by simpa using hd] at q
    have q' : RW (fin (body (startD nN ds))) (After K mg Q G H) (AfterX K mg E G H) := q
    refine ⟨_, hb _ E ⟨cdv, A, outer, s, H, rfl⟩ ⟨rfl, hr, passE⟩ ⟨PassesOwn.leaving⟩ G, G, startD nN ds, ?_, .refl e, ?_⟩
    · have := Reps.startOk e (N.length - vs.length) r
      unfold L2.start startD
      rw [← hN, r.length]
      exact .zero this
    · cases hbd : body (startD nN ds) with
      | bad => rw [hbd] at q'; exact q'
      | err e => rw [hbd] at q'; exact q'
      | ok o =>
        rw [hbd] at q'
        cases o with
        | rt d => exact fun v G' H' s r => (show After K mg Q G H d from q') v G' H' s r
        | rf es =>
          intro a vs G' H' s n e g r
          have q2 : After K mg Q G H (.lst es) := q'
          have sg : Same G' (upd G' a (.lst vs)) := same_upd g
          refine q2 (.ref a) (upd G' a (.lst vs)) H' ⟨s.g.trans sg, s.h, fun b u p => ?_, fun b u p1 p2 => ?_⟩ ⟨a, vs, rfl, SqL.of upd_same, r.mono sg⟩
          · by_cases hb : b = a
            · subst hb; rw [upd_same] at p; cases p; exact e
            · rw [upd_ne hb] at p; exact s.e b u p
          · have hb : b ≠ a := ne_of_none p1 n
            rw [upd_ne hb]; exact s.c b u p1 p2
        | nx σ => exact fun σ' G' H' ok s _ => (show After K mg Q G H .non from q') .non G' H' s rfl
        | bk σ => exact (show False from q').elim
        | ct σ => exact (show False from q').elim
end
theorem XC.lc {X : Cx} {E : XK} {k : Nat} (C : XC X E k) (scope : Scope) (NY : List Str) (s0 : Shared) (H0 : Hp) (Ca : Addr) (ex : List Addr) : XC (lcCx X scope NY s0 H0 Ca ex) E0 k := ⟨C.calm, C.room, passN⟩
end DL
end
section
set_option Elab.async false
set_option linter.all false
set_option maxRecDepth 100000
namespace DL
open PySem L2
mutual
def eqD : D → D → Bool
  | .non, .non => true
  | .bl a, .bl b => a == b
  | .int a, .int b => a == b
  | .str a, .str b => a == b
  | .bl a, .int b => (if a then (1 : Int) else 0) == b
  | .int a, .bl b => a == (if b then (1 : Int) else 0)
  | .tup xs, .tup ys => eqDs xs ys
  | .lst xs, .lst ys => eqDs xs ys
  | _, _ => false
def eqDs : List D → List D → Bool
  | [], [] => true
  | x :: xs, y :: ys => eqD x y && eqDs xs ys
  | _, _ => false
end
def datN : Nat → D → Bool
  | _, .non => true
  | _, .bl _ => true
  | _, .int _ => true
  | _, .str _ => true
  | n + 1, .tup xs => xs.all (datN n)
  | n + 1, .lst xs => xs.all (datN n)
  | _, _ => false
theorem eqDs_range : ∀ (xs ys : List D), ((List.range (min xs.length ys.length)).all (fun j => eqD (xs.getD j .non) (ys.getD j .non)) && xs.length == ys.length) = eqDs xs ys
  | [], [] => by unfold eqDs; rfl
  | [], _ :: _ => by unfold eqDs; simp
  | _ :: _, [] => by unfold eqDs; simp
  | x :: xs, y :: ys => by
    unfold eqDs
    rw [← eqDs_range xs ys]
    simp only [List.length_cons, Nat.succ_min_succ, List.range_succ_eq_map, List.all_cons, List.getD_cons_zero, List.all_map, Bool.and_assoc]
    congr 2
    rw [Bool.eq_iff_iff]; simp
theorem eqD_refl : ∀ (n : Nat) (d : D), datN n d = true → eqD d d = true := by
  intro n
  induction n with
  | zero => intro d h; cases d <;> first | (simp [datN] at h; done) | (unfold eqD; simp; done)
  | succ n ih =>
    have hl : ∀ xs : List D, xs.all (datN n) = true → eqDs xs xs = true := fun xs => by
      induction xs with
      | nil => intro _; unfold eqDs; rfl
      | cons x xs ihx =>
        intro h
        rw [List.all_cons, Bool.and_eq_true] at h
        unfold eqDs
        rw [ih x h.1, ihx h.2]; rfl
    intro d h
    cases d with
    | tup xs => unfold eqD; exact hl xs (by unfold datN at h; exact h)
    | lst xs => unfold eqD; exact hl xs (by unfold datN at h; exact h)
    | _ => first | (simp [datN] at h; done) | (unfold eqD; simp; done)
def vOf : D → Option V
  | .non => some .non
  | .bl b => some (.bl b)
  | .int i => some (.int i)
  | .str x => some (.str x)
  | _ => none
theorem rep_vOf {K : PySem.W.Frag} {mg : Str → Option Value} {G : Hp} {d : D} {v x : V} (h : vOf d = some v) (r : Rep K mg G d x) : x = v ∧ flatV v = true := by
  cases d <;> first | (simp [vOf] at h; done) | (simp only [vOf, Option.some.injEq] at h; subst h; simp only [Rep] at r; exact ⟨r, rfl⟩)
theorem eqD_flat {d d' : D} {v v' : V} (h : vOf d = some v) (h' : vOf d' = some v') : eqD d d' = eqV v v' := by
  cases d <;> first | (simp [vOf] at h; done) | (simp only [vOf, Option.some.injEq] at h; subst h; cases d' <;> first | (simp [vOf] at h'; done) | (simp only [vOf, Option.some.injEq] at h'; subst h'; unfold eqD eqV; first | rfl | simp))
theorem vOf_inj {d d' : D} {v : V} (h : vOf d = some v) (h' : vOf d' = some v) : d = d' := by
  cases d <;> first | (simp [vOf] at h; done) | (simp only [vOf, Option.some.injEq] at h; subst h; cases d' <;> first | (simp [vOf] at h'; done) | (simp only [vOf, Option.some.injEq] at h'; cases h'; rfl))
theorem dat_cases {n : Nat} {d : D} (h : datN n d = true) : (∃ v, vOf d = some v) ∨ (∃ m xs, n = m + 1 ∧ d = .tup xs ∧ xs.all (datN m) = true) ∨ (∃ m xs, n = m + 1 ∧ d = .lst xs ∧ xs.all (datN m) = true) := by
  cases d with
  | tup xs => cases n with
    | zero => simp [datN] at h
    | succ m => exact .inr (.inl ⟨m, xs, rfl, rfl, by unfold datN at h; exact h⟩)
  | lst xs => cases n with
    | zero => simp [datN] at h
    | succ m => exact .inr (.inr ⟨m, xs, rfl, rfl, by unfold datN at h; exact h⟩)
  | non => exact .inl ⟨_, rfl⟩
  | bl b => exact .inl ⟨_, rfl⟩
  | int i => exact .inl ⟨_, rfl⟩
  | str x => exact .inl ⟨_, rfl⟩
  | _ => simp [datN] at h
section
variable {X : Cx} {pins : List (Addr × Obj)} {σ : St} {G H : Hp} {s : Shared}
theorem not_both (I : Inv X pins σ H s) {a : Addr} {xs ys : List V} (h1 : SqT X.K H a xs) (h2 : SqL X.K H a ys) : False := by
  obtain ⟨_, _, ⟨o, e, c, _⟩, _⟩ := I.tuple h1
  obtain ⟨_, _, ⟨o', _, e', c', _⟩, _⟩ := I.list h2
  rw [e] at e'; cases e'
  rw [c] at c'
  exact absurd c' (by simp)
theorem flat_noref {v : V} {a : Addr} (h : flatV v = true) : v ≠ .ref a := by rintro rfl; cases h
theorem rep_inj (I : Inv X pins σ H s) (e : Same G H) : ∀ (n : Nat) {d d' : D} {v : V}, datN n d = true → datN n d' = true → Rep X.K X.mg G d v → Rep X.K X.mg G d' v → d = d' := by
  intro n
  induction n with
  | zero =>
    intro d d' v h h' r r'
    rcases dat_cases h with ⟨w, hw⟩ | ⟨_, _, z, _⟩ | ⟨_, _, z, _⟩ <;> try omega
    rcases dat_cases h' with ⟨w', hw'⟩ | ⟨_, _, z, _⟩ | ⟨_, _, z, _⟩ <;> try omega
    have e1 := (rep_vOf hw r).1
    have e2 := (rep_vOf hw' r').1
    rw [← e1] at hw; rw [← e2] at hw'
    exact vOf_inj hw hw'
  | succ n ih =>
    have hl : ∀ (xs ys : List D) (vs : List V), xs.all (datN n) = true → ys.all (datN n) = true → Reps X.K X.mg G xs vs → Reps X.K X.mg G ys vs → xs = ys := by
      intro xs
      induction xs with
      | nil =>
        intro ys vs _ _ r r'
        cases r
        cases ys with
        | nil => rfl
        | cons y ys => obtain ⟨_, _, z, _⟩ := r'; cases z
      | cons x xs ihx =>
        intro ys vs h h' r r'
        obtain ⟨v, t, rfl, r1, r2⟩ := r
        cases ys with
        | nil => cases r'
        | cons y ys =>
          obtain ⟨v', t', z, r1', r2'⟩ := r'
          cases z
          rw [List.all_cons, Bool.and_eq_true] at h h'
          rw [ih h.1 h'.1 r1 r1', ihx ys _ h.2 h'.2 r2 r2']
    intro d d' v h h' r r'
    rcases dat_cases h with ⟨w, hw⟩ | ⟨m, xs, hm, rfl, hx⟩ | ⟨m, xs, hm, rfl, hx⟩
    · rcases dat_cases h' with ⟨w', hw'⟩ | ⟨m', ys, hm', rfl, hy⟩ | ⟨m', ys, hm', rfl, hy⟩
      · have e1 := (rep_vOf hw r).1
        have e2 := (rep_vOf hw' r').1
        rw [← e1] at hw; rw [← e2] at hw'
        exact vOf_inj hw hw'
      · obtain ⟨e1, e2⟩ := rep_vOf hw r
        obtain ⟨a, vs, z, _⟩ := r'
        exact absurd (e1.symm.trans z) (flat_noref e2)
      · obtain ⟨e1, e2⟩ := rep_vOf hw r
        obtain ⟨a, vs, z, _⟩ := r'
        exact absurd (e1.symm.trans z) (flat_noref e2)
    · obtain rfl : n = m := by omega
      obtain ⟨a, vs, rfl, q1, q2⟩ := r
      rcases dat_cases h' with ⟨w', hw'⟩ | ⟨m', ys, hm', rfl, hy⟩ | ⟨m', ys, hm', rfl, hy⟩
      · obtain ⟨e1, e2⟩ := rep_vOf hw' r'
        exact absurd e1.symm (flat_noref e2)
      · obtain rfl : n = m' := by omega
        obtain ⟨a', vs', z, q1', q2'⟩ := r'
        cases z
        have := I.tuple_inj (Same.sqT e q1) (Same.sqT e q1')
        subst this
        rw [hl xs ys _ hx hy q2 q2']
      · obtain ⟨a', vs', z, q1', q2'⟩ := r'
        cases z
        exact (not_both I (Same.sqT e q1) (e.seq q1')).elim
    · obtain rfl : n = m := by omega
      obtain ⟨a, vs, rfl, q1, q2⟩ := r
      rcases dat_cases h' with ⟨w', hw'⟩ | ⟨m', ys, hm', rfl, hy⟩ | ⟨m', ys, hm', rfl, hy⟩
      · obtain ⟨e1, e2⟩ := rep_vOf hw' r'
        exact absurd e1.symm (flat_noref e2)
      · obtain ⟨a', vs', z, q1', q2'⟩ := r'
        cases z
        exact (not_both I (Same.sqT e q1') (e.seq q1)).elim
      · obtain rfl : n = m' := by omega
        obtain ⟨a', vs', z, q1', q2'⟩ := r'
        cases z
        have := I.list_inj (e.seq q1) (e.seq q1')
        subst this
        rw [hl xs ys _ hx hy q2 q2']
theorem atArr {α : Type} {us : List α} {j : Nat} (h : j < us.toArray.size) : us.toArray[j] = us[j]'(by simpa using h) := by simp
theorem getD_of {α : Type} {xs : List α} {d : α} {j : Nat} (h : j < xs.length) : xs.getD j d = xs[j] := by simp [List.getD, h]
open SeqAt in
theorem items_at {A : Around} {n : Nat} (ih : ∀ {d d' : D} {x x' : V} {u u' : Value}, datN n d = true → datN n d' = true → Rep X.K X.mg G d x → RelV x u → Rep X.K X.mg G d' x' → RelV x' u' → EqAt A s u u' (eqD d d'))
    {xs ys : List D} {vs ws : List V} {us us' : List Value} (h : xs.all (datN n) = true) (h' : ys.all (datN n) = true) (r : Reps X.K X.mg G xs vs) (q : Vals vs us) (r' : Reps X.K X.mg G ys ws) (q' : Vals ws us') :
    ∀ j (h1 : j < us.toArray.size) (h2 : j < us'.toArray.size), EqAt A s us.toArray[j] us'.toArray[j] (eqD (xs.getD j .non) (ys.getD j .non)) := by
  intro j h1 h2
  have l1 : j < vs.length := by rw [q.length]; simpa using h1
  have l2 : j < ws.length := by rw [q'.length]; simpa using h2
  have l3 : j < xs.length := by rw [r.length]; exact l1
  have l4 : j < ys.length := by rw [r'.length]; exact l2
  obtain ⟨v, e1, e2⟩ := r.get (i := j) (d := xs[j]) (by simp [l3])
  obtain ⟨w, e3, e4⟩ := r'.get (i := j) (d := ys[j]) (by simp [l4])
  obtain ⟨u, e5, e6⟩ := q.get e1
  obtain ⟨u', e7, e8⟩ := q'.get e3
  have z1 : us.toArray[j] = u := by rw [atArr h1]; exact (List.getElem?_eq_some_iff.mp e5).2
  have z2 : us'.toArray[j] = u' := by rw [atArr h2]; exact (List.getElem?_eq_some_iff.mp e7).2
  rw [z1, z2, getD_of l3, getD_of l4]
  exact ih (List.all_eq_true.mp h _ (List.getElem_mem l3)) (List.all_eq_true.mp h' _ (List.getElem_mem l4)) e2 e6 e4 e8
theorem in1_units (A : Around) : A.in1.units = A.units + 1 := rfl
open SeqAt in
theorem rcAt_V {A : Around} {x x' : V} {u u' : Value} (q : RelV x u) (q' : RelV x' u') (f : flatV x = true) (f' : flatV x' = true) : RcAt A s u u' (eqV x x') ∧ RcNeAt A s u u' (!eqV x x') := by
  cases x with
  | non =>
    cases (show u = Value.none from q)
    cases x' with
    | non => cases (show u' = Value.none from q'); exact ⟨RcAt.none_none, RcNeAt.none_none⟩
    | bl b => cases (show u' = Value.bool b from q'); exact ⟨RcAt.none_bool b, RcNeAt.none_bool b⟩
    | int b => obtain ⟨tb, rfl⟩ := (show ∃ t, u' = Value.int b t from q'); exact ⟨RcAt.none_int b tb, RcNeAt.none_int b tb⟩
    | str b => obtain ⟨tb, rfl⟩ := (show ∃ t, u' = Value.str b t from q'); exact ⟨RcAt.none_str b tb, RcNeAt.none_str b tb⟩
    | _ => cases f'
  | bl a =>
    cases (show u = Value.bool a from q)
    cases x' with
    | non => cases (show u' = Value.none from q'); exact ⟨RcAt.bool_none a, RcNeAt.bool_none a⟩
    | bl b => cases (show u' = Value.bool b from q'); exact ⟨RcAt.bool_bool a b, RcNeAt.bool_bool a b⟩
    | int b => obtain ⟨tb, rfl⟩ := (show ∃ t, u' = Value.int b t from q'); exact ⟨RcAt.bool_int a b tb, RcNeAt.bool_int a b tb⟩
    | str b => obtain ⟨tb, rfl⟩ := (show ∃ t, u' = Value.str b t from q'); exact ⟨RcAt.bool_str a b tb, RcNeAt.bool_str a b tb⟩
    | _ => cases f'
  | int a =>
    obtain ⟨ta, rfl⟩ := (show ∃ t, u = Value.int a t from q)
    cases x' with
    | non => cases (show u' = Value.none from q'); exact ⟨RcAt.int_none a ta, RcNeAt.int_none a ta⟩
    | bl b => cases (show u' = Value.bool b from q'); exact ⟨RcAt.int_bool a ta b, RcNeAt.int_bool a ta b⟩
    | int b => obtain ⟨tb, rfl⟩ := (show ∃ t, u' = Value.int b t from q'); exact ⟨RcAt.int_int a ta b tb, RcNeAt.int_int a ta b tb⟩
    | str b => obtain ⟨tb, rfl⟩ := (show ∃ t, u' = Value.str b t from q'); exact ⟨RcAt.int_str a ta b tb, RcNeAt.int_str a ta b tb⟩
    | _ => cases f'
  | str a =>
    obtain ⟨ta, rfl⟩ := (show ∃ t, u = Value.str a t from q)
    cases x' with
    | non => cases (show u' = Value.none from q'); exact ⟨RcAt.str_none a ta, RcNeAt.str_none a ta⟩
    | bl b => cases (show u' = Value.bool b from q'); exact ⟨RcAt.str_bool a ta b, RcNeAt.str_bool a ta b⟩
    | int b => obtain ⟨tb, rfl⟩ := (show ∃ t, u' = Value.int b t from q'); exact ⟨RcAt.str_int a ta b tb, RcNeAt.str_int a ta b tb⟩
    | str b => obtain ⟨tb, rfl⟩ := (show ∃ t, u' = Value.str b t from q'); exact ⟨RcAt.str_str a ta b tb, RcNeAt.str_str a ta b tb⟩
    | _ => cases f'
  | _ => cases f
open SeqAt in
theorem eqAt_flatSeq {A : Around} {x : V} {u : Value} {b : Addr} {items : Array Value} (fx : flatV x = true) (q : RelV x u) (hA : A.units < cLine) (h : s.heap.IsTuple b items ∨ s.heap.IsList b items) : EqAt A s u (.ref b) false ∧ EqAt A s (.ref b) u false ∧ RcAt A s u (.ref b) false ∧ RcAt A s (.ref b) u false ∧ RcNeAt A s u (.ref b) true ∧ RcNeAt A s (.ref b) u true := by
  cases x with
  | non =>
    obtain rfl : u = Value.none := q
    rcases h with h | h
    · exact ⟨EqAt.none_tuple h hA, EqAt.tuple_none h hA, RcAt.none_tuple h hA, RcAt.tuple_none h hA, RcNeAt.none_tuple h hA, RcNeAt.tuple_none h hA⟩
    · exact ⟨EqAt.none_list h hA, EqAt.list_none h hA, RcAt.none_list h hA, RcAt.list_none h hA, RcNeAt.none_list h hA, RcNeAt.list_none h hA⟩
  | bl a =>
    obtain rfl : u = Value.bool a := q
    rcases h with h | h
    · exact ⟨EqAt.bool_tuple _ h hA, EqAt.tuple_bool _ h hA, RcAt.bool_tuple _ h hA, RcAt.tuple_bool _ h hA, RcNeAt.bool_tuple _ h hA, RcNeAt.tuple_bool _ h hA⟩
    · exact ⟨EqAt.bool_list _ h hA, EqAt.list_bool _ h hA, RcAt.bool_list _ h hA, RcAt.list_bool _ h hA, RcNeAt.bool_list _ h hA, RcNeAt.list_bool _ h hA⟩
  | int a =>
    obtain ⟨t, rfl⟩ : ∃ t, u = Value.int a t := q
    rcases h with h | h
    · exact ⟨EqAt.int_tuple _ _ h hA, EqAt.tuple_int _ _ h hA, RcAt.int_tuple _ _ h hA, RcAt.tuple_int _ _ h hA, RcNeAt.int_tuple _ _ h hA, RcNeAt.tuple_int _ _ h hA⟩
    · exact ⟨EqAt.int_list _ _ h hA, EqAt.list_int _ _ h hA, RcAt.int_list _ _ h hA, RcAt.list_int _ _ h hA, RcNeAt.int_list _ _ h hA, RcNeAt.list_int _ _ h hA⟩
  | str a =>
    obtain ⟨t, rfl⟩ : ∃ t, u = Value.str a t := q
    rcases h with h | h
    · exact ⟨EqAt.str_tuple _ _ h hA, EqAt.tuple_str _ _ h hA, RcAt.str_tuple _ _ h hA, RcAt.tuple_str _ _ h hA, RcNeAt.str_tuple _ _ h hA, RcNeAt.tuple_str _ _ h hA⟩
    · exact ⟨EqAt.str_list _ _ h hA, EqAt.list_str _ _ h hA, RcAt.str_list _ _ h hA, RcAt.list_str _ _ h hA, RcNeAt.str_list _ _ h hA, RcNeAt.list_str _ _ h hA⟩
  | _ => cases fx
theorem eqD_seqs {xs ys : List D} : eqD (.tup xs) (.tup ys) = eqDs xs ys ∧ eqD (.lst xs) (.lst ys) = eqDs xs ys ∧ eqD (.tup xs) (.lst ys) = false ∧ eqD (.lst xs) (.tup ys) = false := by
  refine ⟨?_, ?_, ?_, ?_⟩ <;> (unfold eqD; rfl)
theorem eqD_flatSeq {d : D} {v : V} {ys : List D} (h : vOf d = some v) : eqD d (.tup ys) = false ∧ eqD d (.lst ys) = false ∧ eqD (.tup ys) d = false ∧ eqD (.lst ys) d = false := by
  cases d <;> first | (simp [vOf] at h; done) | (refine ⟨?_, ?_, ?_, ?_⟩ <;> (unfold eqD; rfl))
set_option maxHeartbeats 4000000 in
open SeqAt in
theorem eqAt_D (I : Inv X pins σ H s) (e : Same G H) : ∀ (n : Nat) {A : Around} {d d' : D} {x x' : V} {u u' : Value}, A.units + n < cLine → datN n d = true → datN n d' = true → Rep X.K X.mg G d x → RelV x u → Rep X.K X.mg G d' x' → RelV x' u' →
    EqAt A s u u' (eqD d d') ∧ RcAt A s u u' (eqD d d') ∧ RcNeAt A s u u' (!eqD d d') := by
  have ff : ∀ {A : Around} {d d' : D} {v v' x x' : V} {u u' : Value}, vOf d = some v → vOf d' = some v' → Rep X.K X.mg G d x → RelV x u → Rep X.K X.mg G d' x' → RelV x' u' → EqAt A s u u' (eqD d d') ∧ RcAt A s u u' (eqD d d') ∧ RcNeAt A s u u' (!eqD d d') := by
    intro A d d' v v' x x' u u' hv hv' r q r' q'
    obtain ⟨rfl, f1⟩ := rep_vOf hv r
    obtain ⟨rfl, f2⟩ := rep_vOf hv' r'
    rw [eqD_flat hv hv']
    exact ⟨eqAt_V q q' f1 f2, rcAt_V q q' f1 f2⟩
  have seq : ∀ {d : D} {m : Nat} {xs : List D} {x : V} {u : Value}, d = .tup xs ∨ d = .lst xs → Rep X.K X.mg G d x → RelV x u → ∃ b items, u = .ref b ∧ (s.heap.IsTuple b items ∨ s.heap.IsList b items) := by
    intro d m xs x u hd r q
    rcases hd with rfl | rfl
    · obtain ⟨a, vs, rfl, q1, q2⟩ := r
      obtain ⟨us, v1, t1, _⟩ := I.tuple (Same.sqT e q1)
      exact ⟨a, _, q, .inl t1⟩
    · obtain ⟨a, vs, rfl, q1, q2⟩ := r
      obtain ⟨us, v1, t1, _⟩ := I.list (e.seq q1)
      exact ⟨a, _, q, .inr t1.isList⟩
  intro n
  induction n with
  | zero =>
    intro A d d' x x' u u' hu h h' r q r' q'
    rcases dat_cases h with ⟨w, hw⟩ | ⟨_, _, z, _⟩ | ⟨_, _, z, _⟩ <;> try omega
    rcases dat_cases h' with ⟨w', hw'⟩ | ⟨_, _, z, _⟩ | ⟨_, _, z, _⟩ <;> try omega
    exact ff hw hw' r q r' q'
  | succ n ih =>
    intro A d d' x x' u u' hu h h' r q r' q'
    have hA : A.units < cLine := by omega
    have ih' : ∀ {d d' : D} {x x' : V} {u u' : Value}, datN n d = true → datN n d' = true → Rep X.K X.mg G d x → RelV x u → Rep X.K X.mg G d' x' → RelV x' u' → EqAt A.in1 s u u' (eqD d d') :=
      fun a b c d e f => (ih (A := A.in1) (by rw [in1_units]; omega) a b c d e f).1
    rcases dat_cases h with ⟨w, hw⟩ | ⟨m, xs, hm, rfl, hx⟩ | ⟨m, xs, hm, rfl, hx⟩
    · rcases dat_cases h' with ⟨w', hw'⟩ | ⟨m', ys, hm', rfl, hy⟩ | ⟨m', ys, hm', rfl, hy⟩
      · exact ff hw hw' r q r' q'
      · obtain ⟨rfl, f1⟩ := rep_vOf hw r
        obtain ⟨b, items, rfl, hb⟩ := seq (m := m') (.inl rfl) r' q'
        obtain ⟨z1, _, z3, _, z5, _⟩ := eqAt_flatSeq f1 q hA hb
        rw [(eqD_flatSeq hw).1]; exact ⟨z1, z3, z5⟩
      · obtain ⟨rfl, f1⟩ := rep_vOf hw r
        obtain ⟨b, items, rfl, hb⟩ := seq (m := m') (.inr rfl) r' q'
        obtain ⟨z1, _, z3, _, z5, _⟩ := eqAt_flatSeq f1 q hA hb
        rw [(eqD_flatSeq hw).2.1]; exact ⟨z1, z3, z5⟩
    · obtain rfl : n = m := by omega
      rcases dat_cases h' with ⟨w', hw'⟩ | ⟨m', ys, hm', rfl, hy⟩ | ⟨m', ys, hm', rfl, hy⟩
      · obtain ⟨rfl, f1⟩ := rep_vOf hw' r'
        obtain ⟨b, items, rfl, hb⟩ := seq (m := n) (.inl rfl) r q
        obtain ⟨_, z2, _, z4, _, z6⟩ := eqAt_flatSeq f1 q' hA hb
        rw [(eqD_flatSeq hw').2.2.1]; exact ⟨z2, z4, z6⟩
      · obtain rfl : n = m' := by omega
        have hr := r; have hr' := r'
        obtain ⟨a, vs, rfl, q1, q2⟩ := r
        obtain rfl : u = Value.ref a := q
        obtain ⟨us, v1, t1, _⟩ := I.tuple (Same.sqT e q1)
        obtain ⟨b, ws, rfl, q1', q2'⟩ := r'
        obtain rfl : u' = Value.ref b := q'
        obtain ⟨us', v1', t1', _⟩ := I.tuple (Same.sqT e q1')
        have t1 : s.heap.IsTuple a us.toArray := t1
        have t1' : s.heap.IsTuple b us'.toArray := t1'
        have z := RcAt.tuples t1 t1' hA (items_at ih' hx hy q2 v1 q2' v1')
        have zn := RcNeAt.tuples t1 t1' hA (items_at ih' hx hy q2 v1 q2' v1')
        have hz : ((List.range (min us.toArray.size us'.toArray.size)).all (fun j => eqD (xs.getD j .non) (ys.getD j .non)) && us.toArray.size == us'.toArray.size) = eqD (.tup xs) (.tup ys) := by
          rw [eqD_seqs.1, ← eqDs_range]
          simp only [List.size_toArray, ← v1.length, ← v1'.length, ← q2.length, ← q2'.length]
        rw [hz] at z zn
        refine ⟨?_, z, zn⟩
        by_cases hab : a = b
        · subst hab
          have ed := rep_inj I e (n + 1) h h' hr hr'
          rw [ed, eqD_refl _ _ h']; exact EqAt.same _
        · exact EqAt.of_refs hab z
      · obtain ⟨a, vs, rfl, q1, q2⟩ := r
        obtain rfl : u = Value.ref a := q
        obtain ⟨us, v1, t1, _⟩ := I.tuple (Same.sqT e q1)
        obtain ⟨b, ws, rfl, q1', q2'⟩ := r'
        obtain rfl : u' = Value.ref b := q'
        obtain ⟨us', v1', t1', _⟩ := I.list (e.seq q1')
        have t1 : s.heap.IsTuple a us.toArray := t1
        rw [eqD_seqs.2.2.1]
        exact ⟨EqAt.tuple_list t1 t1'.isList hA, RcAt.tuple_list t1 t1'.isList hA, RcNeAt.tuple_list t1 t1'.isList hA⟩
    · obtain rfl : n = m := by omega
      rcases dat_cases h' with ⟨w', hw'⟩ | ⟨m', ys, hm', rfl, hy⟩ | ⟨m', ys, hm', rfl, hy⟩
      · obtain ⟨rfl, f1⟩ := rep_vOf hw' r'
        obtain ⟨b, items, rfl, hb⟩ := seq (m := n) (.inr rfl) r q
        obtain ⟨_, z2, _, z4, _, z6⟩ := eqAt_flatSeq f1 q' hA hb
        rw [(eqD_flatSeq hw').2.2.2]; exact ⟨z2, z4, z6⟩
      · obtain ⟨a, vs, rfl, q1, q2⟩ := r
        obtain rfl : u = Value.ref a := q
        obtain ⟨us, v1, t1, _⟩ := I.list (e.seq q1)
        obtain ⟨b, ws, rfl, q1', q2'⟩ := r'
        obtain rfl : u' = Value.ref b := q'
        obtain ⟨us', v1', t1', _⟩ := I.tuple (Same.sqT e q1')
        have t1' : s.heap.IsTuple b us'.toArray := t1'
        rw [eqD_seqs.2.2.2]
        exact ⟨EqAt.list_tuple t1.isList t1' hA, RcAt.list_tuple t1.isList t1' hA, RcNeAt.list_tuple t1.isList t1' hA⟩
      · obtain rfl : n = m' := by omega
        have hr := r; have hr' := r'
        obtain ⟨a, vs, rfl, q1, q2⟩ := r
        obtain rfl : u = Value.ref a := q
        obtain ⟨us, v1, t1, _⟩ := I.list (e.seq q1)
        obtain ⟨b, ws, rfl, q1', q2'⟩ := r'
        obtain rfl : u' = Value.ref b := q'
        obtain ⟨us', v1', t1', _⟩ := I.list (e.seq q1')
        have both : RcAt A s (.ref a) (.ref b) (eqD (.lst xs) (.lst ys)) ∧ RcNeAt A s (.ref a) (.ref b) (!eqD (.lst xs) (.lst ys)) := by
          by_cases hl : us.toArray.size = us'.toArray.size
          · have z := RcAt.lists t1.isList t1'.isList hl hA (items_at ih' hx hy q2 v1 q2' v1')
            have zn := RcNeAt.lists t1.isList t1'.isList hl hA (items_at ih' hx hy q2 v1 q2' v1')
            have hz : (List.range us.toArray.size).all (fun j => eqD (xs.getD j .non) (ys.getD j .non)) = eqD (.lst xs) (.lst ys) := by
              have hl' : xs.length = ys.length := by rw [q2.length, q2'.length, v1.length, v1'.length]; simpa using hl
              rw [eqD_seqs.2.1, ← eqDs_range, hl', Nat.min_self, List.size_toArray, ← v1.length, ← q2.length, hl']
              simp
            rw [hz] at z zn
            exact ⟨z, zn⟩
          · have z := RcAt.lists_lengths t1.isList t1'.isList (by simpa using hl) hA
            have zn := RcNeAt.lists_lengths t1.isList t1'.isList (by simpa using hl) hA
            have hz : eqD (.lst xs) (.lst ys) = false := by
              have hl' : ¬ xs.length = ys.length := by rw [q2.length, q2'.length, v1.length, v1'.length]; simpa using hl
              rw [eqD_seqs.2.1, ← eqDs_range]
              simp [hl']
            rw [hz]
            exact ⟨z, zn⟩
        refine ⟨?_, both⟩
        by_cases hab : a = b
        · subst hab
          have ed := rep_inj I e (n + 1) h h' hr hr'
          rw [ed, eqD_refl _ _ h']; exact EqAt.same _
        · exact EqAt.of_refs hab both.1
end
end DL
end
section
set_option Elab.async false
set_option linter.all false
set_option maxRecDepth 100000
namespace DL
open PySem L2 PyProof.Rows
def B (n : Nat) (i : Int) : Prop := i.natAbs < 2 ^ n
theorem B.of {n : Nat} {i : Int} {k : Nat} (h : i.natAbs ≤ k) (hk : k < 2 ^ n := by decide +kernel) : B n i := Nat.lt_of_le_of_lt h hk
theorem B.log {n : Nat} {i : Int} (h : B n i) (hn : 0 < n) : i.natAbs.log2 < n := log2_lt_of hn h
def mulB (i : Int) : Bool := decide (i.natAbs.log2 < 60000000)
theorem mulB_of {n : Nat} {i : Int} (h : B n i) (hn : n ≤ 60000000 := by decide) : mulB i = true := by
  refine decide_eq_true ?_
  cases n with
  | zero =>
    have : i.natAbs = 0 := by unfold B at h; omega
    rw [this]; decide
  | succ k => exact Nat.lt_of_lt_of_le (h.log (Nat.succ_pos _)) hn
theorem mulB_ok {i j : Int} (a : mulB i = true) (b : mulB j = true) : IntMulOk i j := by
  have h1 : i.natAbs.log2 < 60000000 := of_decide_eq_true a
  have h2 : j.natAbs.log2 < 60000000 := of_decide_eq_true b
  have bits : ∀ k : Int, k.natAbs.log2 < 60000000 → Builtin.Int.intBits k ≤ 60000000 := fun k h => by
    unfold Builtin.Int.intBits
    split
    · exact Nat.zero_le _
    · omega
  have b1 := bits i h1
  have b2 := bits j h2
  unfold IntMulOk
  intro z
  simp only [Bool.and_eq_true, decide_eq_true_eq, Builtin.Int.intTooBig] at z
  have e := z.2
  have l : (bitsLine : Int) = 134217728 := by decide
  rw [l] at e
  omega
def divB (i : Int) : Bool := decide (i ≠ 0 ∧ i.natAbs.log2 < 9000)
theorem divB_of {n : Nat} {i : Int} (h : B n i) (h0 : i ≠ 0) (hn : n ≤ 9000 := by decide) : divB i = true := by
  refine decide_eq_true ⟨h0, ?_⟩
  cases n with
  | zero =>
    have : i.natAbs = 0 := by unfold B at h; omega
    omega
  | succ k => exact Nat.lt_of_lt_of_le (h.log (Nat.succ_pos _)) hn
def powB (i j : Int) : Bool := decide (0 ≤ j ∧ j ≤ 1000000 ∧ i.natAbs < 2 ^ 64)
section
variable {X : Cx} {K : PySem.W.Frag} {mg : Str → Option Value}
def gI (C : Int → Int → Bool) (h : Int → Int → Int) : D → D → R D
  | .int i, .int j => bif C i j then .ok (.int (h i j)) else .bad
  | _, _ => .bad
def gB (h : Int → Int → Bool) : D → D → R D
  | .int i, .int j => .ok (.bl (h i j))
  | _, _ => .bad
theorem nx_I {C : Int → Int → Bool} {h : Int → Int → Int} : NoErr (gI C h) := by
  intro a b e
  cases a <;> cases b <;> simp only [gI] <;> first | (intro z; cases z) | (intro z; revert z; cases C _ _ <;> simp [cond])
theorem nx_B {h : Int → Int → Bool} : NoErr (gB h) := by
  intro a b e
  cases a <;> cases b <;> simp only [gB] <;> (intro z; cases z)
theorem od_I {C : Int → Int → Bool} {C' : Int → Int → Prop} {h : Int → Int → Int} (hc : ∀ i j, C i j = true → C' i j) : OpD K mg (rI C' fun i j => .int (h i j)) (gI C h) := by
  intro G H a b x y Q e ra rb q
  cases a with
  | int i => cases b with
    | int j =>
      cases ra; cases rb
      cases hC : C i j with
      | false => simp only [gI, hC, cond_false] at q; exact q.elim
      | true =>
        simp only [gI, hC, cond_true] at q
        exact ⟨i, j, rfl, rfl, hc i j hC, After.now q e rfl⟩
    | _ => exact (show False from q).elim
  | _ => exact (show False from q).elim
theorem od_B {h : Int → Int → Bool} : OpD K mg (rI0 fun i j => .bl (h i j)) (gB h) := by
  intro G H a b x y Q e ra rb q
  cases a with
  | int i => cases b with
    | int j => cases ra; cases rb; exact ⟨i, j, rfl, rfl, After.now q e rfl⟩
    | _ => exact (show False from q).elim
  | _ => exact (show False from q).elim
theorem op_mulD : OpR X (binaryOp .Mult) (rI (fun i j => mulB i = true ∧ mulB j = true) fun i j => .int (i * j)) := opI fun _ _ _ _ _ _ _ hc q => mul_int q (mulB_ok hc.1 hc.2)
theorem op_fdivD : OpR X (binaryOp .FloorDiv) (rI (fun _ j => divB j = true) fun i j => .int (i.fdiv j)) := opI fun i j _ _ _ _ _ hc q => by
  have h := of_decide_eq_true (p := j ≠ 0 ∧ j.natAbs.log2 < 9000) hc
  exact floordiv_int h.1 q (.inl (PyProof.noPylong_of_log2 h.2))
def rCatL (K : PySem.W.Frag) : R2 := fun x y H Q => ∃ l b xs zs, x = .ref l ∧ y = .ref b ∧ SqL K H l xs ∧ SqL K H b zs ∧ xs.length + zs.length ≤ sizeLine ∧ ∀ p, H p = none → Q (.ref p) (upd H p (.lst (xs ++ zs)))
theorem op_catL : OpR X (binaryOp .Add) (rCatL X.K) := by
  intro pins s σ H x y v u Q I rx ry h
  obtain ⟨l, b, xs, zs, rfl, rfl, hH, hB, hz, q⟩ := h
  cases rx
  cases ry
  obtain ⟨its, r, pl, _⟩ := I.list hH
  obtain ⟨its2, r2, pl2, _⟩ := I.list hB
  obtain ⟨⟨cls, dd, data, sl⟩, ho, hc, n, hd⟩ := id pl.isList
  obtain ⟨⟨cls2, dd2, data2, sl2⟩, ho2, hc2, n2, hd2⟩ := id pl2.isList
  simp only at hc hd hc2 hd2
  subst hc hd hc2 hd2
  refine concat_meets ⟨_, ho, rfl⟩ ⟨_, ho2, rfl⟩ noFill_list_add seq_list_add PySem.F.slot_list_add PySem.F.entry_list_add (PySem.F.args_list_add_2 _ _) (list_addW l b its.toArray its2.toArray n n2 dd dd2 sl sl2 (by rw [List.size_toArray, List.size_toArray, ← r.length, ← r2.length]; exact hz)) ⟨ho, ho2, ?_⟩
  have ea : its.toArray ++ its2.toArray = (its ++ its2).toArray := by simp
  rw [ea]
  exact ⟨.ref _, _, I.lnew (t' := s.toks) (r.append r2) (by rw [List.length_append]; exact hz), rfl, q _ I.fresh⟩
def le24 (n : Nat) : Bool := decide (n ≤ sizeLine)
def gAdd : D → D → R D
  | .int i, .int j => .ok (.int (i + j))
  | .str x, .str y => bif le24 (x.length + y.length) then .ok (.str (x ++ y)) else .bad
  | .lst xs, .lst ys => bif le24 (xs.length + ys.length) then .ok (.lst (xs ++ ys)) else .bad
  | .tup xs, .tup ys => bif le24 (xs.length + ys.length) && !xs.isEmpty then .ok (.tup (xs ++ ys)) else .bad
  | _, _ => .bad
theorem nx_add : NoErr gAdd := by
  intro a b e
  cases a <;> cases b <;> simp only [gAdd] <;> first | (intro z; cases z; done) | (generalize le24 _ = k; cases k <;> simp [cond] <;> (try (generalize List.isEmpty _ = k2; cases k2 <;> simp)))
abbrev rAddD (K : PySem.W.Frag) : R2 := fun x y H Q => rI0 (fun i j => .int (i + j)) x y H Q ∨ ((∃ i j, x = .str i ∧ y = .str j ∧ i.length + j.length ≤ sizeLine ∧ Q (.str (i ++ j)) H) ∨ (rCatL K x y H Q ∨ rCatT K x y H Q))
theorem od_add : OpD K mg (rAddD K) gAdd := by
  intro G H a b x y Q e ra rb q
  cases a with
  | int i => cases b with
    | int j => cases ra; cases rb; exact .inl ⟨i, j, rfl, rfl, After.now q e rfl⟩
    | _ => exact (show False from q).elim
  | str i => cases b with
    | str j =>
      cases ra; cases rb
      cases hC : le24 (i.length + j.length) with
      | false => simp only [gAdd, hC, cond_false] at q; exact q.elim
      | true =>
        simp only [gAdd, hC, cond_true] at q
        exact .inr (.inl ⟨i, j, rfl, rfl, of_decide_eq_true hC, After.now q e rfl⟩)
    | _ => exact (show False from q).elim
  | lst xs => cases b with
    | lst ys =>
      obtain ⟨p, vs, rfl, h1, h2⟩ := ra
      obtain ⟨p', ws, rfl, h1', h2'⟩ := rb
      cases hC : le24 (xs.length + ys.length) with
      | false => simp only [gAdd, hC, cond_false] at q; exact q.elim
      | true =>
        simp only [gAdd, hC, cond_true] at q
        refine .inr (.inr (.inl ⟨p, p', vs, ws, rfl, rfl, e.seq h1, e.seq h1', by rw [← h2.length, ← h2'.length]; exact of_decide_eq_true hC, fun l hl => ?_⟩))
        have s := Step.pub (o := .lst (vs ++ ws)) e hl
        exact (show After K mg Q G H (.lst (xs ++ ys)) from q) _ _ _ s ⟨l, _, rfl, SqL.of upd_same, (h2.append h2').mono s.g⟩
    | _ => exact (show False from q).elim
  | tup xs => cases b with
    | tup ys =>
      obtain ⟨p, vs, rfl, h1, h2⟩ := ra
      obtain ⟨p', ws, rfl, h1', h2'⟩ := rb
      cases hC : (le24 (xs.length + ys.length) && !xs.isEmpty) with
      | false => simp only [gAdd, hC, cond_false] at q; exact q.elim
      | true =>
        simp only [gAdd, hC, cond_true] at q
        rw [Bool.and_eq_true] at hC
        have q' : After K mg Q G H (.tup (xs ++ ys)) := q
        refine .inr (.inr (.inr ⟨p, p', vs, ws, rfl, rfl, Same.sqT e h1, Same.sqT e h1', fun z => ?_, by rw [← h2.length, ← h2'.length]; exact of_decide_eq_true hC.1, fun z => ?_, fun z l hl => ?_⟩))
        · subst z
          have := h2.length
          have hx : xs = [] := List.length_eq_zero_iff.mp this
          subst hx; simp at hC
        · subst z
          have := h2'.length
          have hy : ys = [] := List.length_eq_zero_iff.mp this
          subst hy
          rw [List.append_nil] at q'
          exact q'.now e ⟨p, vs, rfl, h1, h2⟩
        · have s := Step.pub (o := .tup (vs ++ ws)) e hl
          exact q' _ _ _ s ⟨l, _, rfl, SqT.of upd_same, (h2.append h2').mono s.g⟩
    | _ => exact (show False from q).elim
  | _ => exact (show False from q).elim
abbrev gSub : D → D → R D := gI (fun _ _ => true) fun i j => i - j
abbrev gMul : D → D → R D := gI (fun i j => mulB i && mulB j) fun i j => i * j
abbrev gFdiv : D → D → R D := gI (fun _ j => divB j) fun i j => i.fdiv j
abbrev gMod : D → D → R D := gI (fun _ j => decide (j ≠ 0)) fun i j => i.fmod j
abbrev gPow : D → D → R D := gI powB fun i j => i ^ j.toNat
abbrev gShr : D → D → R D := gI (fun _ j => decide (0 ≤ j)) fun i j => i / 2 ^ j.toNat
variable {E : XK} {a b c : Expr} {fa fb fc : DSt → R D} {pos : Pos}
theorem de_add (ha : DE X E a fa) (hb : DE X E b fb) : DE X E (.BinOp a .Add b pos) (eOp gAdd fa fb) := de_op (op_add.or (op_add_str.or (op_catL.or op_catT))) od_add nx_add ha hb
theorem de_mul (ha : DE X E a fa) (hb : DE X E b fb) : DE X E (.BinOp a .Mult b pos) (eOp gMul fa fb) := de_op op_mulD (od_I fun i j h => by simpa using h) nx_I ha hb
theorem de_fdiv (ha : DE X E a fa) (hb : DE X E b fb) : DE X E (.BinOp a .FloorDiv b pos) (eOp gFdiv fa fb) := de_op op_fdivD (od_I fun i j h => h) nx_I ha hb
theorem de_mod (ha : DE X E a fa) (hb : DE X E b fb) : DE X E (.BinOp a .Mod b pos) (eOp gMod fa fb) := de_op op_modN (od_I fun i j h => of_decide_eq_true h) nx_I ha hb
theorem de_pow (ha : DE X E a fa) (hb : DE X E b fb) : DE X E (.BinOp a .Pow b pos) (eOp gPow fa fb) := de_op op_pow (od_I fun i j h => of_decide_eq_true (p := 0 ≤ j ∧ j ≤ 1000000 ∧ i.natAbs < 2 ^ 64) h) nx_I ha hb
def gNeg : D → R D
  | .int i => .ok (.int (-i))
  | _ => .bad
structure CmpF (X : Cx) (op : CmpOp) (g : D → D → R D) : Prop where
  ex : ∃ r, OpR X (compareOp op) r ∧ OpD X.K X.mg r g ∧ NoErr g
abbrev gLt : D → D → R D := gB fun i j => decide (i < j)
abbrev gLe : D → D → R D := gB fun i j => decide (i ≤ j)
abbrev gGt : D → D → R D := gB fun i j => decide (j < i)
abbrev gGe : D → D → R D := gB fun i j => decide (j ≤ i)
theorem cf_lt : CmpF X .Lt gLt := ⟨_, op_lt, od_B, nx_B⟩
theorem cf_gt : CmpF X .Gt gGt := ⟨_, op_gt, od_B, nx_B⟩
theorem cf_ge : CmpF X .GtE gGe := ⟨_, op_ge, od_B, nx_B⟩
def cmp2 (a b : D) : Bool := datN 9 a && datN 9 b
def gEq (a b : D) : R D := bif cmp2 a b then .ok (.bl (eqD a b)) else .bad
def gNe (a b : D) : R D := bif cmp2 a b then .ok (.bl (!eqD a b)) else .bad
def rEqD (K : PySem.W.Frag) (mg : Str → Option Value) (neg : Bool) : R2 := fun x y H Q => ∃ G d d', Same G H ∧ Rep K mg G d x ∧ Rep K mg G d' y ∧ cmp2 d d' = true ∧ Q (.bl (bif neg then !eqD d d' else eqD d d')) H
theorem op_eqD {k : Nat} (r : Room k X.A) : OpR X (compareOp .Eq) (rEqD X.K X.mg false) := by
  intro pins s σ H x y v u Q I rx ry h
  obtain ⟨G, d, d', e, r1, r2, c, q⟩ := h
  unfold cmp2 at c
  rw [Bool.and_eq_true] at c
  have hu : X.A.units + 9 < cLine := by have := r.un; omega
  exact (eqAt_D I e 9 hu c.1 c.2 r1 rx r2 ry).2.1 _ _ _ _ ⟨.bl _, H, I, rfl, q⟩
theorem op_neD {k : Nat} (r : Room k X.A) : OpR X (compareOp .NotEq) (rEqD X.K X.mg true) := by
  intro pins s σ H x y v u Q I rx ry h
  obtain ⟨G, d, d', e, r1, r2, c, q⟩ := h
  unfold cmp2 at c
  rw [Bool.and_eq_true] at c
  have hu : X.A.units + 9 < cLine := by have := r.un; omega
  exact (eqAt_D I e 9 hu c.1 c.2 r1 rx r2 ry).2.2 _ _ _ _ ⟨.bl _, H, I, rfl, q⟩
theorem cf_eq {k : Nat} (C : XC X E k) : CmpF X .Eq gEq := ⟨_, op_eqD C.room, fun G H a b x y Q e ra rb q => by
  unfold gEq at q
  cases hc : cmp2 a b with
  | false => rw [hc] at q; exact q.elim
  | true => rw [hc] at q; exact ⟨G, a, b, e, ra, rb, hc, After.now q e rfl⟩, fun a b e => by unfold gEq; cases cmp2 a b <;> simp [cond]⟩
theorem cf_ne {k : Nat} (C : XC X E k) : CmpF X .NotEq gNe := ⟨_, op_neD C.room, fun G H a b x y Q e ra rb q => by
  unfold gNe at q
  cases hc : cmp2 a b with
  | false => rw [hc] at q; exact q.elim
  | true => rw [hc] at q; exact ⟨G, a, b, e, ra, rb, hc, After.now q e rfl⟩, fun a b e => by unfold gNe; cases cmp2 a b <;> simp [cond]⟩
def isNon : D → Bool
  | .non => true
  | _ => false
def gIs : D → D → R D
  | d, .non => .ok (.bl (isNon d))
  | .bl a, .bl b => .ok (.bl (a == b))
  | _, _ => .bad
def gIsn : D → D → R D
  | d, .non => .ok (.bl (!isNon d))
  | .bl a, .bl b => .ok (.bl (a != b))
  | _, _ => .bad
theorem de_cmp1 {op : CmpOp} {g : D → D → R D} (cf : CmpF X op g) (ha : DE X E a fa) (hb : DE X E b fb) (hm : behindInMarks op b = false := by first | exact nobehind _ (by decide) (by decide) | rfl) : DE X E (.Compare a [op] [b] pos) (eOp g fa fb) := by
  obtain ⟨r, h1, h2, h3⟩ := cf.ex
  exact de_cmp h1 h2 h3 ha hb hm
theorem dt_cmp1 {op : CmpOp} {g : D → D → R D} (cf : CmpF X op g) (ha : DE X E a fa) (hb : DE X E b fb) (hm : behindInMarks op b = false := by first | exact nobehind _ (by decide) (by decide) | rfl) : DT X E (.Compare a [op] [b] pos) (eTest (eOp g fa fb)) := by
  obtain ⟨r, h1, h2, h3⟩ := cf.ex
  exact dt_cmp h1 h2 h3 ha hb hm
end
end DL
end
section
set_option Elab.async false
set_option linter.all false
set_option maxRecDepth 100000
namespace DL
open PySem L2 PyProof.Rows
section
variable {X : Cx} {E : XK} {K : PySem.W.Frag} {mg : Str → Option Value} {G H : Hp}
theorem boot_all : bootBuiltins "all" = some (.builtin "all") := by rfl
theorem boot_isi : bootBuiltins "isinstance" = some (.builtin "isinstance") := by rfl
theorem bt_int : bootBuiltins "int" = some (.type "int") := by rfl
theorem bt_str : bootBuiltins "str" = some (.type "str") := by rfl
theorem bt_ValueError : bootBuiltins "ValueError" = some (.type "ValueError") := by rfl
theorem Reps.one {d : D} {vs : List V} (h : Reps K mg G [d] vs) : ∃ v, vs = [v] ∧ Rep K mg G d v := by
  obtain ⟨v, r, rfl, h2, h3⟩ := h
  cases h3
  exact ⟨v, rfl, h2⟩
theorem Reps.two {d d' : D} {vs : List V} (h : Reps K mg G [d, d'] vs) : ∃ v w, vs = [v, w] ∧ Rep K mg G d v ∧ Rep K mg G d' w := by
  obtain ⟨v, r, rfl, h2, h3⟩ := h
  obtain ⟨w, rfl, h4⟩ := h3.one
  exact ⟨v, w, rfl, h2, h4⟩
def g1 {α : Type} (g : D → R α) : List D → R α
  | [d] => g d
  | _ => .bad
def g2 {α : Type} (g : D → D → R α) : List D → R α
  | [d, e] => g d e
  | _ => .bad
theorem cd1 {r : List V → Hp → VK → Prop} {g : D → R D} (h : ∀ (G H : Hp) (d : D) (v : V) (Q : VK), Same G H → Rep K mg G d v → RW (g d) (After K mg Q G H) (fun _ => False) → r [v] H Q) : CallD K mg r (g1 g) := by
  intro G H ds vs Q e rp q
  match ds, rp, q with
  | [], rp, q => exact (show False from q).elim
  | [d], rp, q => obtain ⟨v, rfl, h1⟩ := rp.one; exact h G H d v Q e h1 q
  | _ :: _ :: _, rp, q => exact (show False from q).elim
theorem cd2 {r : List V → Hp → VK → Prop} {g : D → D → R D} (h : ∀ (G H : Hp) (d d' : D) (v v' : V) (Q : VK), Same G H → Rep K mg G d v → Rep K mg G d' v' → RW (g d d') (After K mg Q G H) (fun _ => False) → r [v, v'] H Q) : CallD K mg r (g2 g) := by
  intro G H ds vs Q e rp q
  match ds, rp, q with
  | [], rp, q => exact (show False from q).elim
  | [d], rp, q => exact (show False from q).elim
  | [d, d'], rp, q => obtain ⟨v, w, rfl, h1, h2⟩ := rp.two; exact h G H d d' v w Q e h1 h2 q
  | _ :: _ :: _ :: _, rp, q => exact (show False from q).elim
variable {x : Str} {p pos : Pos} {e : Expr} {es : List Expr} {fs : DSt → R (List D)}
def len1 : D → R D
  | .lst xs => .ok (.int xs.length)
  | .tup xs => .ok (.int xs.length)
  | .str y => bif le24 y.length then .ok (.int y.length) else .bad
  | _ => .bad
abbrev gLen := g1 len1
theorem cd_len : CallD K mg (fun xs H Q => (∃ p ys, xs = [.ref p] ∧ (SqL K H p ys ∨ SqT K H p ys) ∧ Q (.int ys.length) H) ∨ (∃ z, xs = [.str z] ∧ z.length ≤ sizeLine ∧ Q (.int z.length) H)) gLen := cd1 fun G H d v Q e r q => by
  cases d with
  | lst xs =>
    obtain ⟨a, vs, rfl, h1, h2⟩ := r
    exact .inl ⟨a, vs, rfl, .inl (e.seq h1), by rw [← h2.length]; exact After.now q e rfl⟩
  | tup xs =>
    obtain ⟨a, vs, rfl, h1, h2⟩ := r
    exact .inl ⟨a, vs, rfl, .inr (Same.sqT e h1), by rw [← h2.length]; exact After.now q e rfl⟩
  | str y =>
    cases r
    cases hC : le24 y.length with
    | false => simp only [len1, hC, cond_false] at q; exact q.elim
    | true => simp only [len1, hC, cond_true] at q; exact .inr ⟨y, rfl, of_decide_eq_true hC, After.now q e rfl⟩
  | _ => exact (show False from q).elim
theorem de_len (hm : X.mg "len" = none) (ha : DA X E (e :: es) fs) (hg : Gl X "len" := by rfl) (he : starEach (e :: es) X.env = (false, eval e X.env) :: starEach es X.env := by rfl) (hpl : (backTo pos (starEach es X.env)).any (·.1) = false := by rfl) : DE X E (.Call (.Name "len" p) (e :: es) [] pos) (eBlt gLen fs) :=
  de_blt (call_len_seq.or call_len_str) cd_len hm PySem.boot_len ha hg (by decide) (by decide) he hpl
def abs1 : D → R D
  | .int i => .ok (.int (i.natAbs : Int))
  | _ => .bad
abbrev gAbs := g1 abs1
theorem cd_abs : CallD K mg (fun xs H Q => ∃ i, xs = [.int i] ∧ Q (.int (if i < 0 then -i else i)) H) gAbs := cd1 fun G H d v Q e r q => by
  cases d with
  | int i =>
    cases r
    have ea : (if i < 0 then -i else i) = (i.natAbs : Int) := by split <;> omega
    exact ⟨i, rfl, by rw [ea]; exact After.now q e rfl⟩
  | _ => exact (show False from q).elim
theorem de_abs (hm : X.mg "abs" = none) (ha : DA X E (e :: es) fs) (hg : Gl X "abs" := by rfl) (he : starEach (e :: es) X.env = (false, eval e X.env) :: starEach es X.env := by rfl) (hpl : (backTo pos (starEach es X.env)).any (·.1) = false := by rfl) : DE X E (.Call (.Name "abs" p) (e :: es) [] pos) (eBlt gAbs fs) :=
  de_blt call_abs cd_abs hm PyProof.Rows.boot_abs ha hg (by decide) (by decide) he hpl
def min2 : D → D → R D
  | .int i, .int j => .ok (.int (min i j))
  | _, _ => .bad
def max2 : D → D → R D
  | .int i, .int j => .ok (.int (max i j))
  | _, _ => .bad
abbrev gMin := g2 min2
abbrev gMax := g2 max2
def intsOf : List D → Option (List Int)
  | [] => some []
  | .int i :: r => (intsOf r).map (i :: ·)
  | _ => none
def blsOf : List D → Option (List Bool)
  | [] => some []
  | .bl b :: r => (blsOf r).map (b :: ·)
  | _ => none
theorem blsOf_is : ∀ {ds : List D} {bs : List Bool}, blsOf ds = some bs → ds = bs.map D.bl
  | [], ns, h => by simp only [blsOf, Option.some.injEq] at h; subst h; rfl
  | .bl i :: r, ns, h => by
    simp only [blsOf, Option.map_eq_some_iff] at h
    obtain ⟨ms, h1, rfl⟩ := h
    rw [blsOf_is h1]; rfl
theorem blsOf_map : ∀ bs : List Bool, blsOf (bs.map D.bl) = some bs
  | [] => rfl
  | n :: r => by rw [List.map_cons]; unfold blsOf; rw [blsOf_map r]; rfl
def sum1 : D → R D
  | .lst xs => match intsOf xs with
    | some ns => .ok (.int ns.sum)
    | none => .bad
  | _ => .bad
def all1 : D → R D
  | .lst xs => match blsOf xs with
    | some bs => .ok (.bl (bs.all id))
    | none => .bad
  | _ => .bad
abbrev gAll := g1 all1
theorem cd_all : CallD K mg (fun xs H Q => ∃ (p : Addr) (bs : List Bool), xs = [.ref p] ∧ SqL K H p (bs.map V.bl) ∧ Q (.bl (bs.all id)) H) gAll := cd1 fun G H d v Q e r q => by
  cases d with
  | lst xs =>
    obtain ⟨a, vs, rfl, h1, h2⟩ := r
    cases hn : blsOf xs with
    | none => simp only [all1, hn] at q; exact q.elim
    | some ns =>
      simp only [all1, hn] at q
      rw [blsOf_is hn] at h2
      rw [Reps.of_bools h2] at h1
      exact ⟨a, ns, rfl, e.seq h1, After.now q e rfl⟩
  | _ => exact (show False from q).elim
theorem de_all (hc : X.calm = true) (hm : X.mg "all" = none) (ha : DA X E (e :: es) fs) (hg : Gl X "all" := by rfl) (he : starEach (e :: es) X.env = (false, eval e X.env) :: starEach es X.env := by rfl) (hpl : (backTo pos (starEach es X.env)).any (·.1) = false := by rfl) : DE X E (.Call (.Name "all" p) (e :: es) [] pos) (eBlt gAll fs) :=
  de_blt (call_all hc) cd_all hm boot_all ha hg (by decide) (by decide) he hpl
def int1 : D → R D
  | .int i => .ok (.int i)
  | .bl b => .ok (.int (if b then 1 else 0))
  | _ => .bad
abbrev gInt := g1 int1
theorem cd_int : CallD K mg (fun xs H Q => (∃ i, xs = [.int i] ∧ Q (.int i) H) ∨ ∃ k, xs = [.bl k] ∧ Q (.int (if k then 1 else 0)) H) gInt := cd1 fun G H d v Q e r q => by
  cases d with
  | int i => cases r; exact .inl ⟨i, rfl, After.now q e rfl⟩
  | bl b => cases r; exact .inr ⟨b, rfl, After.now q e rfl⟩
  | _ => exact (show False from q).elim
theorem de_intc (hm : X.mg "int" = none) (ha : DA X E (e :: es) fs) (hg : Gl X "int" := by rfl) (he : starEach (e :: es) X.env = (false, eval e X.env) :: starEach es X.env := by rfl) (hpl : (backTo pos (starEach es X.env)).any (·.1) = false := by rfl) : DE X E (.Call (.Name "int" p) (e :: es) [] pos) (eBlt gInt fs) :=
  de_bty call_int1 cd_int hm ha bt_int hg (by decide) (by decide) he hpl
def eBltF (g : List D → R (List D)) (fs : DSt → R (List D)) : DSt → R (List D) := fun σ => (fs σ).bind fun ds => (g ds).noerr
def tyName : D → Option String
  | .non => some "NoneType"
  | .bl _ => some "bool"
  | .int _ => some "int"
  | .str _ => some "str"
  | .tup _ => some "tuple"
  | .lst _ => some "list"
  | .dct _ _ => some "dict"
  | _ => none
def tyOk (T : String) : Bool := ["int", "bool", "str", "tuple", "list", "dict"].contains T
def subT (t T : String) : Bool := t == T || (t == "bool" && T == "int")
theorem kit_ty (t T : String) (ht : ["NoneType", "bool", "int", "str", "tuple", "list", "dict"].contains t = true) (hT : tyOk T = true) : PySem.W.kitOne K (.type t) (.type T) = some (subT t T) := by
  simp only [List.contains_eq_mem, List.mem_cons, List.not_mem_nil, or_false, decide_eq_true_eq] at ht
  simp only [tyOk, List.contains_eq_mem, List.mem_cons, List.not_mem_nil, or_false, decide_eq_true_eq] at hT
  rcases ht with rfl | rfl | rfl | rfl | rfl | rfl | rfl <;> rcases hT with rfl | rfl | rfl | rfl | rfl | rfl <;> rfl
end
end DL
end
section
set_option Elab.async false
set_option linter.all false
set_option maxRecDepth 100000
namespace DL
open PySem L2 PyProof.Rows
section
variable {X : Cx} {E : XK} {K : PySem.W.Frag} {mg : Str → Option Value} {G H : Hp}
variable {x : Str} {p pos : Pos} {e : Expr} {es : List Expr} {fs : DSt → R (List D)}
def rIsi (K : PySem.W.Frag) (mg : Str → Option Value) : List V → Hp → VK → Prop := fun xs H Q => ∃ G d T v b, xs = [v, .ty T] ∧ Same G H ∧ Rep K mg G d v ∧ (∃ t, tyName d = some t ∧ tyOk T = true ∧ b = subT t T) ∧ Q (.bl b) H
theorem call_isiD : CallR X (.builtin "isinstance") (rIsi X.K X.mg) := by
  intro pins s σ H xs us Q I r h
  obtain ⟨G, d, T, v, b, rfl, e, rp, ⟨t, ht, hT, rfl⟩, q⟩ := h
  obtain ⟨u, w', rfl, ru, rw'⟩ := vals2 r
  cases (show w' = Value.type T from rw')
  have fin : ∀ tk, EP X pins σ Q (.bool (subT t T)) { s with toks := tk } := fun tk => ⟨.bl _, H, I.tok tk, rfl, q⟩
  cases d with
  | non => cases ht; cases rp; cases (show u = Value.none from ru); exact PySem.W.kia_one PySem.W.kitx_none I.kIn True.intro (kit_ty _ _ rfl hT) (fun z => nomatch z) fin
  | bl y => cases ht; cases rp; cases (show u = Value.bool y from ru); exact PySem.W.kia_one PySem.W.kitx_bool I.kIn True.intro (kit_ty _ _ rfl hT) (fun z => nomatch z) fin
  | int i => cases ht; cases rp; obtain ⟨tk, rfl⟩ := (show ∃ tk, u = Value.int i tk from ru); exact PySem.W.kia_one PySem.W.kitx_int I.kIn True.intro (kit_ty _ _ rfl hT) (fun z => nomatch z) fin
  | str y => cases ht; cases rp; obtain ⟨tk, rfl⟩ := (show ∃ tk, u = Value.str y tk from ru); exact PySem.W.kia_one PySem.W.kitx_str I.kIn True.intro (kit_ty _ _ rfl hT) (fun z => nomatch z) fin
  | tup ds =>
    cases ht
    obtain ⟨a, vs, rfl, h1, h2⟩ := rp
    cases (show u = Value.ref a from ru)
    obtain ⟨_, _, ⟨o, h3, h4, _⟩, _⟩ := I.tuple (Same.sqT e h1)
    exact PySem.W.kia_one PySem.W.kitx_tuple I.kIn ⟨o, h3, h4⟩ (kit_ty _ _ rfl hT) (fun z => nomatch z) fin
  | lst ds =>
    cases ht
    obtain ⟨a, vs, rfl, h1, h2⟩ := rp
    cases (show u = Value.ref a from ru)
    obtain ⟨_, _, ⟨o, n, h3, h4, _⟩, _⟩ := I.list (e.seq h1)
    exact PySem.W.kia_one PySem.W.kitx_list I.kIn ⟨o, h3, h4⟩ (kit_ty _ _ rfl hT) (fun z => nomatch z) fin
  | dct ks ds =>
    cases ht
    obtain ⟨a, vs, rfl, h1, _⟩ := rp
    cases (show u = Value.ref a from ru)
    obtain ⟨_, _, _, _, p⟩ := (show ObjOk X.prog X.w H s.heap a (.dK (ks.zip vs)) from (Same.rd e h1).ok I.hok)
    obtain ⟨o, es, ep, h3, h4, _⟩ := p
    exact PySem.W.kia_one PySem.W.kitx_dict I.kIn ⟨o, h3, h4.1⟩ (kit_ty _ _ rfl hT) (fun z => nomatch z) fin
  | _ => cases ht
abbrev rIsiX (K : PySem.W.Frag) : List V → Hp → VK → Prop := fun xs H Q => ∃ (a C : Addr) (c : V) (cv : Value) (b : Bool), xs = [.ref a, c] ∧ H a = some (excO a C none) ∧ ((∃ D, c = .ref D ∧ cv = .ref D) ∨ ∃ T, c = .ty T ∧ cv = .type T) ∧ ExcC K C ∧ PySem.W.kitOne K (.ref C) cv = some b ∧ Q (.bl b) H
def isi3 : D → D → R D
  | d, .ty T => match tyName d with
    | some t => bif tyOk T then .ok (.bl (subT t T)) else .bad
    | none => match d with
      | .exc _ [] => bif T == "ValueError" then .ok (.bl true) else .bad
      | _ => .bad
  | .exc c [], .cls d => match subX c d with
    | some b => .ok (.bl b)
    | none => .bad
  | _, _ => .bad
theorem cd_isi : CallD K mg (fun xs H Q => rIsi K mg xs H Q ∨ rIsiX K xs H Q) (g2 isi3) := cd2 fun G H d d' v v' Q e r r' q => by
  have exc : ∀ {c as}, d = .exc c as → as = [] → ∃ a C, v = .ref a ∧ H a = some (excO a C none) ∧ XcOk K mg c C := fun {c as} hd ha => by
    subst hd; subst ha
    obtain ⟨a, C, dct, vs, rfl, h2, h3, h4, h5⟩ := r
    cases h5
    rcases h4 with ⟨rfl, _⟩ | ⟨dx, w, _, z, _⟩
    · exact ⟨a, C, rfl, e _ _ h2, h3⟩
    · cases z
  cases d' with
  | ty T =>
    cases r'
    cases ht : tyName d with
    | some t =>
      cases hT : tyOk T with
      | false => simp only [isi3, ht, hT, cond_false] at q; exact q.elim
      | true => simp only [isi3, ht, hT, cond_true] at q; exact .inl ⟨G, d, T, v, _, rfl, e, r, ⟨t, ht, hT, rfl⟩, After.now q e rfl⟩
    | none =>
      cases d with
      | exc c as =>
        cases as with
        | nil =>
          cases hT : T == "ValueError" with
          | false => simp only [isi3, ht, hT, cond_false] at q; exact q.elim
          | true =>
            simp only [isi3, ht, hT, cond_true] at q
            obtain ⟨a, C, rfl, h1, h2⟩ := exc rfl rfl
            have := eq_of_beq hT
            subst this
            exact .inr ⟨a, C, _, _, true, rfl, h1, .inr ⟨_, rfl, rfl⟩, h2.exc, h2.val, After.now q e rfl⟩
        | cons b bs => simp only [isi3, ht] at q; exact q.elim
      | _ => simp only [isi3, ht] at q; exact q.elim
  | cls c' =>
    cases d with
    | exc c as =>
      cases as with
      | nil =>
        obtain ⟨Dd, rfl, hD⟩ := r'
        cases hs : subX c c' with
        | none => simp only [isi3, hs] at q; exact q.elim
        | some b =>
          simp only [isi3, hs] at q
          obtain ⟨a, C, rfl, h1, h2⟩ := exc rfl rfl
          exact .inr ⟨a, C, _, _, b, rfl, h1, .inl ⟨Dd, rfl, rfl⟩, h2.exc, h2.isi c' Dd b hs hD, After.now q e rfl⟩
      | cons b bs => exact (show False from q).elim
    | _ => exact (show False from q).elim
  | _ => cases d <;> first | exact (show False from q).elim | (rename_i as; cases as <;> exact (show False from q).elim)
theorem de_isi (hm : X.mg "isinstance" = none) (ha : DA X E (e :: es) fs) (hg : Gl X "isinstance" := by rfl) (he : starEach (e :: es) X.env = (false, eval e X.env) :: starEach es X.env := by rfl) (hpl : (backTo pos (starEach es X.env)).any (·.1) = false := by rfl) : DE X E (.Call (.Name "isinstance" p) (e :: es) [] pos) (eBlt (g2 isi3) fs) :=
  de_blt (call_isiD.or call_isiX) cd_isi hm boot_isi ha hg (by decide) (by decide) he hpl
def tO (K : PySem.W.Frag) (mg : Str → Option Value) (E : XK) (f : DSt → R (Option Int)) : TO := fun σ H Q => ∃ G σd, Ok0 K mg σd σ G H ∧ RW (f σd) (fun o => ∀ G' H', Step G H G' H' → Q o H') (AfterX K mg E G H)
def DO (X : Cx) (E : XK) (e : Option Expr) (f : DSt → R (Option Int)) : Prop := PO X e (tO X.K X.mg E f)
def oNone : DSt → R (Option Int) := fun _ => .ok none
def asI : D → R (Option Int)
  | .int i => .ok (some i)
  | _ => .bad
def oSome (f : DSt → R D) : DSt → R (Option Int) := fun σ => (f σ).bind asI
theorem PO.mono' {e : Option Expr} {t t' : TO} (h : PO X e t) (m : ∀ σ H Q, t' σ H Q → t σ H Q) : PO X e t' := fun pins s σ H Q I q => h pins s σ H Q I (m σ H Q q)
theorem do_none : DO X E none oNone := PO.mono' po_none fun σ H Q ⟨G, σd, ok, q⟩ => (show ∀ G' H', Step G H G' H' → Q none H' from q) G H (.refl ok.ext)
theorem do_some {f : DSt → R D} (h : DE X E e f) : DO X E (some e) (oSome f) := PO.mono' (po_some h) fun σ H Q ⟨G, σd, ok, q⟩ => ⟨G, σd, ok, q.of_bind.mono (fun d _ z v G' H' s r => by
  cases d with
  | int i => cases r; exact ⟨i, rfl, (show ∀ G' H', Step G H G' H' → Q (some i) H' from z) G' H' s⟩
  | _ => exact (show False from z).elim) fun _ z => z⟩
def cutD {α : Type} (xs : List α) (lo hi : Option Int) : List α := (xs.drop (HT.sIx xs.length 0 lo)).take (HT.sIx xs.length xs.length hi - HT.sIx xs.length 0 lo)
def isWhole {α : Type} (xs : List α) (lo hi : Option Int) : Bool := decide (HT.sIx xs.length 0 lo = 0 ∧ HT.sIx xs.length xs.length hi = xs.length)
def gSl : D → Option Int → Option Int → R D
  | .lst xs, lo, hi => .ok (.lst (cutD xs lo hi))
  | .tup xs, lo, hi => bif isWhole xs lo hi then .bad else .ok (.tup (cutD xs lo hi))
  | _, _, _ => .bad
def eSl (fe : DSt → R D) (fl fh : DSt → R (Option Int)) : DSt → R D := fun σ => (fe σ).bind fun d => (fl σ).bind fun lo => (fh σ).bind fun hi => gSl d lo hi
theorem Reps.cut {ds : List D} {vs : List V} (h : Reps K mg G ds vs) (lo hi : Option Int) : Reps K mg G (cutD ds lo hi) (cutV vs lo hi) := by
  unfold cutD cutV
  rw [h.length]
  exact (h.drop _).take _
theorem de_sl {fe : DSt → R D} {lo hi : Option Expr} {fl fh : DSt → R (Option Int)} {p2 : Pos} (he : DE X E e fe) (hl : DO X E lo fl) (hh : DO X E hi fh) : DE X E (.Subscript e (.Slice lo hi none p2) pos) (eSl fe fl fh) := by
  refine PE.mono' (pe_slice (sl_list.or sl_tup) he hl hh) fun σ H Q ⟨G, σd, ok, q⟩ => ?_
  refine tE_then (P := After X.K X.mg Q) ok q fun d v G1 H1 s1 ok1 r1 q1 => ?_
  refine ⟨G1, σd, ok1, q1.of_bind.mono (fun l _ q2 G2 H2 s2 => ?_) fun _ z => z⟩
  refine ⟨G2, σd, ok1.step s2, q2.of_bind.mono (fun u _ q3 G3 H3 s3 => ?_) fun _ z => z.step s2⟩
  have s := (s1.trans s2).trans s3
  have r3 := r1.mono (s2.g.trans s3.g)
  cases d with
  | lst xs =>
    obtain ⟨a, vs, rfl, h1, h2⟩ := r3
    refine .inl ⟨a, vs, rfl, s3.e.seq h1, fun pp hp => ?_⟩
    have sp := Step.pub (o := .lst (cutV vs l u)) s3.e hp
    exact (show After X.K X.mg Q G H (.lst (cutD xs l u)) from q3) _ _ _ (s.trans sp) ⟨pp, _, rfl, SqL.of upd_same, (h2.cut l u).mono sp.g⟩
  | tup xs =>
    obtain ⟨a, vs, rfl, h1, h2⟩ := r3
    cases hw : isWhole xs l u with
    | true => simp only [gSl, hw, cond_true] at q3; exact q3.elim
    | false =>
      simp only [gSl, hw, cond_false] at q3
      refine .inr ⟨a, vs, rfl, Same.sqT s3.e h1, by rw [← h2.length]; exact of_decide_eq_false hw, fun pp hp => ?_⟩
      have sp := Step.pub (o := .tup (cutV vs l u)) s3.e hp
      exact (show After X.K X.mg Q G H (.tup (cutD xs l u)) from q3) _ _ _ (s.trans sp) ⟨pp, _, rfl, SqT.of upd_same, (h2.cut l u).mono sp.g⟩
  | _ => exact (show False from q3).elim
end
def sRaise (c : Str) (fs : DSt → R (List D)) : DSt → R Out := fun σ => (fs σ).bind fun ds => bif few ds.length then .err (.exc c []) else .bad
section
variable {P : Program} {w : World} {K : PySem.W.Frag} {mg : Str → Option Value} {base : Heap} {N : List Str} {qual : Str} {scope : Scope} {f : Addr} {cdv : Value} {A : Around} {outer : List Env} {s0 : Shared} {H0 : Hp} {E : XK} {own own' ol : List Nat}
theorem ds_raise {x : Str} {C : Addr} {e0 : Expr} {rest : List Expr} {np cpos pos : Pos} {fs : DSt → R (List D)} (q : PySem.W.excIn K C [.type "ValueError", .type "Exception", .type "BaseException", .type "object"] "ValueError.__new__" = true) (hx : XcOk K mg x C)
    (ha : DA (cxOf (CXe P w) P w K mg base N qual scope f cdv A outer s0 H0 E) E (e0 :: rest) fs) (hg : Gl (cxOf (CXe P w) P w K mg base N qual scope f cdv A outer s0 H0 E) x := by rfl)
    (hdb : (x == ("__debug__" : Str)) = false := by decide)
    (he : starEach (e0 :: rest) (envOfC qual scope s0.heap.objs.size f cdv) = (false, eval e0 (envOfC qual scope s0.heap.objs.size f cdv)) :: starEach rest (envOfC qual scope s0.heap.objs.size f cdv) := by rfl)
    (hpl : (backTo cpos (starEach rest (envOfC qual scope s0.heap.objs.size f cdv))).any (·.1) = false := by rfl) :
    DS (cxOf (CXe P w) P w K mg base N qual scope f cdv A outer s0 H0 E) E own own' ol (.Raise (some (.Call (.Name x np) (e0 :: rest) [] cpos)) none pos) (sRaise x fs) := fun G0 =>
  PS.mono' (ps_raise q hg hx.here ha hdb he hpl) fun Dn σ H ⟨G, σd, ok, s1, z⟩ => by
  have sp := ok.pubStep s1
  refine ⟨_, σd, ok.pub.1, z.of_bind.mono (fun ds _ z vs G' H' s r => ?_) fun _ z => z.step sp⟩
  cases hf : few ds.length with
  | false => rw [hf] at z; exact (show False from z).elim
  | true =>
    rw [hf] at z
    refine ⟨by rw [← r.length]; exact few_le hf, ?_⟩
    exact (show AfterX K mg E G0 H0 (.exc x []) from z) G' H' C none (sp.trans s) ⟨x, [], [], rfl, hx, .inl ⟨rfl, rfl⟩, Reps.nil⟩
end
def sRaise1 (c : Str) : DSt → R Out := fun _ => .err (.exc c [])
theorem ds_raise1 {P : Program} {w : World} {K : PySem.W.Frag} {mg : Str → Option Value} {base : Heap} {N : List Str} {qual : Str} {scope : Scope} {f : Addr} {cdv : Value} {A : Around} {outer : List Env} {s0 : Shared} {H0 : Hp} {E : XK} {own own' ol : List Nat} {x t : Str} {C : Addr} {np cpos pos tp : Pos} {j} (q : PySem.W.excIn K C [.type "ValueError", .type "Exception", .type "BaseException", .type "object"] "ValueError.__new__" = true) (hx : XcOk K mg x C)
    (hg : Gl (cxOf (CXe P w) P w K mg base N qual scope f cdv A outer s0 H0 E) x := by rfl) (hdb : (x == ("__debug__" : Str)) = false := by decide) :
    DS (cxOf (CXe P w) P w K mg base N qual scope f cdv A outer s0 H0 E) E own own' ol (.Raise (some (.Call (.Name x np) [.Constant (.str t) j tp] [] cpos)) none pos) (sRaise1 x) :=
  ds_raise (fs := aCons (eC (.str t)) aNil) q hx (da_cons de_str da_nil) hg hdb
section
variable (K : PySem.W.Frag) (mg : Str → Option Value)
def tSX (G0 H0 : Hp) (f : DSt → R Out) : TSX := fun Dn E σ H => ∃ G σd, Ok0 K mg σd σ G H ∧ Step G0 H0 G H ∧ RW (f σd) (OutW K mg G0 H0 [] [] Dn G) (AfterX K mg E G H)
end
def DSX (X : Cx) (st : Stmt) (f : DSt → R Out) : Prop := ∀ G0, PSX X (CXe X.prog X.w) st (tSX X.K X.mg G0 X.H₀ f)
def DSXs (X : Cx) (st : List Stmt) (f : DSt → R Out) : Prop := ∀ G0, PSXs X (CXe X.prog X.w) st (tSX X.K X.mg G0 X.H₀ f)
theorem PSX.mono' {X : Cx} {CX : CXT} {st : Stmt} {t t' : TSX} (h : PSX X CX st t) (m : ∀ D E σ H, t' D E σ H → t D E σ H) : PSX X CX st t' := fun pins s σ H D E I q => h pins s σ H D E I (m D E σ H q)
section
variable {X : Cx} {ol : List Nat} {k : Nat} {x y : Str} {m : List D → R D} {p pos cpos npos : Pos} {e : Expr} {es : List Expr} {fs : DSt → R (List D)} {f g : DSt → R Out}
theorem dsxs_one {st : Stmt} (h : DSX X st f) : DSXs X [st] f := fun G0 => psxs_one (h G0)
def xCallD (m : List D → R D) (fs : DSt → R (List D)) : DSt → R D := fun σ => (fs σ).noerr.bind m
theorem xCall_of {G0 G H : Hp} {σd : DSt} {σ : L2.St} {Q : VK} {E : XK} {S : D → R Out} {PO : Out → Prop} (ok : Ok0 X.K X.mg σd σ G H) (q : RW ((xCallD m fs σd).bind S) PO (AfterX X.K X.mg E G H))
    (h : ∀ d v G' H', Step G H G' H' → Rep X.K X.mg G' d v → RW (S d) PO (AfterX X.K X.mg E G H) → Q v H') : xCall (spD X.K X.mg m) [] (tAr X.K X.mg E0 fs) σ H Q E := by
  obtain ⟨ds, e1, q⟩ := noerr_ok q.of_bind.of_bind
  refine ⟨G, σd, ok, RW.ok_of e1 fun vs G' H' s r => ?_⟩
  show spD X.K X.mg m (vs ++ []) H' _ E
  rw [List.append_nil]
  exact ⟨G', ds, s.e, r, q.mono (fun d _ z v G2 H2 s2 r2 => h d v G2 H2 (s.trans s2) r2 z) fun _ z => z.step s⟩
theorem dsx_call (hr : Room k X.A) (F : FnAt X.prog X.w X.K X.mg X.base k x m) (ha : DA X.nox E0 (e :: es) fs) (hg : Gl X x := by rfl) (hdb : (x == ("__debug__" : Str)) = false := by decide)
    (he : starEach (e :: es) X.env = (false, eval e X.env) :: starEach es X.env := by rfl) (hpl : (backTo cpos (starEach es X.env)).any (·.1) = false := by rfl) (hs : swapsWith (.Call (.Name x p) (e :: es) [] cpos) none pos.line X.env = pure false := by rfl) :
    DSX X (.Expr (.Call (.Name x p) (e :: es) [] cpos) pos) (sExpr (xCallD m fs)) := fun G0 => by
  obtain ⟨fa, fd, ps, h1, h2, h3, h4⟩ := F.ex
  refine PSX.mono' (psx_expr (pex_call (dvs := []) (ds := []) h1 hr hg h2 h3 h4 .nil ha hdb he hpl) hs) fun Dn E σ H ⟨G, σd, ok, s0, q⟩ => ?_
  exact xCall_of (G0 := G0) ok q fun d v G' H' s r z => (show OutW X.K X.mg G0 X.H₀ [] [] Dn G (.nx σd) from z) σ G' H' (.zero (ok.step s)) (s0.trans s) s.g
def sTry (i : Nat) (c : Str) (body hnd : DSt → R Out) : DSt → R Out := fun σ => match body σ with
  | .ok o => .ok o
  | .err (.exc cc as) => bif subX cc c == some true then (hnd (σ.set i (some (.exc cc as)))).noerr.bind fun o => match o with
      | .nx σ' => .ok (.nx (σ'.set i none))
      | _ => .bad
    else .bad
  | _ => .bad
theorem Ok.unset {K : PySem.W.Frag} {mg : Str → Option Value} {H0 G H : Hp} {σd : DSt} {σ : L2.St} {i : Nat} {own : List Nat} (o : Ok K mg H0 own σd σ G H) (hi : i ∉ own) : Ok K mg H0 own (σd.set i none) (σ.set i none) G H := by
  have back : ∀ {j : Nat} {d : D}, (σd.set i none)[j]? = some (some d) → j ≠ i ∧ σd[j]? = some (some d) := fun {j d} q => by
    by_cases hj : j = i
    · subst hj
      have hl : j < σd.length := by have := (List.getElem?_eq_some_iff.mp q).1; simpa using this
      rw [List.getElem?_set_self hl] at q; cases q
    · rw [List.getElem?_set_ne (Ne.symm hj)] at q; exact ⟨hj, q⟩
  refine ⟨o.ext, by simp [o.len], fun j d hj q => ?_, fun j d hj q => ?_, fun j l a d1 d2 h1 h2 h3 h4 h5 h6 => ?_⟩
  · obtain ⟨hj', q'⟩ := back q
    rw [List.getElem?_set_ne (Ne.symm hj')]; exact o.val j d hj q'
  · obtain ⟨hj', q'⟩ := back q
    rw [List.getElem?_set_ne (Ne.symm hj')]; exact o.mine j d hj q'
  · obtain ⟨hj', q3⟩ := back h3
    obtain ⟨hl', q4⟩ := back h4
    rw [List.getElem?_set_ne (Ne.symm hj')] at h5
    rw [List.getElem?_set_ne (Ne.symm hl')] at h6
    exact o.dj j l a d1 d2 h1 h2 q3 q4 h5 h6
theorem ds_try (i : Nat) {E : XK} {body : List Stmt} {c n : Str} {np hpos : Pos} {b0 : Stmt} {suite : List Stmt} {Dc : Addr} (hst : X.stack = X.env :: X.outer) (hf : X.env.frame = some X.env.locals) (hN : X.N.Nodup)
    (hm : X.mg c = some (.ref Dc)) (hb : DSXs X body f) (hh : ∀ x, DSs (hdl X x) E0 [] [] [] (b0 :: suite) g) (hi : X.N[i]? = some n := by rfl) (hn : X.env.scope.names.lookup n = some .local := by rfl) (hg : Gl X c := by rfl)
    (hdb : (c == ("__debug__" : Str)) = false := by decide) : DS X E [] [] [] (.Try body [.ExceptHandler (some (.Name c np)) (some n) (b0 :: suite) hpos] [] [] pos) (sTry i c f g) := fun G0 =>
  PS.mono' (ps_try (th := tS X.K X.mg E0 G0 X.H₀ [] [] [] g) hst hf hN hi hn hg hm (hb G0) (fun x => hh x G0) hdb) fun Dn σ H ⟨G, σd, ok, s0, q⟩ => by
  have ok0 : Ok0 X.K X.mg σd σ G H := by have := ok.masked; rw [mask_nil] at this; exact this
  unfold sTry at q
  cases hbd : f σd with
  | bad => rw [hbd] at q; exact (show False from q).elim
  | ok o =>
    rw [hbd] at q
    exact ⟨fun _ _ _ => False, ⟨G, σd, ok0, s0, RW.ok_of hbd q⟩, fun C dct H' x z => z.elim⟩
  | err ex =>
    rw [hbd] at q
    cases ex with
    | exc cc as =>
      cases hsub : (subX cc c == some true) with
      | false => simp only [hsub, cond_false] at q; exact q.elim
      | true =>
        simp only [hsub, cond_true] at q
        obtain ⟨o, ho1, q⟩ := noerr_ok q.of_bind
        refine ⟨fun cv dct H' => ∃ C G', cv = .ref C ∧ Step G H G' H' ∧ ExcR X.K X.mg G' (.exc cc as) C dct, ⟨G, σd, ok0, s0, ?_⟩, ?_⟩
        · rw [hbd]
          exact fun G' H' C dct s r => ⟨C, G', rfl, s, r⟩
        · rintro C dct H' x ⟨C', G', e1, s', hr⟩ nx
          cases e1
          obtain ⟨c2, as2, vs, e2, hxc, hd, hrs⟩ := hr
          cases e2
          refine ⟨hxc.ctc c Dc (eq_of_beq hsub) hm, ?_⟩
          have sp := Step.pub (o := excO x C dct) s'.e nx
          have st := s'.trans sp
          refine ⟨_, σd.set i (some (.exc cc as)), .zero ((ok0.step st).set ⟨x, C, dct, vs, rfl, upd_same, hxc, hd.mono sp.g, hrs.mono sp.g⟩), s0.trans st, RW.ok_of ho1 ?_⟩
          cases o with
          | nx σ1 =>
            have q' : OutW X.K X.mg G0 X.H₀ [] [] Dn G (.nx (σ1.set i none)) := q
            exact fun σ2 G2 H2 ok2 s2 e2 => q' _ G2 H2 (ok2.unset (by simp)) s2 (st.g.trans e2)
          | _ => exact (show False from q).elim
    | _ => exact (show False from q).elim
end
end DL
end
section
set_option Elab.async false
set_option linter.all false
set_option maxRecDepth 100000
namespace DL
open PySem L2 PyProof.Rows
theorem fnM_go {n nN : Nat} {b : DSt → R Out} {ds : List D} {σ : DSt} (hl : ds.length = n) (hs : startD nN ds = σ) : fnM n nN b ds = fin (b σ) := by
  subst hl; subst hs; unfold fnM; rw [beq_self_eq_true]; rfl
theorem de_k {X : Cx} {E : XK} {x : Str} {d : D} {pos : Pos} (h : ∃ u v, X.mg x = some u ∧ RelV v u ∧ ∀ G, Rep X.K X.mg G d v) (hg : Gl X x := by rfl) (hd : (x == ("__debug__" : Str)) = false := by decide) : DE X E (.Name x pos) (eC d) := by
  obtain ⟨u, v, h1, h2, h3⟩ := h
  exact de_glob h1 h2 h3 hg hd
section
variable {K : PySem.W.Frag} {mg : Str → Option Value}
def subB (c d : Str) : Bool := c == d || d == "ChalkError"
def XcRow (K : PySem.W.Frag) (mg : Str → Option Value) (C : Addr) (d : Str) (b : Bool) : Prop :=
  (∀ D, mg d = some (.ref D) → PySem.W.kitOne K (.ref C) (.ref D) = some b) ∧ (b = true → ∀ D, mg d = some (.ref D) → PySem.W.exmOne K (.ref C) (.ref D) = some true)
theorem XcOk.mk' {c : Str} {C : Addr} (here : mg c = some (.ref C)) (exc : ExcC K C) (val : PySem.W.kitOne K (.ref C) (.type "ValueError") = some true) (rows : ∀ d ∈ clsNames, XcRow K mg C d (subB c d)) : XcOk K mg c C := by
  have sub : ∀ d b, subX c d = some b → d ∈ clsNames ∧ b = subB c d := fun d b h => by
    unfold subX at h
    cases hc : (clsNames.contains c && clsNames.contains d) with
    | false => rw [hc] at h; cases h
    | true =>
      rw [hc] at h
      have h' : some (c == d || d == "ChalkError") = some b := h
      rw [Bool.and_eq_true] at hc
      exact ⟨by simpa using hc.2, by cases h'; rfl⟩
  refine ⟨here, exc, fun d Dd b h hd => ?_, val, fun d Dd h hd => ?_⟩
  · obtain ⟨h1, rfl⟩ := sub d b h
    exact (rows d h1).1 Dd hd
  · obtain ⟨h1, h2⟩ := sub d true h
    exact (rows d h1).2 h2.symm Dd hd
theorem xcRows {c : Str} {C : Addr} (r0 : XcRow K mg C "ChalkError" (subB c "ChalkError")) (r1 : XcRow K mg C "NoPlace" (subB c "NoPlace")) (r2 : XcRow K mg C "Same" (subB c "Same")) (r3 : XcRow K mg C "NoFloor" (subB c "NoFloor")) (r4 : XcRow K mg C "Endless" (subB c "Endless"))
    (r5 : XcRow K mg C "NoDeed" (subB c "NoDeed")) (r6 : XcRow K mg C "NoText" (subB c "NoText")) (r7 : XcRow K mg C "NoName" (subB c "NoName")) (r8 : XcRow K mg C "TooMany" (subB c "TooMany")) (r9 : XcRow K mg C "NoChange" (subB c "NoChange")) (r10 : XcRow K mg C "NoFrame" (subB c "NoFrame"))
    (r11 : XcRow K mg C "NoValue" (subB c "NoValue")) (r12 : XcRow K mg C "Unlike" (subB c "Unlike")) (r13 : XcRow K mg C "NoRatio" (subB c "NoRatio")) (r14 : XcRow K mg C "NoBow" (subB c "NoBow")) (r15 : XcRow K mg C "NoRow" (subB c "NoRow")) : ∀ d ∈ clsNames, XcRow K mg C d (subB c d) := by
  intro d hd
  simp only [clsNames, List.mem_cons, List.not_mem_nil, or_false] at hd
  rcases hd with rfl | rfl | rfl | rfl | rfl | rfl | rfl | rfl | rfl | rfl | rfl | rfl | rfl | rfl | rfl | rfl <;> assumption
theorem XcRow.of {C D0 : Addr} {d : Str} {b : Bool} (h : mg d = some (.ref D0)) (t : PySem.W.kitOne K (.ref C) (.ref D0) = some b) (u : b = true → PySem.W.exmOne K (.ref C) (.ref D0) = some true) : XcRow K mg C d b :=
  ⟨fun D hD => by rw [h] at hD; cases hD; exact t, fun hb D hD => by rw [h] at hD; cases hD; exact u hb⟩
end
section
variable {P : Program} {w : World} {K : PySem.W.Frag} {mg : Str → Option Value} {base : Heap}
theorem fnOk_mk {x qual : Str} {st : Stmt} {f : Addr} {fd : FuncData} {N ps : List Str} {k n nN : Nat} {own' : List Nat} {body : DSt → R Out} (F : Fun K x qual st f fd) (S : FnScope N ps (defScope st))
    (hn : ps.length = n) (hN : N.length = nN)
    (hb : ∀ (X : Cx) (E : XK), (∃ cdv A outer s H, X = cxOf (CXe P w) P w K mg base N qual (defScope st) f cdv A outer s H E) → XC X E k → XL X → DSs X E [] own' [] (defBody st) body) : FnOk P w K mg base (CXe P w) (k + 1) f fd ps (spD K mg (fnM n nN body)) := by
  refine F.okX S (fun vs H Q E h => ?_) (fun cdv A outer s H vs Q E hr hsp => ?_)
  · obtain ⟨G, ds, e, r, q⟩ := h
    by_cases hd : ds.length = n
    · rw [← r.length, hd, hn]
    · have : (ds.length == n) = false := by simpa using hd
      unfold fnM at q
      rw [this] at q
      exact (show False from q).elim
  · obtain ⟨G, ds, e, r, q⟩ := hsp
    have hd : ds.length = n := by
      by_cases hd : ds.length = n
      · exact hd
      · have : (ds.length == n) = false := by simpa using hd
        unfold fnM at q
        rw [this] at q
        exact (show False from q).elim
    unfold fnM at q
    rw [show (ds.length == n) = true by simpa using hd] at q
    have q' : RW (fin (body (startD nN ds))) (After K mg Q G H) (AfterX K mg E G H) := q
    refine ⟨_, hb _ E ⟨cdv, A, outer, s, H, rfl⟩ ⟨rfl, hr, passE⟩ ⟨PassesOwn.leaving⟩ G, G, startD nN ds, ?_, .refl e, ?_⟩
    · have := Reps.startOk e (N.length - vs.length) r
      unfold L2.start startD
      rw [← hN, r.length]
      exact .zero this
    · cases hbd : body (startD nN ds) with
      | bad => rw [hbd] at q'; exact q'
      | err e => rw [hbd] at q'; exact q'
      | ok o =>
        rw [hbd] at q'
        cases o with
        | rt d => exact fun v G' H' s r => (show After K mg Q G H d from q') v G' H' s r
        | rf es =>
          intro a vs G' H' s n e g r
          have q2 : After K mg Q G H (.lst es) := q'
          have sg : Same G' (upd G' a (.lst vs)) := same_upd g
          refine q2 (.ref a) (upd G' a (.lst vs)) H' ⟨s.g.trans sg, s.h, fun b u p => ?_, fun b u p1 p2 => ?_⟩ ⟨a, vs, rfl, SqL.of upd_same, r.mono sg⟩
          · by_cases hb : b = a
            · subst hb; rw [upd_same] at p; cases p; exact e
            · rw [upd_ne hb] at p; exact s.e b u p
          · have hb : b ≠ a := ne_of_none p1 n
            rw [upd_ne hb]; exact s.c b u p1 p2
        | nx σ => exact fun σ' G' H' ok s _ => (show After K mg Q G H .non from q') .non G' H' s rfl
        | bk σ => exact (show False from q').elim
        | ct σ => exact (show False from q').elim
def spLaw (K : PySem.W.Frag) : Sp := fun vs H Q _ => ∃ (a : Addr) (ns : List Int), vs = [.ref a] ∧ SqL K H a (ns.map V.int) ∧ ns.length ≤ 63 ∧ ∀ H', Q (.bl true) H'
theorem law_of {k : Nat} {f : Addr} {fd : FuncData} {m : List D → R D} (F : FnOk P w K mg base (CXe P w) k f fd ["_law_script"] (spD K mg m)) (hm : ∀ ns : List Int, ns.length ≤ 63 → m [.lst (ns.map .int)] = .ok (.bl true)) :
    FnOk P w K mg base (CXe P w) k f fd ["_law_script"] (spLaw K) := F.imp fun vs H Q E h => by
  obtain ⟨a, ns, rfl, hS, hl, q⟩ := h
  refine ⟨H, [.lst (ns.map .int)], Same.refl _, Reps.cons ⟨a, _, rfl, hS, Reps.ints ns⟩ Reps.nil, RW.ok_of (hm ns hl) fun v G' H' s r => ?_⟩
  cases r; exact q H'
end
theorem walkD {l : PySem.W.OpenLaw} {q : Program} {loose : List Str} {XP : (Str → Option Value) → Heap → Prop} {YP : World → Heap → Prop} {d : DefRec} {K : Params → PySem.W.Frag} (k : Nat) (hr : Room k callerA) (hn : l.most = some 63) (hdf : d.params.defaults = [])
    (hY : ∀ (w : World) (h : Heap), YP w h → (K w.params).In h)
    (F : ∀ (w : World) (mg : Str → Option Value) (fa : Addr) (h : Heap), (K w.params).In h → h.Ns mainGlobals mg → mg d.name = some (.ref fa) →
      ∃ fd : FuncData, (∀ (s : Shared) (u : Value), BindsTo s fd ⟨[u], []⟩ [("_law_script", u)]) ∧ ∀ base : Heap, (K w.params).In base → base.Ns mainGlobals mg → FnOk l.prog w (K w.params) mg base (CXe l.prog w) k fa fd ["_law_script"] (spLaw (K w.params))) :
    PySem.W.WalkO q loose XP YP l.row.toRowW d [] (fun f vs => PySem.call f vs) :=
  L2.walk_of (n := 63) (k := k) (x := "_law_script") (CX := fun w => CXe l.prog w) (sp := fun w => spLaw (K w.params)) hn (by decide) hdf hr hY F (fun _ _ a ns hl _ hS => ⟨a, ns, rfl, hS, hl, fun _ => rfl⟩) fun w H s e s' z => by
    obtain ⟨_, _, _, _, _, _, _, _, _, _, _, _, _, z⟩ := z
    exact z.elim
end DL
end
section
set_option Elab.async false
set_option linter.all false
set_option maxRecDepth 100000
namespace DL
open PySem L2
def seqK (r : R Out) (g : DSt → R Out) : R Out := r.bind fun o => match o with
  | .nx σ' => g σ'
  | o => .ok o
theorem sSeq_def (f g : DSt → R Out) (σ : DSt) : sSeq f g σ = seqK (f σ) g := rfl
theorem seqK_nx (σ : DSt) (g : DSt → R Out) : seqK (.ok (.nx σ)) g = g σ := rfl
theorem seqK_rt (d : D) (g : DSt → R Out) : seqK (.ok (.rt d)) g = .ok (.rt d) := rfl
theorem seqK_bk (σ : DSt) (g : DSt → R Out) : seqK (.ok (.bk σ)) g = .ok (.bk σ) := rfl
theorem seqK_ct (σ : DSt) (g : DSt → R Out) : seqK (.ok (.ct σ)) g = .ok (.ct σ) := rfl
theorem seqK_err (e : D) (g : DSt → R Out) : seqK (.err e) g = .err e := rfl
theorem sNext_def (σ : DSt) : sNext σ = .ok (.nx σ) := rfl
theorem eVar_zero (d : D) (σ : DSt) : eVar 0 (some d :: σ) = .ok d := rfl
theorem eVar_succ (n : Nat) (x : Option D) (σ : DSt) : eVar (n + 1) (x :: σ) = eVar n σ := rfl
theorem eC_def (d : D) (σ : DSt) : eC d σ = .ok d := rfl
def opK (g : D → D → R D) (a b : R D) : R D := a.bind fun x => b.bind fun y => g x y
theorem eOp_def (g : D → D → R D) (fa fb : DSt → R D) (σ : DSt) : eOp g fa fb σ = opK g (fa σ) (fb σ) := rfl
theorem opK_ok (g : D → D → R D) (x y : D) : opK g (.ok x) (.ok y) = g x y := rfl
def unK (g : D → R D) (a : R D) : R D := a.bind g
theorem eUn_def (g : D → R D) (fa : DSt → R D) (σ : DSt) : eUn g fa σ = unK g (fa σ) := rfl
theorem unK_ok (g : D → R D) (x : D) : unK g (.ok x) = g x := rfl
def callK (m : List D → R D) (a : R (List D)) : R D := a.bind m
theorem eCall_def (m : List D → R D) (fs : DSt → R (List D)) (σ : DSt) : eCall m fs σ = callK m (fs σ) := rfl
theorem callK_ok (m : List D → R D) (ds : List D) : callK m (.ok ds) = m ds := rfl
theorem callK_err (m : List D → R D) (e : D) : callK m (.err e) = .err e := rfl
def xcallK (m : List D → R D) (a : R (List D)) : R D := a.noerr.bind m
theorem xCallD_def (m : List D → R D) (fs : DSt → R (List D)) (σ : DSt) : xCallD m fs σ = xcallK m (fs σ) := rfl
theorem xcallK_ok (m : List D → R D) (ds : List D) : xcallK m (.ok ds) = m ds := rfl
def bltK (g : List D → R D) (a : R (List D)) : R D := a.bind fun ds => (g ds).noerr
theorem eBlt_def (g : List D → R D) (fs : DSt → R (List D)) (σ : DSt) : eBlt g fs σ = bltK g (fs σ) := rfl
theorem bltK_ok (g : List D → R D) (ds : List D) : bltK g (.ok ds) = (g ds).noerr := rfl
def bltFK (g : List D → R (List D)) (a : R (List D)) : R (List D) := a.bind fun ds => (g ds).noerr
theorem eBltF_def (g : List D → R (List D)) (fs : DSt → R (List D)) (σ : DSt) : eBltF g fs σ = bltFK g (fs σ) := rfl
theorem bltFK_ok (g : List D → R (List D)) (ds : List D) : bltFK g (.ok ds) = (g ds).noerr := rfl
theorem noerr_okk {α : Type} (a : α) : (R.ok a).noerr = .ok a := rfl
theorem aNil_def (σ : DSt) : aNil σ = .ok [] := rfl
def consK (a : R D) (b : R (List D)) : R (List D) := a.bind fun x => b.bind fun xs => .ok (x :: xs)
theorem aCons_def (fa : DSt → R D) (fs : DSt → R (List D)) (σ : DSt) : aCons fa fs σ = consK (fa σ) (fs σ) := rfl
theorem consK_ok (x : D) (xs : List D) : consK (.ok x) (.ok xs) = .ok (x :: xs) := rfl
theorem consK_err (e : D) (b : R (List D)) : consK (.err e) b = .err e := rfl
def tupK (a : R (List D)) : R D := a.bind fun ds => bif few ds.length then .ok (.tup ds) else .bad
theorem eTup_def (fs : DSt → R (List D)) (σ : DSt) : eTup fs σ = tupK (fs σ) := rfl
theorem tupK_0 : tupK (.ok []) = .ok (.tup []) := rfl
theorem tupK_1 (a : D) : tupK (.ok [a]) = .ok (.tup [a]) := rfl
theorem tupK_2 (a b : D) : tupK (.ok [a, b]) = .ok (.tup [a, b]) := rfl
theorem tupK_3 (a b c : D) : tupK (.ok [a, b, c]) = .ok (.tup [a, b, c]) := rfl
theorem tupK_4 (a b c d : D) : tupK (.ok [a, b, c, d]) = .ok (.tup [a, b, c, d]) := rfl
theorem tupK_5 (a b c d e : D) : tupK (.ok [a, b, c, d, e]) = .ok (.tup [a, b, c, d, e]) := rfl
theorem tupK_6 (a b c d e f : D) : tupK (.ok [a, b, c, d, e, f]) = .ok (.tup [a, b, c, d, e, f]) := rfl
theorem tupK_9 (a b c d e f g h i : D) : tupK (.ok [a, b, c, d, e, f, g, h, i]) = .ok (.tup [a, b, c, d, e, f, g, h, i]) := rfl
def lstK (a : R (List D)) : R (List D) := a.bind fun ds => bif few ds.length then .ok ds else .bad
theorem eLst_def (fs : DSt → R (List D)) (σ : DSt) : eLst fs σ = lstK (fs σ) := rfl
theorem lstK_0 : lstK (.ok []) = .ok [] := rfl
theorem lstK_1 (a : D) : lstK (.ok [a]) = .ok [a] := rfl
theorem lstK_2 (a b : D) : lstK (.ok [a, b]) = .ok [a, b] := rfl
theorem lstK_3 (a b c : D) : lstK (.ok [a, b, c]) = .ok [a, b, c] := rfl
theorem lstK_4 (a b c d : D) : lstK (.ok [a, b, c, d]) = .ok [a, b, c, d] := rfl
theorem lstK_5 (a b c d e : D) : lstK (.ok [a, b, c, d, e]) = .ok [a, b, c, d, e] := rfl
theorem lstK_6 (a b c d e f : D) : lstK (.ok [a, b, c, d, e, f]) = .ok [a, b, c, d, e, f] := rfl
def vlstK (a : R (List D)) : R D := a.bind fun ds => .ok (.lst ds)
theorem vLst_def (fl : DSt → R (List D)) (σ : DSt) : vLst fl σ = vlstK (fl σ) := rfl
theorem vlstK_ok (ds : List D) : vlstK (.ok ds) = .ok (.lst ds) := rfl
def testK (a : R D) : R Bool := a.bind asB
theorem eTest_def (f : DSt → R D) (σ : DSt) : eTest f σ = testK (f σ) := rfl
theorem testK_bl (b : Bool) : testK (.ok (.bl b)) = .ok b := rfl
def andK (a : R Bool) (fb : DSt → R Bool) (σ : DSt) : R Bool := a.bind fun k => bif k then fb σ else .ok false
theorem eAnd_def (fa fb : DSt → R Bool) (σ : DSt) : eAnd fa fb σ = andK (fa σ) fb σ := rfl
theorem andK_t (fb : DSt → R Bool) (σ : DSt) : andK (.ok true) fb σ = fb σ := rfl
theorem andK_f (fb : DSt → R Bool) (σ : DSt) : andK (.ok false) fb σ = .ok false := rfl
def orK (a : R Bool) (fb : DSt → R Bool) (σ : DSt) : R Bool := a.bind fun k => bif k then .ok true else fb σ
theorem eOr_def (fa fb : DSt → R Bool) (σ : DSt) : eOr fa fb σ = orK (fa σ) fb σ := rfl
theorem orK_t (fb : DSt → R Bool) (σ : DSt) : orK (.ok true) fb σ = .ok true := rfl
theorem orK_f (fb : DSt → R Bool) (σ : DSt) : orK (.ok false) fb σ = fb σ := rfl
def notK (a : R Bool) : R Bool := a.bind fun k => .ok (!k)
theorem eNot_def (fa : DSt → R Bool) (σ : DSt) : eNot fa σ = notK (fa σ) := rfl
theorem notK_ok (b : Bool) : notK (.ok b) = .ok (!b) := rfl
def vandK (a : R D) (fb : DSt → R D) (σ : DSt) : R D := a.bind fun x => (asB x).bind fun k => bif k then fb σ else .ok (.bl false)
theorem vAnd_def (fa fb : DSt → R D) (σ : DSt) : vAnd fa fb σ = vandK (fa σ) fb σ := rfl
theorem vandK_t (fb : DSt → R D) (σ : DSt) : vandK (.ok (.bl true)) fb σ = fb σ := rfl
theorem vandK_f (fb : DSt → R D) (σ : DSt) : vandK (.ok (.bl false)) fb σ = .ok (.bl false) := rfl
def vorK (a : R D) (fb : DSt → R D) (σ : DSt) : R D := a.bind fun x => (asB x).bind fun k => bif k then .ok (.bl true) else fb σ
theorem vOr_def (fa fb : DSt → R D) (σ : DSt) : vOr fa fb σ = vorK (fa σ) fb σ := rfl
theorem vorK_t (fb : DSt → R D) (σ : DSt) : vorK (.ok (.bl true)) fb σ = .ok (.bl true) := rfl
theorem vorK_f (fb : DSt → R D) (σ : DSt) : vorK (.ok (.bl false)) fb σ = fb σ := rfl
def vnotK (a : R D) : R D := a.bind fun x => (asB x).bind fun k => .ok (.bl !k)
theorem vNot_def (fa : DSt → R D) (σ : DSt) : vNot fa σ = vnotK (fa σ) := rfl
theorem vnotK_ok (b : Bool) : vnotK (.ok (.bl b)) = .ok (.bl !b) := rfl
def eifK (c : R Bool) (fa fb : DSt → R D) (σ : DSt) : R D := c.bind fun k => bif k then fa σ else fb σ
theorem eIf_def (c : DSt → R Bool) (fa fb : DSt → R D) (σ : DSt) : eIf c fa fb σ = eifK (c σ) fa fb σ := rfl
theorem eifK_t (fa fb : DSt → R D) (σ : DSt) : eifK (.ok true) fa fb σ = fa σ := rfl
theorem eifK_f (fa fb : DSt → R D) (σ : DSt) : eifK (.ok false) fa fb σ = fb σ := rfl
def ifK (c : R Bool) (f g : DSt → R Out) (σ : DSt) : R Out := c.bind fun k => bif k then f σ else g σ
theorem sIf_def (c : DSt → R Bool) (f g : DSt → R Out) (σ : DSt) : sIf c f g σ = ifK (c σ) f g σ := rfl
theorem ifK_t (f g : DSt → R Out) (σ : DSt) : ifK (.ok true) f g σ = f σ := rfl
theorem ifK_f (f g : DSt → R Out) (σ : DSt) : ifK (.ok false) f g σ = g σ := rfl
def chainS (g g' : D → D → R D) (a b c : R D) : R D := a.bind fun x => b.bind fun y => (g x y).bind fun z => (asB z).bind fun k => bif k then c.bind fun w => g' y w else .ok (.bl false)
theorem eChain_def (g g' : D → D → R D) (fa fb fc : DSt → R D) (σ : DSt) : eChain g g' fa fb fc σ = chainS g g' (fa σ) (fb σ) (fc σ) := rfl
theorem chain_ints (p q : Int → Int → Bool) (i j k : Int) : chainS (gB p) (gB q) (.ok (.int i)) (.ok (.int j)) (.ok (.int k)) = .ok (.bl (p i j && q j k)) := by
  show (bif p i j then R.ok (D.bl (q j k)) else R.ok (D.bl false)) = _
  cases p i j <;> rfl
def appK (i : Nat) (l : R (List D)) (a : R D) (σ : DSt) : R Out := l.bind fun ds => a.bind fun d => bif most ds.length then .ok (.nx (σ.set i (some (.lst (ds ++ [d]))))) else .bad
theorem sApp_def (own : List Nat) (i : Nat) (fe : DSt → R D) (σ : DSt) : sApp own i fe σ = appK i (lstAt σ i) (fe (mask own σ)) σ := rfl
theorem most_of' {n : Nat} (h : n ≤ 1000000) : most n = true := decide_eq_true (Nat.lt_of_le_of_lt h (by decide))
theorem appK_ok (i : Nat) (ds : List D) (d : D) (σ : DSt) (h : ds.length ≤ 1000000) : appK i (.ok ds) (.ok d) σ = .ok (.nx (σ.set i (some (.lst (ds ++ [d]))))) := by
  show (bif most ds.length then _ else _) = _
  rw [most_of' h]; rfl
def appPK (i : Nat) (l : R (List D)) (a : R D) (σ : DSt) : R Out := l.bind fun ds => a.bind fun d => bif most ds.length && imm d then .ok (.nx (σ.set i (some (.lst (ds ++ [d]))))) else .bad
theorem sAppP_def (i : Nat) (fe : DSt → R D) (σ : DSt) : sAppP i fe σ = appPK i (lstAt σ i) (fe σ) σ := rfl
theorem appPK_ok (i : Nat) (ds : List D) (d : D) (σ : DSt) (h : ds.length ≤ 1000000) (h' : imm d = true) : appPK i (.ok ds) (.ok d) σ = .ok (.nx (σ.set i (some (.lst (ds ++ [d]))))) := by
  show (bif most ds.length && imm d then _ else _) = _
  rw [most_of' h, h']; rfl
theorem lstAt_zero (ds : List D) (σ : DSt) : lstAt (some (.lst ds) :: σ) 0 = .ok ds := rfl
theorem lstAt_succ (x : Option D) (σ : DSt) (n : Nat) : lstAt (x :: σ) (n + 1) = lstAt σ n := rfl
theorem mulB_le {i : Int} (h1 : -(10 ^ 100) ≤ i) (h2 : i ≤ 10 ^ 100) : mulB i = true := mulB_of (n := 400) (B.of (k := 10 ^ 100) (by omega))
theorem divB_le {i : Int} (h1 : -(10 ^ 100) ≤ i) (h2 : i ≤ 10 ^ 100) (h : i ≠ 0) : divB i = true := divB_of (n := 400) (B.of (k := 10 ^ 100) (by omega)) h
def retK (a : R D) : R Out := a.bind fun d => .ok (.rt d)
theorem sRet_def (fe : DSt → R D) (σ : DSt) : sRet fe σ = retK (fe σ) := rfl
theorem retK_ok (d : D) : retK (.ok d) = .ok (.rt d) := rfl
theorem retK_err (e : D) : retK (.err e) = .err e := rfl
def exprK (a : R D) (σ : DSt) : R Out := a.bind fun _ => .ok (.nx σ)
theorem sExpr_def (fe : DSt → R D) (σ : DSt) : sExpr fe σ = exprK (fe σ) σ := rfl
theorem exprK_ok (d : D) (σ : DSt) : exprK (.ok d) σ = .ok (.nx σ) := rfl
theorem exprK_err (e : D) (σ : DSt) : exprK (.err e) σ = .err e := rfl
def setK (i : Nat) (a : R D) (σ : DSt) : R Out := a.bind fun d => .ok (.nx (σ.set i (some d)))
theorem sSet0_def (i : Nat) (fe : DSt → R D) (σ : DSt) : sSet0 i fe σ = setK i (fe σ) σ := rfl
theorem sSet_def (own : List Nat) (i : Nat) (fe : DSt → R D) (σ : DSt) : sSet own i fe σ = setK i (fe (mask own σ)) σ := rfl
theorem setK_ok (i : Nat) (d : D) (σ : DSt) : setK i (.ok d) σ = .ok (.nx (σ.set i (some d))) := rfl
theorem setK_err (i : Nat) (e : D) (σ : DSt) : setK i (.err e) σ = .err e := rfl
def setPK (i : Nat) (a : R D) (σ : DSt) : R Out := a.bind fun d => bif imm d then .ok (.nx (σ.set i (some d))) else .bad
theorem sSetP_def (i : Nat) (fe : DSt → R D) (σ : DSt) : sSetP i fe σ = setPK i (fe σ) σ := rfl
theorem setPK_ok (i : Nat) (d : D) (σ : DSt) (h : imm d = true) : setPK i (.ok d) σ = .ok (.nx (σ.set i (some d))) := by
  show (bif imm d then _ else _) = _
  rw [h]; rfl
def newK (i : Nat) (a : R (List D)) (σ : DSt) : R Out := a.bind fun ds => .ok (.nx (σ.set i (some (.lst ds))))
theorem sNew_def (own : List Nat) (i : Nat) (fe : DSt → R (List D)) (σ : DSt) : sNew own i fe σ = newK i (fe (mask own σ)) σ := rfl
theorem newK_ok (i : Nat) (ds : List D) (σ : DSt) : newK i (.ok ds) σ = .ok (.nx (σ.set i (some (.lst ds)))) := rfl
def asgK (ks : List Nat) (gp : D → R (List D)) (a : R D) (σ : DSt) : R Out := a.bind fun d => (gp d).noerr.bind fun us => .ok (.nx (setAll σ ks us))
theorem sAsg_def (own ks : List Nat) (gp : D → R (List D)) (fe : DSt → R D) (σ : DSt) : sAsg own ks gp fe σ = asgK ks gp (fe (mask own σ)) σ := rfl
theorem asgK_2t (i j : Nat) (a b : D) (σ : DSt) : asgK [i, j] (gpSeq 2) (.ok (.tup [a, b])) σ = .ok (.nx ((σ.set i (some a)).set j (some b))) := rfl
theorem asgK_2l (i j : Nat) (a b : D) (σ : DSt) : asgK [i, j] (gpSeq 2) (.ok (.lst [a, b])) σ = .ok (.nx ((σ.set i (some a)).set j (some b))) := rfl
theorem asgK_3t (i j k : Nat) (a b c : D) (σ : DSt) : asgK [i, j, k] (gpSeq 3) (.ok (.tup [a, b, c])) σ = .ok (.nx (((σ.set i (some a)).set j (some b)).set k (some c))) := rfl
theorem asgK_3l (i j k : Nat) (a b c : D) (σ : DSt) : asgK [i, j, k] (gpSeq 3) (.ok (.lst [a, b, c])) σ = .ok (.nx (((σ.set i (some a)).set j (some b)).set k (some c))) := rfl
def parK (i j : Nat) (a : R (List D)) (σ : DSt) : R Out := a.bind fun ds => match ds with
  | [a, b] => .ok (.nx ((σ.set i (some a)).set j (some b)))
  | _ => .bad
theorem sPar_def (own : List Nat) (i j : Nat) (fs : DSt → R (List D)) (σ : DSt) : sPar own i j fs σ = parK i j (fs (mask own σ)) σ := rfl
theorem parK_ok (i j : Nat) (a b : D) (σ : DSt) : parK i j (.ok [a, b]) σ = .ok (.nx ((σ.set i (some a)).set j (some b))) := rfl
def raiseK (c : Str) (a : R (List D)) : R Out := a.bind fun ds => bif few ds.length then .err (.exc c []) else .bad
theorem sRaise_def (c : Str) (fs : DSt → R (List D)) (σ : DSt) : sRaise c fs σ = raiseK c (fs σ) := rfl
theorem raiseK_1 (c : Str) (a : D) : raiseK c (.ok [a]) = .err (.exc c []) := rfl
theorem sRaise1_def (c : Str) (σ : DSt) : sRaise1 c σ = .err (.exc c []) := rfl
def tryK (i : Nat) (c : Str) (r : R Out) (hnd : DSt → R Out) (σ : DSt) : R Out := match r with
  | .ok o => .ok o
  | .err (.exc cc as) => bif subX cc c == some true then (hnd (σ.set i (some (.exc cc as)))).noerr.bind fun o => match o with
      | .nx σ' => .ok (.nx (σ'.set i none))
      | _ => .bad
    else .bad
  | _ => .bad
theorem sTry_def (i : Nat) (c : Str) (body hnd : DSt → R Out) (σ : DSt) : sTry i c body hnd σ = tryK i c (body σ) hnd σ := rfl
theorem tryK_ok (i : Nat) (c : Str) (o : Out) (hnd : DSt → R Out) (σ : DSt) : tryK i c (.ok o) hnd σ = .ok o := rfl
def handK (i : Nat) (r : R Out) : R Out := r.noerr.bind fun o => match o with
  | .nx σ' => .ok (.nx (σ'.set i none))
  | _ => .bad
theorem handK_nx (i : Nat) (σ : DSt) : handK i (.ok (.nx σ)) = .ok (.nx (σ.set i none)) := rfl
theorem tryK_err (i : Nat) (c cc : Str) (as : List D) (hnd : DSt → R Out) (σ : DSt) (h : subX cc c = some true) : tryK i c (.err (.exc cc as)) hnd σ = handK i (hnd (σ.set i (some (.exc cc as)))) := by
  show (bif subX cc c == some true then _ else _) = _
  rw [h]; rfl
theorem fin_rt (d : D) : fin (.ok (.rt d)) = .ok d := rfl
theorem fin_nx (σ : DSt) : fin (.ok (.nx σ)) = .ok .non := rfl
theorem fin_err (e : D) : fin (.err e) = .err e := rfl
theorem gAdd_ii (i j : Int) : gAdd (.int i) (.int j) = .ok (.int (i + j)) := rfl
theorem gSub_ii (i j : Int) : gSub (.int i) (.int j) = .ok (.int (i - j)) := rfl
theorem gMul_ii (i j : Int) (hi : mulB i = true) (hj : mulB j = true) : gMul (.int i) (.int j) = .ok (.int (i * j)) := by
  show (bif mulB i && mulB j then _ else _) = _
  rw [hi, hj]; rfl
theorem gFdiv_pos (i j : Int) (h : divB j = true) (h0 : 0 < j) : gFdiv (.int i) (.int j) = .ok (.int (i / j)) := by
  show (bif divB j then R.ok (D.int (i.fdiv j)) else .bad) = _
  rw [h, Int.fdiv_eq_ediv_of_nonneg _ (Int.le_of_lt h0)]; rfl
theorem gMod_pos (i j : Int) (h0 : 0 < j) : gMod (.int i) (.int j) = .ok (.int (i % j)) := by
  have : decide (j ≠ 0) = true := decide_eq_true (by omega)
  show (bif decide (j ≠ 0) then R.ok (D.int (i.fmod j)) else .bad) = _
  rw [this, Int.fmod_eq_emod_of_nonneg _ (Int.le_of_lt h0)]; rfl
theorem gPow_ii (i j : Int) (h : powB i j = true) : gPow (.int i) (.int j) = .ok (.int (i ^ j.toNat)) := by
  show (bif powB i j then _ else _) = _
  rw [h]; rfl
theorem gShr_ii (i j : Int) (h : 0 ≤ j) : gShr (.int i) (.int j) = .ok (.int (i / 2 ^ j.toNat)) := by
  show (bif decide (0 ≤ j) then _ else _) = _
  rw [decide_eq_true h]; rfl
theorem gNeg_i (i : Int) : gNeg (.int i) = .ok (.int (-i)) := rfl
theorem gLt_ii (i j : Int) : gLt (.int i) (.int j) = .ok (.bl (decide (i < j))) := rfl
theorem gLe_ii (i j : Int) : gLe (.int i) (.int j) = .ok (.bl (decide (i ≤ j))) := rfl
theorem gGt_ii (i j : Int) : gGt (.int i) (.int j) = .ok (.bl (decide (j < i))) := rfl
theorem gGe_ii (i j : Int) : gGe (.int i) (.int j) = .ok (.bl (decide (j ≤ i))) := rfl
theorem gEq_of {a b : D} (h : cmp2 a b = true) : gEq a b = .ok (.bl (eqD a b)) := by unfold gEq; rw [h]; rfl
theorem gNe_of {a b : D} (h : cmp2 a b = true) : gNe a b = .ok (.bl (!eqD a b)) := by unfold gNe; rw [h]; rfl
theorem eqD_ii (i j : Int) : eqD (.int i) (.int j) = decide (i = j) := by unfold eqD; rfl
theorem gEq_ii (i j : Int) : gEq (.int i) (.int j) = .ok (.bl (decide (i = j))) := by rw [gEq_of rfl, eqD_ii]
theorem gNe_ii (i j : Int) : gNe (.int i) (.int j) = .ok (.bl (!decide (i = j))) := by rw [gNe_of rfl, eqD_ii]
theorem gEq_bb (i j : Bool) : gEq (.bl i) (.bl j) = .ok (.bl (i == j)) := by rw [gEq_of rfl]; unfold eqD; rfl
theorem gNe_bb (i j : Bool) : gNe (.bl i) (.bl j) = .ok (.bl (!(i == j))) := by rw [gNe_of rfl]; unfold eqD; rfl
abbrev t3 (x y z : Int) : D := .tup [.int x, .int y, .int z]
abbrev l3 (x y z : Int) : D := .lst [.int x, .int y, .int z]
theorem eqDs_ints : ∀ (ns ms : List Int), eqDs (ns.map D.int) (ms.map D.int) = decide (ns = ms)
  | [], [] => by unfold eqDs; rfl
  | [], _ :: _ => by unfold eqDs; rfl
  | _ :: _, [] => by unfold eqDs; rfl
  | n :: ns, m :: ms => by
    show eqDs (D.int n :: ns.map D.int) (D.int m :: ms.map D.int) = _
    unfold eqDs
    rw [eqDs_ints ns ms, eqD_ii, Bool.eq_iff_iff]
    simp
theorem eqD_t3 (a b c x y z : Int) : eqD (t3 a b c) (t3 x y z) = decide (a = x ∧ b = y ∧ c = z) := by
  have := eqDs_ints [a, b, c] [x, y, z]
  unfold eqD
  rw [show ([D.int a, .int b, .int c] : List D) = [a, b, c].map D.int from rfl, show ([D.int x, .int y, .int z] : List D) = [x, y, z].map D.int from rfl, this, Bool.eq_iff_iff]
  simp
theorem eqD_l3 (a b c x y z : Int) : eqD (l3 a b c) (l3 x y z) = decide (a = x ∧ b = y ∧ c = z) := by
  have := eqD_t3 a b c x y z
  unfold eqD at this ⊢
  exact this
theorem gEq_t3 (a b c x y z : Int) : gEq (t3 a b c) (t3 x y z) = .ok (.bl (decide (a = x ∧ b = y ∧ c = z))) := by rw [gEq_of rfl, eqD_t3]
theorem gNe_t3 (a b c x y z : Int) : gNe (t3 a b c) (t3 x y z) = .ok (.bl (!decide (a = x ∧ b = y ∧ c = z))) := by rw [gNe_of rfl, eqD_t3]
theorem gEq_l3 (a b c x y z : Int) : gEq (l3 a b c) (l3 x y z) = .ok (.bl (decide (a = x ∧ b = y ∧ c = z))) := by rw [gEq_of rfl, eqD_l3]
theorem gIs_bb (a b : Bool) : gIs (.bl a) (.bl b) = .ok (.bl (a == b)) := rfl
theorem gIsn_bb (a b : Bool) : gIsn (.bl a) (.bl b) = .ok (.bl (a != b)) := rfl
theorem gIs_non (d : D) : gIs d .non = .ok (.bl (isNon d)) := by cases d <;> rfl
theorem gIsn_non (d : D) : gIsn d .non = .ok (.bl (!isNon d)) := by cases d <;> rfl
theorem gIx_t3_0 (a b c : D) : gIx (.tup [a, b, c]) (.int 0) = .ok a := rfl
theorem gIx_t3_1 (a b c : D) : gIx (.tup [a, b, c]) (.int 1) = .ok b := rfl
theorem gIx_t3_2 (a b c : D) : gIx (.tup [a, b, c]) (.int 2) = .ok c := rfl
theorem gIx_l3_0 (a b c : D) : gIx (.lst [a, b, c]) (.int 0) = .ok a := rfl
theorem gIx_l3_1 (a b c : D) : gIx (.lst [a, b, c]) (.int 1) = .ok b := rfl
theorem gIx_l3_2 (a b c : D) : gIx (.lst [a, b, c]) (.int 2) = .ok c := rfl
theorem gIx_nat {xs : List D} {j : Nat} {d : D} (h : xs[j]? = some d) : gIx (.lst xs) (.int (j : Int)) = .ok d := by
  show (match atI xs (j : Int) with | some d => R.ok d | none => .bad) = _
  rw [atI_nat h]
theorem gLen_l (xs : List D) : gLen [.lst xs] = .ok (.int xs.length) := rfl
theorem gLen_t0 : gLen [.tup []] = .ok (.int 0) := rfl
theorem gLen_t1 (a : D) : gLen [.tup [a]] = .ok (.int 1) := rfl
theorem gLen_t2 (a b : D) : gLen [.tup [a, b]] = .ok (.int 2) := rfl
theorem gLen_t3 (a b c : D) : gLen [.tup [a, b, c]] = .ok (.int 3) := rfl
theorem gLen_t4 (a b c d : D) : gLen [.tup [a, b, c, d]] = .ok (.int 4) := rfl
theorem gAbs_i (i : Int) : gAbs [.int i] = .ok (.int (i.natAbs : Int)) := rfl
theorem gMin_ii (i j : Int) : gMin [.int i, .int j] = .ok (.int (min i j)) := rfl
theorem gMax_ii (i j : Int) : gMax [.int i, .int j] = .ok (.int (max i j)) := rfl
theorem gInt_b (b : Bool) : gInt [.bl b] = .ok (.int (if b then 1 else 0)) := rfl
theorem isi_int_int (i : Int) : g2 isi3 [.int i, .ty "int"] = .ok (.bl true) := rfl
theorem isi_int_bool (i : Int) : g2 isi3 [.int i, .ty "bool"] = .ok (.bl false) := rfl
theorem isi_bl_bool (i : Bool) : g2 isi3 [.bl i, .ty "bool"] = .ok (.bl true) := rfl
theorem isi_bl_int (i : Bool) : g2 isi3 [.bl i, .ty "int"] = .ok (.bl true) := rfl
theorem isi_tup_tup (xs : List D) : g2 isi3 [.tup xs, .ty "tuple"] = .ok (.bl true) := rfl
theorem isi_lst_lst (xs : List D) : g2 isi3 [.lst xs, .ty "list"] = .ok (.bl true) := rfl
theorem isi_lst_tup (xs : List D) : g2 isi3 [.lst xs, .ty "tuple"] = .ok (.bl false) := rfl
theorem isi_tup_lst (xs : List D) : g2 isi3 [.tup xs, .ty "list"] = .ok (.bl false) := rfl
theorem isi_exc {c d : Str} {b : Bool} (h : subX c d = some b) : g2 isi3 [.exc c [], .cls d] = .ok (.bl b) := by
  show (match subX c d with | some b => R.ok (D.bl b) | none => .bad) = _
  rw [h]
theorem isi_excV (c : Str) : g2 isi3 [.exc c [], .ty "ValueError"] = .ok (.bl true) := rfl
theorem rng1_i (j : Int) (h : rOk j = true) : rng1 [.int j] = .ok (rngD 0 j.toNat) := by
  show (bif rOk j then _ else _) = _
  rw [h]; rfl
theorem rng2_ii (i j : Int) (h : rOk i = true) (h' : rOk j = true) : rng2 [.int i, .int j] = .ok (rngD i (j - i).toNat) := by
  show (bif rOk i && rOk j then _ else _) = _
  rw [h, h']; rfl
theorem rOk_of {i : Int} (h : -1000000000 ≤ i) (h' : i ≤ 1000000000) : rOk i = true := by
  unfold rOk
  rw [Nat.blt_eq]
  omega
def argsK (g : List D → R (List D)) (a : R (List D)) : R (List D) := a.bind g
theorem iArgs_def (g : List D → R (List D)) (fs : DSt → R (List D)) (σ : DSt) : iArgs g fs σ = argsK g (fs σ) := (rfl)
theorem argsK_ok (g : List D → R (List D)) (ds : List D) : argsK g (.ok ds) = g ds := (rfl)
def seqKi (a : R D) : R (List D) := a.bind asSeq
theorem iSeq_def (f : DSt → R D) (σ : DSt) : iSeq f σ = seqKi (f σ) := rfl
theorem seqKi_t (xs : List D) : seqKi (.ok (.tup xs)) = .ok xs := rfl
theorem seqKi_l (xs : List D) : seqKi (.ok (.lst xs)) = .ok xs := rfl
def forK (ks : List Nat) (gp : D → R (List D)) (fb : DSt → R Out) (a : R (List D)) (σ : DSt) : R Out := a.bind fun ds => forL ks gp fb ds σ
theorem sFor_def (own ks : List Nat) (gp : D → R (List D)) (fi : DSt → R (List D)) (fb : DSt → R Out) (σ : DSt) : sFor own ks gp fi fb σ = forK ks gp fb (fi (mask own σ)) σ := rfl
theorem forK_ok (ks : List Nat) (gp : D → R (List D)) (fb : DSt → R Out) (ds : List D) (σ : DSt) : forK ks gp fb (.ok ds) σ = forL ks gp fb ds σ := rfl
def turnK (r : R Out) (k : DSt → R Out) : R Out := r.bind fun o => match o with
  | .nx σ' => k σ'
  | .ct σ' => k σ'
  | .bk σ' => .ok (.nx σ')
  | .rt d => .ok (.rt d)
  | .rf d => .ok (.rf d)
theorem turnK_nx (σ : DSt) (k : DSt → R Out) : turnK (.ok (.nx σ)) k = k σ := rfl
theorem turnK_ct (σ : DSt) (k : DSt → R Out) : turnK (.ok (.ct σ)) k = k σ := rfl
theorem turnK_bk (σ : DSt) (k : DSt → R Out) : turnK (.ok (.bk σ)) k = .ok (.nx σ) := rfl
theorem turnK_rt (d : D) (k : DSt → R Out) : turnK (.ok (.rt d)) k = .ok (.rt d) := rfl
theorem turnK_err (d : D) (k : DSt → R Out) : turnK (.err d) k = .err d := rfl
theorem forL_nil (ks : List Nat) (gp : D → R (List D)) (fb : DSt → R Out) (σ : DSt) : forL ks gp fb [] σ = .ok (.nx σ) := rfl
theorem forL_one (i : Nat) (fb : DSt → R Out) (d : D) (ds : List D) (σ : DSt) : forL [i] gpOne fb (d :: ds) σ = turnK (fb (σ.set i (some d))) (forL [i] gpOne fb ds) := by
  show (fb (σ.set i (some d))).bind _ = _
  unfold turnK
  cases fb (σ.set i (some d)) with
  | ok o => cases o <;> rfl
  | err e => rfl
  | bad => rfl
theorem forL_inv {i : Nat} {fb : DSt → R Out} (I : DSt → Prop) : ∀ (ds : List D), (∀ d ∈ ds, ∀ σ, I σ → ∃ σ', (fb (σ.set i (some d)) = .ok (.nx σ') ∨ fb (σ.set i (some d)) = .ok (.ct σ')) ∧ I σ') → ∀ σ, I σ → ∃ σ', forL [i] gpOne fb ds σ = .ok (.nx σ') ∧ I σ'
  | [], _, σ, h => ⟨σ, rfl, h⟩
  | d :: ds, hs, σ, h => by
    obtain ⟨σ1, h1, h2⟩ := hs d List.mem_cons_self σ h
    obtain ⟨σ2, h3, h4⟩ := forL_inv I ds (fun d' hd => hs d' (List.mem_cons_of_mem _ hd)) σ1 h2
    refine ⟨σ2, ?_, h4⟩
    rw [forL_one]
    rcases h1 with h1 | h1 <;> rw [h1]
    · exact h3
    · exact h3
theorem forL_nth {i : Nat} {fb : DSt → R Out} (I : Nat → DSt → Prop) (ds : List D) (hs : ∀ (k : Nat) (d : D) (σ : DSt), ds[k]? = some d → I k σ → ∃ σ', (fb (σ.set i (some d)) = .ok (.nx σ') ∨ fb (σ.set i (some d)) = .ok (.ct σ')) ∧ I (k + 1) σ') (σ : DSt) (h : I 0 σ) : ∃ σ', forL [i] gpOne fb ds σ = .ok (.nx σ') ∧ I ds.length σ' := by
  have go : ∀ (ds : List D) (n : Nat), (∀ (k : Nat) (d : D) (σ : DSt), ds[k]? = some d → I (n + k) σ → ∃ σ', (fb (σ.set i (some d)) = .ok (.nx σ') ∨ fb (σ.set i (some d)) = .ok (.ct σ')) ∧ I (n + k + 1) σ') → ∀ σ, I n σ → ∃ σ', forL [i] gpOne fb ds σ = .ok (.nx σ') ∧ I (n + ds.length) σ' := by
    intro ds
    induction ds with
    | nil => intro n _ σ h; exact ⟨σ, rfl, h⟩
    | cons d ds ih =>
      intro n hs σ h
      obtain ⟨σ1, h1, h2⟩ := hs 0 d σ rfl h
      obtain ⟨σ2, h3, h4⟩ := ih (n + 1) (fun k d' σ hd hI => by
        have := hs (k + 1) d' σ (by simpa using hd) (by rw [show n + (k + 1) = n + 1 + k by omega]; exact hI)
        rw [show n + (k + 1) + 1 = n + 1 + k + 1 by omega] at this
        exact this) σ1 h2
      refine ⟨σ2, ?_, by rw [List.length_cons, show n + (ds.length + 1) = n + 1 + ds.length by omega]; exact h4⟩
      rw [forL_one]
      rcases h1 with h1 | h1 <;> rw [h1]
      · exact h3
      · exact h3
  obtain ⟨σ', h1, h2⟩ := go ds 0 (fun k d σ hd hI => by
    rw [Nat.zero_add] at hI ⊢
    exact hs k d σ hd hI) σ h
  exact ⟨σ', h1, by rw [Nat.zero_add] at h2; exact h2⟩
theorem sWhile_t {c : DSt → R Bool} {fb : DSt → R Out} {σ σ' : DSt} (h : c σ = .ok true) (h' : fb σ = .ok (.nx σ')) : sWhile c fb σ = sWhile c fb σ' := by rw [sWhile_step, h]; show (fb σ).bind _ = _; rw [h']; rfl
theorem sWhile_f {c : DSt → R Bool} {fb : DSt → R Out} {σ : DSt} (h : c σ = .ok false) : sWhile c fb σ = .ok (.nx σ) := by rw [sWhile_step, h]; rfl
def lcK (k : Nat) (ks : List Nat) (a : R (List D)) (gp : D → R (List D)) (c : DSt → R Bool) (e : DSt → R D) (σ : DSt) : R (List D) := a.bind fun ds => bif most ds.length then (lcD ks gp c e (List.replicate k none ++ σ) ds).noerr else .bad
theorem eLC_def (k : Nat) (ks : List Nat) (fi : DSt → R (List D)) (gp : D → R (List D)) (c : DSt → R Bool) (e : DSt → R D) (σ : DSt) : eLC k ks fi gp c e σ = lcK k ks (fi σ) gp c e σ := rfl
theorem most_of {n : Nat} (h : n ≤ 1000000) : most n = true := decide_eq_true (Nat.lt_of_le_of_lt h (by decide))
end DL
end
section
set_option Elab.async false
set_option linter.all false
set_option maxRecDepth 100000
namespace DL
open PySem L2 PyProof.Rows
section
variable {X : Cx} {E : XK} {e : Expr} {te : TE} {pos : Pos}
def putK (i : Nat) (l : R (List D)) (a k : R D) (σ : DSt) : R Out := l.bind fun ds => a.bind fun d => k.bind fun kd => match kd with
  | .int n => match ixN ds.length n with
    | some j => .ok (.nx (σ.set i (some (.lst (ds.set j d)))))
    | none => .bad
  | _ => .bad
variable {own ol : List Nat} {x : Str} {k : Expr} {fk fe : DSt → R D} {np tpos : Pos}
end
def tR (K : PySem.W.Frag) (mg : Str → Option Value) (E : XK) (f : DSt → R (List D)) : TI := fun σ H R => ∃ G σd, Ok0 K mg σd σ G H ∧ RW (f σd) (fun ds => ∀ J G' H', Step G H G' H' → (∀ G2, IterD K mg J G2 ds) → R J H') (AfterX K mg E G H)
def DR (X : Cx) (E : XK) (tg iter : Expr) (f : DSt → R (List D)) : Prop := PI X tg iter (tR X.K X.mg E f)
section
variable {X : Cx} {E : XK} {tg : Expr} {fs : DSt → R (List D)} {a b c : Expr} {p pos : Pos}
theorem dr_range2 (hm : X.mg "range" = none) (ha : DA X E [a, b] fs) (hg : Gl X "range" := by rfl) (hs : starEach [a, b] X.env = [(false, eval a X.env), (false, eval b X.env)] := by rfl) (hs2 : starEach [b] X.env = [(false, eval b X.env)] := by rfl) :
    DR X E tg (.Call (.Name "range" p) [a, b] [] pos) (iArgs rng2 fs) := by
  refine PI.mono' (pi_range2 hg hm ha hs hs2) fun σ H R ⟨G, σd, ok, q⟩ => ?_
  refine ⟨G, σd, ok, q.of_bind.mono (fun ds _ z vs G' H' s r => ?_) fun _ z => z⟩
  match ds, z, r with
  | [.int i, .int j], z, r =>
    obtain rfl := Reps.of_ints (ns := [i, j]) r
    cases hj : (rOk i && rOk j) with
    | false => simp only [rng2, hj, cond_false] at z; exact z.elim
    | true =>
      simp only [rng2, hj, cond_true] at z
      rw [Bool.and_eq_true] at hj
      have h1 := rOk_is hj.1
      have h2 := rOk_is hj.2
      exact ⟨i, j, rfl, ⟨by omega, by omega, by omega, by omega⟩, z _ G' H' s fun _ => .rng i _⟩
def sForR (ks : List Nat) (gp : D → R (List D)) (fi : DSt → R (List D)) (fb : DSt → R Out) : DSt → R Out := fun σ => (fi σ).bind fun ds => forL ks gp fb ds σ
theorem sForR_def (ks : List Nat) (gp : D → R (List D)) (fi : DSt → R (List D)) (fb : DSt → R Out) (σ : DSt) : sForR ks gp fi fb σ = forK ks gp fb (fi σ) σ := rfl
variable {own ol ks : List Nat} {iter : Expr} {body : List Stmt} {gp : D → R (List D)} {fi : DSt → R (List D)} {fb : DSt → R Out}
theorem ds_forR (L : XL X) (hc : X.calm = true) (hi : DR X E tg iter fi) (hg : DG X tg ks gp) (hb : DSs X E own own own body fb) (ho : ks.all (fun i => !own.contains i) = true := by rfl) (hs : ∀ x, foldedSetIterable iter X.env x = pure x := by intro _; rfl) :
    DS X E own own ol (.For tg iter body [] pos) (sForR ks gp fi fb) := fun G0 => PS.mono' (ps_for L.own hc hi hg (hb G0) hs) fun Dn σ H ⟨G, σd, ok, s0, q⟩ => by
  have sp := ok.pubStep s0
  refine ⟨_, σd, ok.pub.1, q.of_bind.mono (fun ds _ z J G1 H1 s1 it => ?_) fun _ z => z.step sp⟩
  have hko : ∀ k ∈ ks, k ∉ own := fun k hk => by simpa using List.all_eq_true.mp ho k hk
  have okd := ok.drop s1.h
  have s0d : Step G0 X.H₀ G H1 := s0.trans (.heap ok.ext s1.h)
  refine ⟨fun i m σ' H' => m = ds.length - i ∧ i ≤ ds.length ∧ ∃ G' σd', Ok X.K X.mg X.H₀ own σd' σ' G' H' ∧ Same G G' ∧ Step G0 X.H₀ G' H' ∧ RW (forL ks gp fb (ds.drop i) σd') (OutW X.K X.mg G0 X.H₀ own ol Dn G) (AfterX X.K X.mg E G0 X.H₀),
    ⟨ds.length, by simp, Nat.zero_le _, G, σd, okd, Same.refl _, s0d, z⟩, ?_⟩
  rintro i m σ' H' ⟨rfl, hi, G', σd', ok', e', s', w⟩
  by_cases hlt : i < ds.length
  · right
    obtain ⟨d, hd⟩ : ∃ d, ds[i]? = some d := ⟨ds[i], by simp [hlt]⟩
    obtain ⟨g1, g2⟩ := (it G').turn H' i d ok'.ext hd
    have hdrop : ds.drop i = d :: ds.drop (i + 1) := by
      rw [List.drop_eq_getElem_cons hlt]
      congr 1
      exact Option.some.inj ((List.getElem?_eq_getElem hlt).symm.trans hd)
    rw [hdrop] at w
    refine ⟨g1, fun σ2 H2 => i + 1 ≤ ds.length ∧ ∃ G' σd', Ok X.K X.mg X.H₀ own σd' σ2 G' H2 ∧ Same G G' ∧ Step G0 X.H₀ G' H2 ∧ RW (forL ks gp fb (ds.drop (i + 1)) σd') (OutW X.K X.mg G0 X.H₀ own ol Dn G) (AfterX X.K X.mg E G0 X.H₀),
      fun σ2 H2 ⟨h1, h2⟩ => ⟨ds.length - (i + 1), by omega, rfl, h1, h2⟩, fun x H2 hy => ?_⟩
    obtain ⟨G2, s2, r2⟩ := g2 x H2 hy G' (Same.refl _) ok'.ext
    unfold forL at w
    obtain ⟨us, e1, w⟩ := noerr_ok w.of_bind
    refine ⟨G2, d, s2.e, r2, RW.ok_of e1 fun ws rws => ?_⟩
    have ok2 := (ok'.step s2).setAll hko rws
    refine ⟨G2, _, ok2, s'.trans s2, w.of_bind.mono (fun o _ z => ?_) fun _ z => z⟩
    cases o with
    | nx σ3 => exact fun σ4 G4 H4 ok4 s4 e4 => ⟨hlt, G4, σ3, ok4, (e'.trans s2.g).trans e4, s4, z⟩
    | ct σ3 => exact fun σ4 G4 H4 ok4 s4 e4 => ⟨hlt, G4, σ3, ok4, (e'.trans s2.g).trans e4, s4, z⟩
    | bk σ3 => exact fun σ4 G4 H4 ok4 s4 e4 => (show OutW X.K X.mg G0 X.H₀ own ol Dn G (.nx σ3) from z) σ4 G4 H4 ok4 s4 ((e'.trans s2.g).trans e4)
    | rt d => exact z
    | rf d => exact z
  · left
    have hi2 : i = ds.length := by omega
    subst hi2
    rw [List.drop_length] at w
    refine ⟨(it G').stop H' ok'.ext, ?_⟩
    unfold forL at w
    exact (show OutW X.K X.mg G0 X.H₀ own ol Dn G (.nx σd') from w) σ' G' H' ok' s' e'
end
section
variable {X : Cx} {E : XK} {K : PySem.W.Frag} {mg : Str → Option Value} {p pos : Pos} {e : Expr} {es : List Expr} {fs : DSt → R (List D)}
def str1 : D → R D
  | .int i => bif decide (i.natAbs.log2 < 1920) then .ok (.str (toString i)) else .bad
  | _ => .bad
abbrev gStr := g1 str1
theorem cd_str : CallD K mg (fun xs H Q => ∃ i, xs = [.int i] ∧ i.natAbs.log2 < 1920 ∧ Q (.str (toString i)) H) gStr := cd1 fun G H d v Q e r q => by
  cases d with
  | int i =>
    cases r
    cases hC : decide (i.natAbs.log2 < 1920) with
    | false => simp only [str1, hC, cond_false] at q; exact q.elim
    | true => simp only [str1, hC, cond_true] at q; exact ⟨i, rfl, of_decide_eq_true hC, After.now q e rfl⟩
  | _ => exact (show False from q).elim
theorem de_strc (hm : X.mg "str" = none) (ha : DA X E (e :: es) fs) (hg : Gl X "str" := by rfl) (he : starEach (e :: es) X.env = (false, eval e X.env) :: starEach es X.env := by rfl) (hpl : (backTo pos (starEach es X.env)).any (·.1) = false := by rfl) : DE X E (.Call (.Name "str" p) (e :: es) [] pos) (eBlt gStr fs) :=
  de_bty call_str_int cd_str hm ha bt_str hg (by decide) (by decide) he hpl
end
end DL
end
section
set_option Elab.async false
set_option linter.all false
set_option maxRecDepth 100000
namespace DL
open PySem PySem.Spec PyProof.Rows L2
section
variable {X : Cx} {E : XK} {pos : Pos}
theorem inv_big {pins : List (Addr × Obj)} {σ : L2.St} {H : Hp} {s : Shared} (I : Inv X pins σ H s) : sysModules < s.heap.objs.size :=
  Nat.lt_trans (by decide) (show mainGlobals < s.heap.objs.size from (I.mod.glob.keeps I.bk).lt)
theorem pe_d0 : PE X (.Dict [] [] pos) (fun _ H Q => ∀ p, H p = none → Q (.ref p) (upd H p (.dK []))) := fun pins s σ H Q I h =>
  wpAny_Dict_empty ⟨.ref s.heap.objs.size, _, I.laid (a := s.heap.objs.size) (o := .dK []) (t' := s.toks) (fun _ _ q => Heap.get?_push_of_some _ q) (Nat.le_refl _)
    ⟨Nat.zero_le _, beq_eq_false_iff_ne.mpr (Ne.symm (Nat.ne_of_lt (inv_big I))), [], .nil, Heap.DictOf.new s.heap⟩, rfl, h _ (I.hok.fresh (Nat.le_refl _))⟩
theorem de_d0 : DE X E (.Dict [] [] pos) (eC (.dct [] [])) := PE.mono' pe_d0 fun σ H Q ⟨G, σd, ok, q⟩ p hp => by
  have sp := Step.pub (o := .dK []) ok.ext hp
  exact (show After X.K X.mg Q G H (.dct [] []) from q) _ _ _ sp ⟨p, [], rfl, .inl upd_same, rfl, Reps.nil⟩
end
end DL
end
section
set_option Elab.async false
set_option linter.all false
set_option maxRecDepth 100000
namespace DL
open PySem L2 PyProof.Rows
def inD (d : D) (xs : List D) : Bool := xs.any fun y => eqD y d
def in2 (d : D) (xs : List D) : Bool := datN 9 d && xs.all (datN 9)
def gIn : D → D → R D
  | d, .lst xs => bif in2 d xs then .ok (.bl (inD d xs)) else .bad
  | d, .tup xs => bif in2 d xs then .ok (.bl (inD d xs)) else .bad
  | .str i, .str j => .ok (.bl (!(Builtin.Str.occurrences j i 0 j.length 1).isEmpty))
  | _, _ => .bad
def gNin : D → D → R D
  | d, .lst xs => bif in2 d xs then .ok (.bl (!inD d xs)) else .bad
  | d, .tup xs => bif in2 d xs then .ok (.bl (!inD d xs)) else .bad
  | .str i, .str j => .ok (.bl (!(!(Builtin.Str.occurrences j i 0 j.length 1).isEmpty)))
  | _, _ => .bad
section
variable {X : Cx} {E : XK}
theorem any_e {K : PySem.W.Frag} {mg : Str → Option Value} {G : Hp} {d : D} (f : Value → Bool) : ∀ {ds : List D} {vs : List V} {its : List Value}, (∀ d' v' u, d' ∈ ds → Rep K mg G d' v' → RelV v' u → f u = eqD d' d) → Reps K mg G ds vs → Vals vs its → its.any f = ds.any fun y => eqD y d
  | [], _, _, _, r, t => by cases r; cases t; rfl
  | d' :: ds, _, _, h, ⟨v, vs, e, r1, r2⟩, t => by
    subst e
    cases t with
    | cons q t =>
      rw [List.any_cons, List.any_cons, h d' _ _ List.mem_cons_self r1 q, any_e f (fun d'' v'' u hd => h d'' v'' u (List.mem_cons_of_mem _ hd)) r2 t]
theorem mem_of_vals {K : PySem.W.Frag} {mg : Str → Option Value} {G : Hp} : ∀ {ds : List D} {vs : List V} {its : List Value}, Reps K mg G ds vs → Vals vs its → ∀ u ∈ its, ∃ d' v', d' ∈ ds ∧ Rep K mg G d' v' ∧ RelV v' u
  | [], _, _, r, t, u, hu => by cases r; cases t; cases hu
  | d' :: ds, _, _, ⟨v, vs, e, r1, r2⟩, t, u, hu => by
    subst e
    cases t with
    | cons q t =>
      rcases List.mem_cons.mp hu with rfl | hu
      · exact ⟨d', v, List.mem_cons_self, r1, q⟩
      · obtain ⟨d'', v'', h1, h2, h3⟩ := mem_of_vals r2 t u hu
        exact ⟨d'', v'', List.mem_cons_of_mem _ h1, h2, h3⟩
def rInD (K : PySem.W.Frag) (mg : Str → Option Value) (neg : Bool) : R2 := fun x y H Q => ∃ G d ds p vs, Same G H ∧ Rep K mg G d x ∧ y = .ref p ∧ (SqL K G p vs ∨ SqT K G p vs) ∧ Reps K mg G ds vs ∧ in2 d ds = true ∧ Q (.bl (bif neg then !inD d ds else inD d ds)) H
open Classical in
theorem in_facts {pins : List (Addr × Obj)} {σ : L2.St} {G H : Hp} {s : Shared} (I : Inv X pins σ H s) {k : Nat} (r : Room k X.A) (e : Same G H) {d : D} {x : V} {v : Value} {ds : List D} {vs : List V} {its : List Value} (rx : Rep X.K X.mg G d x) (qx : RelV x v) (rs : Reps X.K X.mg G ds vs) (t : Vals vs its) (h : in2 d ds = true) :
    ∃ f : Value → Bool, (∀ u ∈ its, SeqAt.EqAt X.A.in1 s u v (f u)) ∧ its.any f = inD d ds := by
  unfold in2 at h
  rw [Bool.and_eq_true, List.all_eq_true] at h
  obtain ⟨h1, h2⟩ := h
  have key : ∀ d' v' u, d' ∈ ds → Rep X.K X.mg G d' v' → RelV v' u → decide (∃ d'' v'', d'' ∈ ds ∧ Rep X.K X.mg G d'' v'' ∧ RelV v'' u ∧ eqD d'' d = true) = eqD d' d := by
    intro d' v' u hd r1 q1
    by_cases hq : eqD d' d = true
    · rw [hq]; exact decide_eq_true ⟨d', v', hd, r1, q1, hq⟩
    · rw [Bool.not_eq_true] at hq
      rw [hq]
      refine decide_eq_false ?_
      rintro ⟨d'', v'', hd', r2, q2, hq'⟩
      have ev := q1.inj q2
      subst ev
      have := rep_inj I e 9 (h2 _ hd) (h2 _ hd') r1 r2
      subst this
      rw [hq] at hq'; cases hq'
  refine ⟨fun u => decide (∃ d'' v'', d'' ∈ ds ∧ Rep X.K X.mg G d'' v'' ∧ RelV v'' u ∧ eqD d'' d = true), fun u hu => ?_, any_e _ key rs t⟩
  obtain ⟨d', v', hd, r1, q1⟩ := mem_of_vals rs t u hu
  show SeqAt.EqAt X.A.in1 s u v (decide _)
  rw [key d' v' u hd r1 q1]
  exact (eqAt_D I e 9 (by rw [in1_units]; have := r.un; omega) (h2 _ hd) h1 r1 q1 rx qx).1
theorem op_inD {k : Nat} (r : Room k X.A) : OpR X (compareOp .In) (rInD X.K X.mg false) := by
  intro pins s σ H x y v u Q I rx ry h
  obtain ⟨G, d, ds, p, vs, e, r1, rfl, hq, rs, c, q⟩ := h
  cases ry
  rcases hq with hq | hq
  · obtain ⟨its, t, pl, hz⟩ := I.list (e.seq hq)
    obtain ⟨f, h1, h2⟩ := in_facts I r e r1 rx rs t c
    refine SeqAt.in_listAt f pl.isList (fun w hw => h1 w (by simpa using hw)) ⟨.bl _, H, I, rfl, ?_⟩
    rw [show its.toArray.any f = its.any f by simp, h2]; exact q
  · obtain ⟨its, t, pl, hz⟩ := I.tuple (Same.sqT e hq)
    obtain ⟨f, h1, h2⟩ := in_facts I r e r1 rx rs t c
    refine SeqAt.in_tupleAt f pl (fun w hw => h1 w (by simpa using hw)) ⟨.bl _, H, I, rfl, ?_⟩
    rw [show its.toArray.any f = its.any f by simp, h2]; exact q
theorem op_ninD {k : Nat} (r : Room k X.A) : OpR X (compareOp .NotIn) (rInD X.K X.mg true) := by
  intro pins s σ H x y v u Q I rx ry h
  obtain ⟨G, d, ds, p, vs, e, r1, rfl, hq, rs, c, q⟩ := h
  cases ry
  rcases hq with hq | hq
  · obtain ⟨its, t, pl, hz⟩ := I.list (e.seq hq)
    obtain ⟨f, h1, h2⟩ := in_facts I r e r1 rx rs t c
    refine SeqAt.notIn_listAt f pl.isList (fun w hw => h1 w (by simpa using hw)) ⟨.bl _, H, I, rfl, ?_⟩
    rw [show its.toArray.any f = its.any f by simp, h2]; exact q
  · obtain ⟨its, t, pl, hz⟩ := I.tuple (Same.sqT e hq)
    obtain ⟨f, h1, h2⟩ := in_facts I r e r1 rx rs t c
    refine SeqAt.notIn_tupleAt f pl (fun w hw => h1 w (by simpa using hw)) ⟨.bl _, H, I, rfl, ?_⟩
    rw [show its.toArray.any f = its.any f by simp, h2]; exact q
abbrev rInS (neg : Bool) : R2 := fun x y H Q => ∃ i j, x = .str i ∧ y = .str j ∧ Q (.bl (bif neg then !(!(Builtin.Str.occurrences j i 0 j.length 1).isEmpty) else !(Builtin.Str.occurrences j i 0 j.length 1).isEmpty)) H
theorem cf_in {k : Nat} (C : XC X E k) : CmpF X .In gIn := ⟨_, (op_inD C.room).or (op_in_str : OpR X _ (rInS false)), fun G H a b x y Q e ra rb q => by
  cases b with
  | lst xs =>
    obtain ⟨p, vs, rfl, h1, h2⟩ := rb
    cases hc : in2 a xs with
    | false => simp only [gIn, hc, cond_false] at q; exact q.elim
    | true => simp only [gIn, hc, cond_true] at q; exact .inl ⟨G, a, xs, p, vs, e, ra, rfl, .inl h1, h2, hc, After.now q e rfl⟩
  | tup xs =>
    obtain ⟨p, vs, rfl, h1, h2⟩ := rb
    cases hc : in2 a xs with
    | false => simp only [gIn, hc, cond_false] at q; exact q.elim
    | true => simp only [gIn, hc, cond_true] at q; exact .inl ⟨G, a, xs, p, vs, e, ra, rfl, .inr h1, h2, hc, After.now q e rfl⟩
  | str j => cases a with
    | str i => cases ra; cases rb; exact .inr ⟨i, j, rfl, rfl, After.now q e rfl⟩
    | _ => exact (show False from q).elim
  | _ => cases a <;> exact (show False from q).elim, fun a b e => by
    cases b with
    | lst xs => simp only [gIn]; cases in2 a xs <;> simp [cond]
    | tup xs => simp only [gIn]; cases in2 a xs <;> simp [cond]
    | _ => cases a <;> simp [gIn]⟩
theorem cf_nin {k : Nat} (C : XC X E k) : CmpF X .NotIn gNin := ⟨_, (op_ninD C.room).or (op_notIn_str : OpR X _ (rInS true)), fun G H a b x y Q e ra rb q => by
  cases b with
  | lst xs =>
    obtain ⟨p, vs, rfl, h1, h2⟩ := rb
    cases hc : in2 a xs with
    | false => simp only [gNin, hc, cond_false] at q; exact q.elim
    | true => simp only [gNin, hc, cond_true] at q; exact .inl ⟨G, a, xs, p, vs, e, ra, rfl, .inl h1, h2, hc, After.now q e rfl⟩
  | tup xs =>
    obtain ⟨p, vs, rfl, h1, h2⟩ := rb
    cases hc : in2 a xs with
    | false => simp only [gNin, hc, cond_false] at q; exact q.elim
    | true => simp only [gNin, hc, cond_true] at q; exact .inl ⟨G, a, xs, p, vs, e, ra, rfl, .inr h1, h2, hc, After.now q e rfl⟩
  | str j => cases a with
    | str i => cases ra; cases rb; exact .inr ⟨i, j, rfl, rfl, After.now q e rfl⟩
    | _ => exact (show False from q).elim
  | _ => cases a <;> exact (show False from q).elim, fun a b e => by
    cases b with
    | lst xs => simp only [gNin]; cases in2 a xs <;> simp [cond]
    | tup xs => simp only [gNin]; cases in2 a xs <;> simp [cond]
    | _ => cases a <;> simp [gNin]⟩
end
end DL
end
section
set_option Elab.async false
set_option linter.all false
set_option maxRecDepth 100000
namespace DL
open PySem L2 PyProof.Rows
def sign (c : Nat) : Str := ⟨#[c]⟩
def Its (z : Str) : It := ⟨fun i _ => i < z.cps.size, fun i H x H' => H' = H ∧ ∃ c, z.cps[i]? = some c ∧ x = .str (sign c), fun i _ => z.cps.size ≤ i⟩
theorem turn_text {P : Program} {w : World} {K : PySem.W.Frag} {tg : Expr} (z : Str) (it : Addr) (nm : String) (t : Tok) (hnm : nm = "str_ascii_iterator" ∨ nm = "str_iterator") : Turn P w K tg (Its z) [it] it (fun i h => h.IsStrIter it nm z t i) where
  mem := by simp
  obj := fun i h st b hb => by
    have e : b = it := by simpa using hb
    subst e
    obtain ⟨o, e, c, d⟩ := st
    exact ⟨o, e, fun v z => by rw [d] at z; cases z⟩
  keep := fun i h h' st k => by
    obtain ⟨o, e, r⟩ := st
    exact ⟨o, k it (by simp) o e, r⟩
  item := by
    intro X hP hw hK hc i pins s σ H E I hf st hg
    subst hP hw hK
    obtain ⟨f0, f1, f2, f3, f4, f5⟩ := hf it (by simp)
    have go : ∀ (W : Walks X.prog X.w X.A it [it] [it] z.cps.size (SignAt z) (fun i h => h.IsStrIter it nm z t i)), wpAny (model X.prog X.w) X.A (pyNext (.ref it)) (fun r s1 => ∃ u, r = some u ∧ wpAny (model X.prog X.w) X.A (letOwnedTupleGo tg (.ref it) u) (fun _ s2 => ∃ x H', Inv X pins σ H' s2 ∧ RelV x u ∧ (Its z).yld i H x H' ∧ s2.heap.IsStrIter it nm z t (i + 1) ∧ ∀ b ∈ [it], H' b = none) E s1) E s := by
      intro W
      refine W.item i s _ _ hg st fun v h' tk hv st' kk => ?_
      obtain ⟨c, u, hc', rfl⟩ := hv
      have I1 : Inv X pins σ H { s with heap := h', toks := tk } := I.turned (fun b o hb e => kk b o (by simpa using hb) e) f0 f1 f3 f4 f5
      obtain ⟨o, e, cl, d⟩ := id st'
      exact ⟨_, rfl, go_of (s := { s with heap := h', toks := tk }) e cl d (by rcases hnm with rfl | rfl <;> decide) ⟨.str (sign c), H, I1, ⟨u, rfl⟩, ⟨rfl, c, hc', rfl⟩, st', fun b hb => (hf b hb).1⟩⟩
    rcases hnm with rfl | rfl
    · exact go (Walks.strAscii (I.ok.hd hc) it z t)
    · exact go (Walks.strWide (I.ok.hd hc) it z t)
  done := by
    intro X hP hw hK hc i pins s σ H E I hf st hg
    subst hP hw hK
    obtain ⟨f0, f1, f2, f3, f4, f5⟩ := hf it (by simp)
    rcases hnm with rfl | rfl
    · exact wpAny_pyNext_ascii_end (I.ok.hd hc) st (by have : z.cps.size ≤ i := hg; simp; omega) fun h' eb => ⟨rfl, I.turned (t' := s.toks) (fun b o hb e => eb b o hb e) f0 f1 f3 f4 f5⟩
    · exact wpAny_pyNext_wide_end (I.ok.hd hc) st (by have : z.cps.size ≤ i := hg; simp; omega) fun h' eb => ⟨rfl, I.turned (t' := s.toks) (fun b o hb e => eb b o hb e) f0 f1 f3 f4 f5⟩
  self := fun A i s Q E st h => by
    rcases hnm with rfl | rfl
    · exact wpAny_pyIter_striter_ascii st h
    · exact wpAny_pyIter_striter_wide st h
section
variable {X : Cx} {E : XK} {tg : Expr}
def iTxt (tl : TE) : TI := fun σ H R => tl σ H fun x H1 => ∃ z, x = .str z ∧ R (Its z) H1
theorem pi_text {l : Expr} {tl : TE} (hl : PE X l tl) : PI X tg l (iTxt tl) := by
  intro pins s σ H R I h
  refine thn (hl pins s σ H _ I h) fun v s1 ⟨x, H1, I1, r1, q1⟩ => ?_
  obtain ⟨z, e, q⟩ := q1
  subst e
  obtain ⟨t, rfl⟩ := r1
  have fpo : ∀ b ∈ [s1.heap.objs.size], FpOk X pins H1 b := fun b hb => by
    have e : b = s1.heap.objs.size := by simpa using hb
    subst e
    exact I1.fpOk (Nat.le_refl _) (I1.hok.fresh (Nat.le_refl _))
  cases ha : z.cps.all (· < 128)
  · exact wpAny_pyIter_wide ha ⟨s1.heap.objs.size, [s1.heap.objs.size], _, _, H1, rfl, I1.kept (t' := s1.toks) fun b o e => Heap.get?_push_of_some _ e, turn_text z _ "str_iterator" t (.inr rfl), ⟨_, Heap.get?_push_size _ rfl, rfl, rfl⟩, fpo, q⟩
  · exact wpAny_pyIter_ascii ha ⟨s1.heap.objs.size, [s1.heap.objs.size], _, _, H1, rfl, I1.kept (t' := s1.toks) fun b o e => Heap.get?_push_of_some _ e, turn_text z _ "str_ascii_iterator" t (.inl rfl), ⟨_, Heap.get?_push_size _ rfl, rfl, rfl⟩, fpo, q⟩
def signsD (z : Str) : List D := z.cps.toList.map fun c => .str (sign c)
def asTxt : D → R (List D)
  | .str z => .ok (signsD z)
  | _ => .bad
def iStr (f : DSt → R D) : DSt → R (List D) := fun σ => (f σ).bind asTxt
theorem IterD.text {K : PySem.W.Frag} {mg : Str → Option Value} {G : Hp} (z : Str) : IterD K mg (Its z) G (signsD z) := by
  have hl : (signsD z).length = z.cps.size := by simp [signsD]
  refine ⟨fun H e => by rw [hl]; exact Nat.le_refl _, fun H i d e hd => ?_⟩
  have hi : i < z.cps.size := by have := (List.getElem?_eq_some_iff.mp hd).1; omega
  refine ⟨hi, fun x H' y G1 e1 e2 => ?_⟩
  obtain ⟨rfl, c, hc, rfl⟩ := y
  have : d = .str (sign c) := by
    unfold signsD at hd
    rw [List.getElem?_map, Array.getElem?_toList, hc] at hd
    simpa using hd.symm
  subst this
  exact ⟨G1, .refl e2, rfl⟩
theorem di_text {l : Expr} {f : DSt → R D} (hl : DE X E l f) : DI X E tg l (iStr f) := by
  have hT : PI X tg l (iTxt (tE X.K X.mg E f)) := pi_text hl
  intro pins s σ H R I ⟨G, σd, ok, q⟩
  refine hT pins s σ H R I ⟨G, σd, ok, ?_⟩
  refine q.of_bind.mono (fun d _ z => ?_) fun _ z => z
  rintro v G' H' st r
  cases d with
  | str y =>
    cases r
    exact ⟨y, rfl, (show ∀ J G' H', Step G H G' H' → IterD X.K X.mg J G' (signsD y) → R J H' from z) _ G' H' st (.text y)⟩
  | _ => exact (show False from z).elim
variable {a b : Expr} {fa fb : DSt → R D} {pos : Pos}
def gIxS : D → D → R D
  | .str z, .int i => bif decide (0 ≤ i) && Nat.blt i.natAbs 1073741824 then (match z.cps[i.toNat]? with
    | some c => .ok (.str (sign c))
    | none => .bad) else .bad
  | _, _ => .bad
abbrev rIxS : R2 := fun x y H Q => ∃ z i c, x = .str z ∧ y = .int i ∧ 0 ≤ i ∧ i < 2 ^ 63 ∧ i < z.length ∧ z.cps[i.toNat]? = some c ∧ Q (.str ⟨#[c]⟩) H
theorem nx_ixS : NoErr gIxS := by
  intro a b e h
  cases a with
  | str z => cases b with
    | int i =>
      cases hC : (decide (0 ≤ i) && Nat.blt i.natAbs 1073741824) with
      | false => simp only [gIxS, hC, cond_false] at h; cases h
      | true =>
        simp only [gIxS, hC, cond_true] at h
        split at h <;> cases h
    | _ => cases h
  | _ => cases b <;> cases h
theorem od_ixS {K : PySem.W.Frag} {mg : Str → Option Value} : OpD K mg rIxS gIxS := by
  intro G H a b x y Q e ra rb q
  cases a with
  | str z => cases b with
    | int i =>
      cases ra; cases rb
      cases hC : (decide (0 ≤ i) && Nat.blt i.natAbs 1073741824) with
      | false => simp only [gIxS, hC, cond_false] at q; exact q.elim
      | true =>
        simp only [gIxS, hC, cond_true] at q
        rw [Bool.and_eq_true, decide_eq_true_eq, Nat.blt_eq] at hC
        cases hc : z.cps[i.toNat]? with
        | none => rw [hc] at q; exact q.elim
        | some c =>
          rw [hc] at q
          have hlt : i.toNat < z.cps.size := (Array.getElem?_eq_some_iff.mp hc).1
          have hlt' : i < (z.length : Int) := by
            show i < (z.cps.size : Int)
            omega
          exact ⟨z, i, c, rfl, rfl, hC.1, by omega, hlt', hc, After.now q e rfl⟩
    | _ => exact (show False from q).elim
  | _ => cases b <;> exact (show False from q).elim
theorem de_ixS (ha : DE X E a fa) (hb : DE X E b fb) (hs : PlainIxT b := by intro _ _; rfl) : DE X E (.Subscript a b pos) (eOp gIxS fa fb) :=
  PE.mono' (pe_item_str ha hb hs) fun _ _ _ h => tOp_of od_ixS nx_ixS h
def tk0 : Option Int → Option (Int × Tok) := fun o => o.map fun i => (i, 0)
def cutT (z : Str) (lo hi : Option Int) : Str := if (slicePicked z (tk0 lo) (tk0 hi) none).length == z.length then z else ⟨((slicePicked z (tk0 lo) (tk0 hi) none).filterMap (z.cps[·]?)).toArray⟩
def rSlS : V → Option Int → Option Int → Hp → VK → Prop := fun x lo hi H Q => ∃ z, x = .str z ∧ (cutT z lo hi).length ≤ sizeLine ∧ Q (.str (cutT z lo hi)) H
theorem part_of {v : Value} {o : Option Int} (h : IsPart v o) : ∃ l : Option (Int × Tok), v = partValue l ∧ l.map (·.1) = o := by
  cases h with
  | none => exact ⟨none, rfl, rfl⟩
  | int i t => exact ⟨some (i, t), rfl, rfl⟩
theorem sl_text : SlR X rSlS := by
  intro pins s σ H x v vl vu lo hi sl Q I rx hs pl pu h
  obtain ⟨z, rfl, hz, q⟩ := h
  obtain ⟨t, rfl⟩ := rx
  obtain ⟨l, rfl, hl⟩ := part_of pl
  obtain ⟨u, rfl, hu⟩ := part_of pu
  refine ⟨"str", _, PySem.F.slot_str_getitem.lookup, typeIs_str s z t, ?_⟩
  refine wpAny_getItem_str_slice (l := l) (u := u) (st := none) hs rfl ?_
  have e : slicePicked z l u none = slicePicked z (tk0 lo) (tk0 hi) none := by
    unfold slicePicked tk0
    rw [hl, hu]
    cases lo <;> cases hi <;> rfl
  unfold sliceMade
  rw [e]
  unfold cutT at hz q
  by_cases hp : ((slicePicked z (tk0 lo) (tk0 hi) none).length == z.length) = true
  · rw [if_pos hp] at hz q
    rw [if_pos (by rw [hp]; rfl)]
    exact ⟨.str z, H, I, ⟨t, rfl⟩, q⟩
  · rw [if_neg hp] at hz q
    rw [if_neg (by rw [Bool.not_eq_true] at hp; rw [hp]; simp)]
    exact ⟨hz, .str _, H, I.tok _, ⟨_, rfl⟩, q⟩
def gSlS : D → Option Int → Option Int → R D
  | .str z, lo, hi => bif le24 (cutT z lo hi).length then .ok (.str (cutT z lo hi)) else .bad
  | _, _, _ => .bad
def eSlS (fe : DSt → R D) (fl fh : DSt → R (Option Int)) : DSt → R D := fun σ => (fe σ).bind fun d => (fl σ).bind fun lo => (fh σ).bind fun hi => gSlS d lo hi
theorem de_slS {e : Expr} {fe : DSt → R D} {lo hi : Option Expr} {fl fh : DSt → R (Option Int)} {p2 : Pos} (he : DE X E e fe) (hl : DO X E lo fl) (hh : DO X E hi fh) : DE X E (.Subscript e (.Slice lo hi none p2) pos) (eSlS fe fl fh) := by
  refine PE.mono' (pe_slice sl_text he hl hh) fun σ H Q ⟨G, σd, ok, q⟩ => ?_
  refine tE_then (P := After X.K X.mg Q) ok q fun d v G1 H1 s1 ok1 r1 q1 => ?_
  refine ⟨G1, σd, ok1, q1.of_bind.mono (fun l _ z G2 H2 s2 => ?_) fun _ z => z⟩
  refine ⟨G2, σd, ok1.step s2, z.of_bind.mono (fun u _ z G3 H3 s3 => ?_) fun _ z => z.step s2⟩
  cases d with
  | str y =>
    cases r1
    cases hC : le24 (cutT y l u).length with
    | false => simp only [gSlS, hC, cond_false] at z; exact z.elim
    | true =>
      simp only [gSlS, hC, cond_true] at z
      exact ⟨y, rfl, of_decide_eq_true hC, After.now ((show After X.K X.mg Q G H (.str (cutT y l u)) from z).step ((s1.trans s2).trans s3)) s3.e rfl⟩
  | _ => exact (show False from z).elim
def joinT (sep : Str) : List Str → Str
  | [y] => y
  | ys => Builtin.Str.glued sep ys
def strsOf : List D → Option (List Str)
  | [] => some []
  | .str y :: ds => (strsOf ds).map (y :: ·)
  | _ => none
theorem Reps.strs {K : PySem.W.Frag} {mg : Str → Option Value} {G : Hp} : ∀ {ds : List D} {ys : List Str} {vs : List V}, strsOf ds = some ys → Reps K mg G ds vs → vs = ys.map V.str
  | [], _, _, h, r => by cases h; cases r; rfl
  | .str y :: ds, _, _, h, ⟨v, t, e1, r1, r2⟩ => by
    subst e1
    cases hd : strsOf ds with
    | none => simp [strsOf, hd] at h
    | some ys' =>
      simp [strsOf, hd] at h
      subst h
      rw [Reps.strs hd r2]
      have : v = V.str y := r1
      rw [this]; rfl
  | .non :: _, _, _, h, _ => by simp [strsOf] at h
  | .bl _ :: _, _, _, h, _ => by simp [strsOf] at h
  | .int _ :: _, _, _, h, _ => by simp [strsOf] at h
  | .ty _ :: _, _, _, h, _ => by simp [strsOf] at h
  | .cls _ :: _, _, _, h, _ => by simp [strsOf] at h
  | .tup _ :: _, _, _, h, _ => by simp [strsOf] at h
  | .lst _ :: _, _, _, h, _ => by simp [strsOf] at h
  | .dct _ _ :: _, _, _, h, _ => by simp [strsOf] at h
  | .exc _ _ :: _, _, _, h, _ => by simp [strsOf] at h
theorem vals_strs : ∀ {ys : List Str} {us : List Value}, Vals (ys.map V.str) us → ∃ l : List (Str × Tok), us = strValues l ∧ l.map (·.1) = ys
  | [], _, h => by cases h; exact ⟨[], rfl, rfl⟩
  | y :: ys, _, h => by
    cases h with
    | cons q t =>
      obtain ⟨l, rfl, hl⟩ := vals_strs t
      obtain ⟨tk, rfl⟩ := q
      exact ⟨(y, tk) :: l, rfl, by rw [List.map_cons, hl]⟩
def sumL (sep : Str) (ys : List Str) : Nat := ys.toArray.foldl (· + ·.length + sep.length) 0
def rJoin (K : PySem.W.Frag) : V → List V → Hp → VK → Prop := fun x vs H Q => ∃ sep b ys, x = .str sep ∧ vs = [.ref b] ∧ SqL K H b (ys.map V.str) ∧ sumL sep ys ≤ sizeLine ∧ (joinT sep ys).length ≤ sizeLine ∧ Q (.str (joinT sep ys)) H
theorem mt_join : MtM X "str.join" (rJoin X.K) := by
  intro pins s σ H x vs v us Q I rx rv h
  obtain ⟨sep, b, ys, rfl, rfl, hB, hz, hz2, q⟩ := h
  obtain ⟨t, rfl⟩ := rx
  obtain ⟨u, rfl, ru⟩ := rv.one
  cases ru
  obtain ⟨its, r, pl, _⟩ := I.list hB
  obtain ⟨l, rfl, hl⟩ := vals_strs r
  subst hl
  refine call_meets F.slot_str_join (typeIs_str s sep t) F.entry_str_join (F.args_str_join_2 _ _) (meets_str_join_list sep t b l (decide_eq_false (by show ¬ sizeLine < _; exact Nat.not_lt.mpr hz))) ⟨pl.isList, ?_⟩
  match l, hz2, q with
  | [], hz2, q => exact ⟨hz2, .str _, H, I.tok _, ⟨_, rfl⟩, q⟩
  | [p], hz2, q => exact ⟨.str _, H, I, ⟨_, rfl⟩, q⟩
  | _ :: _ :: _, hz2, q => exact ⟨hz2, .str _, H, I.tok _, ⟨_, rfl⟩, q⟩
def joinD (sep : D) (d : D) : R D := match sep, d with
  | .str z, .lst ds => match strsOf ds with
    | some ys => bif le24 (sumL z ys) && le24 (joinT z ys).length then .ok (.str (joinT z ys)) else .bad
    | none => .bad
  | _, _ => .bad
def joinE (fe : DSt → R D) (σ : DSt) : D → R D
  | .str z => (fe σ).bind fun d => joinD (.str z) d
  | _ => .bad
def eJoin (fo fe : DSt → R D) : DSt → R D := fun σ => (fo σ).bind fun z => joinE fe σ z
theorem de_join {o e : Expr} {fo fe : DSt → R D} {apos cpos : Pos} (ho : DE X E o fo) (he : DE X E e fe)
    (hbase : attributeBase o "join" X.env (eval o X.env) = eval o X.env := by rfl)
    (hfew : ((backTo cpos (starEach [e] X.env)).all (fun x => !x.1) && (backToKw cpos (keywordEach [] X.env)).all (fun x => x.1.isSome) && decide ([e].length + ([] : List Keyword).length + (if ([] : List Keyword).isEmpty then 0 else 1) < 30)) = true := by rfl)
    (hline : (apos.endLine == cpos.line) = true := by rfl) (hs : starEach [e] X.env = (false, eval e X.env) :: starEach [] X.env := by rfl) (hplain : (backTo cpos (starEach [] X.env)).any (·.1) = false := by rfl) :
    DE X E (.Call (.Attribute o "join" apos) [e] [] cpos) (eJoin fo fe) := by
  refine PE.mono' (pe_bm PySem.F.plainAttrs_str PySem.F.slot_str_join PySem.F.type_str_join mt_join ho (da_cons he da_nil hs) hbase hfew hline hs hplain) fun σ H Q ⟨G, σd, ok, q⟩ => ?_
  refine tE_then (P := After X.K X.mg Q) ok q fun z x G1 H1 s1 ok1 r1 q1 => ?_
  cases z with
  | str y =>
    cases r1
    refine ⟨rfl, G1, σd, ok1, (show RW ((aCons fe aNil) σd) _ _ from ?_)⟩
    unfold aCons
    have q2 := (show RW ((fe σd).bind fun d => joinD (.str y) d) _ _ from q1).of_bind
    cases hf : fe σd with
    | bad => rw [hf] at q2; exact q2.elim
    | err e => rw [hf] at q2; exact (show AfterX X.K X.mg E G1 H1 e from q2)
    | ok d =>
      rw [hf] at q2
      have q3 : RW (joinD (.str y) d) (After X.K X.mg Q G H) (AfterX X.K X.mg E G1 H1) := q2
      rintro ws G2 H2 s2 ⟨v, _, e1, r3, r4⟩
      subst e1
      cases r4
      cases d with
      | lst ds =>
        obtain ⟨b, vs, rfl, hb, hv⟩ := r3
        cases hs' : strsOf ds with
        | none => simp only [joinD, hs'] at q3; exact q3.elim
        | some ys =>
          have ev := Reps.strs hs' hv
          subst ev
          cases hC : (le24 (sumL y ys) && le24 (joinT y ys).length) with
          | false => simp only [joinD, hs', hC, cond_false] at q3; exact q3.elim
          | true =>
            simp only [joinD, hs', hC, cond_true] at q3
            rw [Bool.and_eq_true] at hC
            exact ⟨y, b, ys, rfl, rfl, s2.e.seq hb, of_decide_eq_true hC.1, of_decide_eq_true hC.2, After.now ((show After X.K X.mg Q G H (.str (joinT y ys)) from q3).step (s1.trans s2)) s2.e rfl⟩
      | _ => exact (show False from q3).elim
  | _ => exact (show False from q1).elim
theorem vals_of_strs : ∀ l : List (Str × Tok), Vals (l.map fun p => V.str p.1) (strValues l)
  | [] => .nil
  | p :: l => .cons ⟨p.2, rfl⟩ (vals_of_strs l)
end
end DL
end
section
set_option Elab.async false
set_option linter.all false
set_option maxRecDepth 100000
namespace DL
open PySem L2 PyProof.Rows
section
variable {prog : Program} {w : World} {A : Around} {E : Value → Shared → Prop} {s : Shared}
theorem items_int {ks : List Int} {vs : List Value} (h : ItemsAre (intKind prog w) ks vs) : ∀ v ∈ vs, ∃ i t, v = .int i t := by
  induction h with
  | nil => intro v hv; cases hv
  | cons q _ ih =>
    intro v hv
    rcases List.mem_cons.mp hv with rfl | hv
    · cases v with
      | int i t => exact ⟨i, t, rfl⟩
      | _ => cases q
    · exact ih v hv
structure TSet (prog : Program) (w : World) (h : Heap) (a : Addr) (o : Obj) (es : Array (Int × Value)) (ep : Nat) (t : SetTable) (kss : List (List Int)) : Prop where
  get : h.get? a = some o
  ex : o.ExactSet
  dat : o.data = .set es ep t
  dm : t.dummies = #[]
  pl : t.place.size = es.size
  msk : (t.mask = 7 ∧ es.size ≤ 4) ∨ (t.mask = 31 ∧ es.size ≤ 18)
  n : es.size = kss.length
  el : ∀ e ∈ es.toList, ∃ c ls, e.2 = .ref c ∧ IsTupleKey (intKind prog w) h ls c ∧ ls ∈ kss
variable {h : Heap} {a : Addr} {o : Obj} {es : Array (Int × Value)} {ep : Nat} {t : SetTable} {kss : List (List Int)}
end
end DL
end
section
set_option Elab.async false
set_option linter.all false
set_option maxRecDepth 100000
namespace DL
open PySem PySem.Spec PyProof.Rows L2
variable {K : PySem.W.Frag} {mg : Str → Option Value} {X : Cx} {e : Expr} {es : List Expr} {p pos : Pos}
def shortB (j : Int) : Bool := decide (j.natAbs < 2 ^ 60)
theorem shortB_ok {i j : Int} (h : shortB j = true) : IntMulOk i j := by
  have h : j.natAbs < 2 ^ 60 := of_decide_eq_true h
  unfold IntMulOk
  intro z
  simp only [Bool.and_eq_true, decide_eq_true_eq] at z
  have b := z.1.2
  have hb : Builtin.Int.intBits j ≤ 60 := by
    unfold Builtin.Int.intBits
    split
    · omega
    · have := log2_lt_of (show 0 < 60 by decide) h
      omega
  have : shortFactorBits = 64 := rfl
  omega
abbrev gMulS : D → D → R D := gI (fun _ j => shortB j) fun i j => i * j
theorem op_mulS : OpR X (binaryOp .Mult) (rI (fun _ j => shortB j = true) fun i j => .int (i * j)) := opI fun _ _ _ _ _ _ _ hc q => mul_int q (shortB_ok hc)
theorem de_mulS {E : XK} {a b : Expr} {fa fb : DSt → R D} (ha : DE X E a fa) (hb : DE X E b fb) : DE X E (.BinOp a .Mult b pos) (eOp gMulS fa fb) := de_op op_mulS (od_I fun i j h => h) nx_I ha hb
theorem gMulS_ii (i j : Int) (h : shortB j = true) : gMulS (.int i) (.int j) = .ok (.int (i * j)) := by
  show (bif shortB j then _ else _) = _
  rw [h]; rfl
end DL
end
section
set_option Elab.async false
set_option linter.all false
set_option maxRecDepth 100000
namespace DL
open PySem L2 PyProof.Rows
def clsOf : List D → Option (List Str)
  | [] => some []
  | .cls c :: ds => (clsOf ds).map (c :: ·)
  | _ => none
def subAny (c : Str) : List Str → Option Bool
  | [] => some false
  | d :: ds => match subX c d with
    | some true => some true
    | some false => subAny c ds
    | none => none
def isiC : D → D → R D
  | .exc c [], .tup ts => match clsOf ts with
    | some cs => match subAny c cs with
      | some b => .ok (.bl b)
      | none => .bad
    | none => .bad
  | _, _ => .bad
section
variable {X : Cx} {E : XK} {K : PySem.W.Frag} {mg : Str → Option Value} {G H : Hp}
variable {x : Str} {p pos : Pos} {e : Expr} {es : List Expr} {fs : DSt → R (List D)}
theorem Reps.clss : ∀ {ds : List D} {cs : List Str} {vs : List V}, clsOf ds = some cs → Reps K mg G ds vs → ∃ Ds : List Addr, vs = Ds.map V.ref ∧ cs.map mg = Ds.map fun a => some (.ref a)
  | [], _, _, h, r => by cases h; cases r; exact ⟨[], rfl, rfl⟩
  | .cls c :: ds, _, _, h, ⟨v, t, e1, r1, r2⟩ => by
    subst e1
    cases hd : clsOf ds with
    | none => simp [clsOf, hd] at h
    | some cs' =>
      simp [clsOf, hd] at h
      subst h
      obtain ⟨Ds, rfl, e2⟩ := Reps.clss hd r2
      obtain ⟨C, rfl, hC⟩ := r1
      exact ⟨C :: Ds, rfl, by rw [List.map_cons, List.map_cons, hC, e2]⟩
  | .non :: _, _, _, h, _ => by simp [clsOf] at h
  | .bl _ :: _, _, _, h, _ => by simp [clsOf] at h
  | .int _ :: _, _, _, h, _ => by simp [clsOf] at h
  | .str _ :: _, _, _, h, _ => by simp [clsOf] at h
  | .ty _ :: _, _, _, h, _ => by simp [clsOf] at h
  | .tup _ :: _, _, _, h, _ => by simp [clsOf] at h
  | .lst _ :: _, _, _, h, _ => by simp [clsOf] at h
  | .dct _ _ :: _, _, _, h, _ => by simp [clsOf] at h
  | .exc _ _ :: _, _, _, h, _ => by simp [clsOf] at h
theorem vals_refs : ∀ {Ds : List Addr} {us : List Value}, Vals (Ds.map V.ref) us → us = Ds.map Value.ref
  | [], _, h => by cases h; rfl
  | T :: Ts, _, h => by
    cases h with
    | cons q t =>
      rw [vals_refs t]
      rw [show _ = Value.ref T from q]; rfl
theorem kit_clss {c : Str} {C : Addr} (hx : XcOk K mg c C) : ∀ {cs : List Str} {Ds : List Addr} {b : Bool}, subAny c cs = some b → (cs.map mg = Ds.map fun a => some (.ref a)) → PySem.W.kitAny K (.ref C) (Ds.map Value.ref) = some b
  | [], [], _, h, _ => h
  | [], _ :: _, _, _, h => by cases h
  | _ :: _, [], _, _, h => by cases h
  | d :: cs, a :: Ds, b, h, he => by
    rw [List.map_cons, List.map_cons, List.cons.injEq] at he
    rw [List.map_cons]
    unfold PySem.W.kitAny
    unfold subAny at h
    cases hs : subX c d with
    | none => rw [hs] at h; cases h
    | some v =>
      rw [hs] at h
      rw [hx.isi d a v hs he.1]
      cases v with
      | true => exact h
      | false => exact kit_clss hx h he.2
def rIsiC (K : PySem.W.Frag) : List V → Hp → VK → Prop := fun xs H Q => ∃ (a C q : Addr) (Ds : List Addr) (b : Bool), xs = [.ref a, .ref q] ∧ H a = some (excO a C none) ∧ ExcC K C ∧ SqT K H q (Ds.map V.ref) ∧ PySem.W.kitAny K (.ref C) (Ds.map Value.ref) = some b ∧ Q (.bl b) H
theorem call_isiC : CallR X (.builtin "isinstance") (rIsiC X.K) := by
  intro pins s σ H xs us Q I r h
  obtain ⟨a, C, q, Ds, b, rfl, ha, ec, hq, hk, z⟩ := h
  obtain ⟨u, w', rfl, ru, rw'⟩ := vals2 r
  cases (show u = Value.ref a from ru)
  cases (show w' = Value.ref q from rw')
  obtain ⟨its, rv, ⟨⟨oc, od, odt, osl⟩, ho, hc, n, hdt⟩, _⟩ := I.tuple hq
  simp only at hc hdt
  subst hc hdt
  have ei := vals_refs rv
  subst ei
  obtain ⟨⟨o, e1, e2, e3, e4⟩, _, _⟩ := I.hok a _ ha
  have hI : PySem.W.InstAt s.heap a o C none := ⟨e1, e2, e4, by rw [e3]; trivial⟩
  exact PySem.W.kia_tup (kitx_exc ec) I.kIn ⟨o, none, hI⟩ ho hk (fun z => nomatch z) fun tk => ⟨.bl b, H, I.tok tk, rfl, z⟩
theorem cd_isiC : CallD K mg (rIsiC K) (g2 isiC) := cd2 fun G H d d' v v' Q e r r' q => by
  cases d with
  | exc c as =>
    cases as with
    | cons b bs => cases d' <;> exact (show False from q).elim
    | nil =>
      cases d' with
      | tup ts =>
        obtain ⟨a, C, dct, vs, rfl, h2, h3, h4, h5⟩ := r
        cases h5
        rcases h4 with ⟨rfl, _⟩ | ⟨dx, w, _, z, _⟩
        · obtain ⟨q', ws, rfl, k1, k2⟩ := r'
          cases hs : clsOf ts with
          | none => simp only [isiC, hs] at q; exact q.elim
          | some cs =>
            cases hb : subAny c cs with
            | none => simp only [isiC, hs, hb] at q; exact q.elim
            | some b =>
              simp only [isiC, hs, hb] at q
              obtain ⟨Ds, rfl, e2⟩ := Reps.clss hs k2
              exact ⟨a, C, q', Ds, b, rfl, e _ _ h2, h3.exc, Same.sqT e k1, kit_clss h3 hb e2, After.now q e rfl⟩
        · cases z
      | _ => exact (show False from q).elim
  | _ => cases d' <;> exact (show False from q).elim
theorem de_isiC (hm : X.mg "isinstance" = none) (ha : DA X E (e :: es) fs) (hg : Gl X "isinstance" := by rfl) (he : starEach (e :: es) X.env = (false, eval e X.env) :: starEach es X.env := by rfl) (hpl : (backTo pos (starEach es X.env)).any (·.1) = false := by rfl) : DE X E (.Call (.Name "isinstance" p) (e :: es) [] pos) (eBlt (g2 isiC) fs) :=
  de_blt call_isiC cd_isiC hm boot_isi ha hg (by decide) (by decide) he hpl
end
end DL
end
section
set_option Elab.async false
set_option linter.all false
set_option maxRecDepth 100000
namespace L2
open PySem PySem.Spec PyProof.Rows
section
variable {M : Model} {A : Around} {E : Value → Shared → Prop} {s : Shared} {B : Heap} {env : Env} {outer : List Env} {L x : Addr} {Q : Unit → Shared → Prop}
theorem noteFrame_congr {e : Value} {env' : Env} (h : env'.frame = env.frame) : noteFrame e env' = noteFrame e env := by
  unfold noteFrame PySem.frameOf
  rw [h]
theorem fly_any {cls fl : Value} {dct : Option Addr} (hfr : A.frames = some (env :: outer)) (hf : env.frame = some L) (F : Fly B (env :: outer) x cls dct fl s.heap)
    (k : ∀ h' fl', Fly B (env :: outer) x cls dct fl' h' → s.heap.UpToSlots h' → Q () { s with heap := h' }) : wpAny M A (noteFrame (.ref x) env) Q E s := by
  obtain ⟨ox, vs, T, oT, ts, ex, hc, hd, dx, v1, nT, Tx, eT, dT, t3⟩ := F.obj
  unfold noteFrame
  simp only [hf]
  refine wpAny_bind (wpAny_field ex dx v1 ?_)
  rw [if_pos (show (Value.ref T != Value.none) = true by simp)]
  refine wpAny_bind (wpAny_field eT dT t3 ?_)
  by_cases hq : (fl == rawInt L) = true
  · rw [if_pos hq]
    exact wpAny_pure (k s.heap fl F fun b o eb nf => ⟨o.slots, eb⟩)
  · rw [if_neg hq]
    subst hc hd
    refine wpAny_bind (wpAny_setField eT dT (Array.getElem?_eq_some_iff.mp t3).1 ?_)
    have oth : ∀ b, b ≠ T → (s.heap.update T (Obj.mapFields (·.setIfInBounds 3 Value.none))).get? b = s.heap.get? b := fun b hb => Heap.get?_update_other _ _ (Ne.symm hb)
    have up : s.heap.UpToSlots (s.heap.update T (Obj.mapFields (·.setIfInBounds 3 Value.none))) := fun b o eb nf => ⟨o.slots, (oth b (other_rec eT dT eb nf)).trans eb⟩
    refine fly_entry hfr (F.frames.of_keeps fun b o eb nf => ⟨o, (oth b (other_rec eT dT eb nf)).trans eb, rfl⟩) hf ((oth x (Ne.symm Tx)).trans ex) (fun b o eb => (oth b fun z => by rw [z, nT] at eb; cases eb).trans (F.stays b o eb)) F.new dx
      (Array.getElem?_eq_some_iff.mp v1).1 fun h' f u => k h' _ f (up.trans u)
theorem fly_pass {α : Type} {l : List Env} {cls fl : Value} {dct : Option Addr} {what : String} {cenv : Env} {QQ : α → Shared → Prop} (F : Fly B l x cls dct fl s.heap)
    (k : ∀ h' fl', Fly B l x cls dct fl' h' → s.heap.UpToSlots h' → E (.ref x) { s with heap := h' }) : wpAny M A (PySem.passOn what (.ref x) cenv : Sem α) QQ E s := by
  obtain ⟨ox, vs, T, oT, ts, ex, hc, hd, dx, v1, nT, Tx, eT, dT, t3⟩ := F.obj
  have sz : 3 < ts.size := (Array.getElem?_eq_some_iff.mp t3).1
  unfold PySem.passOn
  refine wpAny_bind (wpAny_field ex dx v1 ?_)
  rw [if_neg (show ¬ ((Value.ref T == Value.none) = true) by simp)]
  refine wpAny_bind ?_
  unfold setFlight
  refine wpAny_bind (wpAny_field ex dx v1 ?_)
  rw [if_pos (show (Value.ref T != Value.none) = true by simp)]
  generalize cenv.frame.elim Value.none (fun f => rawInt f) = fl2
  have oth : ∀ b, b ≠ T → (s.heap.update T (Obj.mapFields (·.setIfInBounds 3 fl2))).get? b = s.heap.get? b := fun b hb => Heap.get?_update_other _ _ (Ne.symm hb)
  refine wpAny_setField eT dT sz (wpAny_throw (k _ fl2 ⟨fun b o eb => (oth b fun z => by rw [z, nT] at eb; cases eb).trans (F.stays b o eb), F.new, F.frames.of_keeps fun b o eb nf => ⟨o, (oth b (other_rec eT dT eb nf)).trans eb, rfl⟩,
    ox, vs, T, _, _, (oth x (Ne.symm Tx)).trans ex, hc, hd, dx, v1, nT, Tx, Heap.get?_update_self _ eT (Obj.isFreed_of_fields (Obj.data_mapFields dT _)), Obj.data_mapFields dT _, by simp [sz]⟩
    fun b o eb nf => ⟨o.slots, (oth b (other_rec eT dT eb nf)).trans eb⟩))
end
section
variable {X : Cx} {pins : List (Addr × Obj)} {σ : St} {H H' : Hp} {s s' : Shared} {x C : Addr} {B : Heap} {E : XK} {dct : Option Addr} {M : Model} {EE : Value → Shared → Prop}
theorem leave_any {ch : List Addr} {fl : Value} (I : Inv X pins σ H s) (hst : X.stack = X.env :: X.outer) (hf : X.env.frame = some X.env.locals) (hex : X.ex = []) (hch : ∀ b ∈ ch, X.s₀.heap.objs.size ≤ b)
    (ho : s'.os = s.os) (hg : AllBare s'.gens) (un : Un (frs X.stack) ch H H' s.heap s'.heap) (hok : HOk X.prog X.w H' s'.heap) (F : Fly B X.stack x (.ref C) dct fl s'.heap)
    (ib : ∀ b o, s.heap.get? b = some o → b ∉ frs X.stack → b ∉ ch → ∀ o', s'.heap.get? b = some o' → B.get? b = some o') (it : ∀ b u, H' b = some u → ∀ o', s'.heap.get? b = some o' → B.get? b = some o') (nx : H' x = none) (hE : E (.ref C) dct H') :
    wpAny M X.A (leaving X.env (.ref x)) (fun _ s2 => CXe X.prog X.w X.outer X.H₀ X.s₀ E (.ref x) s2) EE s' := by
  have stk := I.stack
  have hfr : X.A.frames = some (X.env :: X.outer) := by rw [← hst]; exact I.ok.frames
  rw [hst] at stk F ib un
  have fc : frs (X.env :: X.outer) = X.env.locals :: X.fs := frs_cons hf
  unfold leaving
  refine wpAny_bind (fly_any hfr hf F fun h1 fl1 F1 u1 => fly_land F1 fun h2 F2 u2 => ?_)
  have up : s'.heap.UpToSlots h2 := u1.trans u2
  have below : ∀ b o, X.s₀.heap.get? b = some o → b ∉ X.fs → b ∉ frs (X.env :: X.outer) := fun b o e nb hb => by
    rw [fc] at hb
    rcases List.mem_cons.mp hb with z | z
    · exact absurd (Nat.lt_of_lt_of_le (Heap.lt_size e) I.ok.above) (by rw [z]; exact Nat.lt_irrefl _)
    · exact nb z
  have inFs : ∀ b, b ∈ X.fs → b ∈ frs (X.env :: X.outer) := fun b hb => by rw [fc]; exact List.mem_cons_of_mem _ hb
  have noex : ∀ b, b ∉ X.ex := fun b z => by rw [hex] at z; cases z
  have no0 : ∀ (b : Addr) (o : Obj), X.s₀.heap.get? b = some o → b ∉ ch := fun b o e z => absurd (Nat.lt_of_lt_of_le (Heap.lt_size e) (hch b z)) (Nat.lt_irrefl _)
  have slot2 : ∀ b o, s.heap.get? b = some o → H b = none → b ∈ X.fs → b ∉ ch → ∃ sl, h2.get? b = some { o with slots := sl } := fun b o e n hb hc => by
    obtain ⟨_, o1, e1, nf⟩ := stk.mem (b := b) (inFs b hb)
    rw [e] at e1; cases e1
    obtain ⟨sl, e2⟩ := un.slot b o e n (inFs b hb) hc
    obtain ⟨sl2, e3⟩ := up b _ e2 nf
    exact ⟨sl2, e3⟩
  have free1 : ∀ b o, X.s₀.heap.get? b = some o → X.H₀ b = none → H b = none := fun b o e n => I.base.free b o e n (noex b)
  refine ⟨x, C, dct, H', B, rfl, ho.trans I.os, hg, ⟨fun b o e n hb _ => ?_, fun b o e n hb _ => ?_, fun b o e n _ => ?_, fun b o e _ => ?_, fun b xs q => un.tups b xs (I.base.tups b xs q), fun b o u q => un.frzs b o u (I.base.frzs b o u q), fun b ps q => ?_⟩,
    fun b u e => (hok b u e).stay (fun c v hc q => F2.stays c v ?_) (fun _ q => q) fun _ _ q => q, F2.out, ⟨fun b o e nb o' e' => ?_, fun b u e o' e' => ?_⟩, nx, hE⟩
  · have e1 := I.base.keep b o e n hb (noex b)
    have e2 := un.keep b o e1 (free1 b o e n) (below b o e hb) (no0 b o e)
    exact F2.stays b o (ib b o e1 (below b o e hb) (no0 b o e) o e2)
  · obtain ⟨sl, e1⟩ := I.base.slot b o e n hb (noex b)
    obtain ⟨sl2, e2⟩ := slot2 b _ e1 (free1 b o e n) hb (no0 b o e)
    exact ⟨sl2, e2⟩
  · obtain ⟨o1, e1⟩ := I.base.there b o e (noex b)
    exact un.free b o1 e1 (free1 b o e n) (no0 b o e)
  · obtain ⟨o1, e1⟩ := I.base.there b o e (noex b)
    obtain ⟨o2, e2⟩ := un.there b o1 e1 (no0 b o e)
    by_cases hb : b ∈ X.fs
    · have n : H b = none := I.stkFree b (by rw [hst]; exact inFs b hb)
      obtain ⟨sl2, e3⟩ := slot2 b _ e1 n hb (no0 b o e)
      exact ⟨_, e3⟩
    · exact ⟨o2, F2.stays b o2 (ib b o1 e1 (below b o e hb) (no0 b o e) o2 e2)⟩
  · obtain ⟨m1, e1⟩ := I.base.tbls b ps q
    obtain ⟨m2, e2⟩ := un.tbls b _ e1
    exact ⟨m1 ++ m2, by rw [e2, Array.append_assoc]⟩
  · rcases hc with z | z
    · subst z; exact it c u e v q
    · exact it c _ z v q
  · obtain ⟨o1, e1⟩ := I.base.there b o e (noex b)
    obtain ⟨o2, e2⟩ := un.there b o1 e1 (no0 b o e)
    have q := ib b o1 e1 (below b o e nb) (no0 b o e) o2 e2
    rw [F2.stays b o2 q] at e'
    cases e'; exact q
  · obtain ⟨o1, e1⟩ := (hok b u e).there
    have q := it b u e o1 e1
    rw [F2.stays b o1 q] at e'
    cases e'; exact q
end
section
variable {prog : Program} {w : World} {A : Around} {R : Result → Shared → Prop} {s : Shared}
theorem compLoop_ownE {elt tg iter : Expr} {ifs : List Expr} {scope : Scope} {pos : Pos} {it acc : Value} {env : Env} (W : Nat → Shared → Prop)
    (turn : ∀ n s, W n s → wpAny (model prog w) A (pyNext it) (fun r s1 => match r with
      | none => R (.ok .next) s1
      | some v => wpAny (model prog w) A (letOwnedTupleGo tg it v) (fun _ s2 => wpAny (model prog w) A (assign tg env v) (fun _ s3 =>
          wpAny (model prog w) A (forIn ifs true fun c r => if r = true then do let ok ← isTrue c env (eval c env); pure (ForInStep.yield ok) else pure (ForInStep.yield r)) (fun ok s4 =>
            if ok = true then wpAny (model prog w) A (eval elt env) (fun x s5 => wpAny (model prog w) A (call (.builtin "list.append") [acc, x]) (fun _ s6 => ∃ m, m < n ∧ W m s6) (notedBy (model prog w) A env fun e s' => R (.error e) s') s5) (notedBy (model prog w) A env fun e s' => R (.error e) s') s4
            else ∃ m, m < n ∧ W m s4) (notedBy (model prog w) A env fun e s' => R (.error e) s') s3) (notedBy (model prog w) A env fun e s' => R (.error e) s') s2) (notedBy (model prog w) A env fun e s' => R (.error e) s') s1) (notedBy (model prog w) A env fun e s' => R (.error e) s') s)
    (n : Nat) (h : W n s) : codeAny (model prog w) A (.compLoop (.ListComp elt [⟨tg, iter, ifs, 0⟩] scope pos) 0 it acc env) R s := by
  refine codeAny_loop rfl W (fun n s hW => ?_) n h
  show wpAny _ A ((compTurn (.ListComp elt [⟨tg, iter, ifs, 0⟩] scope pos) 0 it acc env).onRaise (fun x => do noteFrame x env; theTreesLotGoes x)) _ _ s
  refine wpAny_noted ?_
  rw [compTurn_list]
  refine wpAny_bind (wpAny_standAt (wpAny_bind (thn (turn n s hW) fun r s1 h1 => ?_)))
  cases r with
  | none => exact wpAny_pure h1
  | some v =>
    refine wpAny_bind (thn h1 fun _ s2 h2 => wpAny_bind (thn h2 fun _ s3 h3 => wpAny_bind (thn h3 fun ok s4 h4 => ?_)))
    cases ok with
    | false => exact wpAny_pure ⟨rfl, h4⟩
    | true => exact wpAny_bind (wpAny_bind (thn h4 fun x s5 h5 => wpAny_bind (thn h5 fun _ s6 h6 => wpAny_pure (wpAny_pure ⟨rfl, h6⟩))))
end
theorem lc_runE {EX : XK} {X : Cx} {tg elt iter : Expr} {ifs : List Expr} {scope : Scope} {pos : Pos} {NY : List Str} {k : Nat} {g : TG} {tc : TT} {te : TE} (hc : X.calm = true) (lc : LC X k scope NY)
    (hb : ∀ (s₀ : Shared) (H₀ : Hp) (C : Addr) (ex : List Addr), NY.Nodup → PG (lcCx X scope NY s₀ H₀ C ex) tg g ∧ PTs (lcCx X scope NY s₀ H₀ C ex) ifs tc)
    (hel : ∀ (s₀ : Shared) (H₀ : Hp) (C : Addr) (ex : List Addr) (xe : Value → Shared → Prop), NY.Nodup → Passes (CXe X.prog X.w) ((lcCx X scope NY s₀ H₀ C ex).wish xe) EX → PE ((lcCx X scope NY s₀ H₀ C ex).wish xe) elt te)
    {pins : List (Addr × Obj)} {σ : St} {H2 : Hp} {s2 : Shared} {it : Addr} {fp : List Addr} {tn : Nat → Heap → Prop} {J : It} {RR : Value → Addr → Result → Shared → Prop} {E : Value → Shared → Prop} {Fin : List V → Hp → Prop}
    (I2 : Inv X pins σ H2 s2) (T : Turn X.prog X.w X.K tg J fp it tn) (st2 : tn 0 s2.heap) (f2 : ∀ b ∈ fp, FpOk X pins H2 b) {W : Nat → Nat → List V → Hp → Prop} {m0 : Nat} (w0 : W 0 m0 [] H2)
    (turn : ∀ i m ys H, W i m ys H → ys.length < sizeLine ∧ ((J.stop i H ∧ Fin ys H) ∨ (J.go i H ∧ ∃ N : List V → Hp → Prop, (∀ ys' H', N ys' H' → ∃ m', m' < m ∧ W (i + 1) m' ys' H') ∧
      ∀ v H', J.yld i H v H' → g v (List.replicate k none ++ σ) H' fun σ2 H2 => SubSt (List.replicate k none ++ σ) σ2 ∧ tc σ2 H2 fun b H3 => if b = true then te σ2 H3 fun y H4 => N (ys ++ [y]) H4 else N ys H3)))
    (pass : ∀ C D : Addr, s2.heap.objs.size ≤ C → Passes (CXe X.prog X.w) ((lcCx X scope NY s2 H2 C fp).wish (notedBy (model X.prog X.w) X.A (compEnvC scope (clos X.env scope.names) C X.env) fun e s' => RR (.ref D) C (.error e) s')) EX)
    (fin : ∀ (C D : Addr) (H4 : Hp) (s4 : Shared) (ys : List V) (m : Str → Option Value), s2.heap.objs.size ≤ C → H4 D = none → H4 C = none → D ≠ C → s4.heap.Ns C m → Inv X pins σ (upd H4 D (.lst ys)) s4 → Fin ys H4 → RR (.ref D) C (.ok .next) s4) :
    wpAny (model X.prog X.w) X.A (newList []) (fun acc s3 => wpAny (model X.prog X.w) X.A (newFunctionEnv scope X.env.globals (clos X.env scope.names) [] X.env.qual none .none (some X.env)) (fun cenv s4 =>
      codeAny (model X.prog X.w) X.A (.compStart (.ListComp elt [⟨tg, iter, ifs, 0⟩] scope pos) 0 (.ref it) acc { cenv with scope := relabel scope X.env }) (RR acc cenv.locals) s4) E s3) E s2 := by
  refine wpAny_newObj_type (wpAny_newFunctionEnv lc.cells (by intro y hy; simp at hy) (fun h1 hns1 hsb1 => ?_) lc.kind)
  dsimp only at hns1 hsb1 ⊢
  generalize hG : s2.heap.push { cls := .type "list", dict := none, data := .seq ([] : List Value).toArray } = G at hns1 hsb1 ⊢
  have hC : G.objs.size = s2.heap.objs.size + 1 := by rw [← hG, Heap.size_push]
  have hCle : s2.heap.objs.size ≤ G.objs.size := by omega
  have hDC : s2.heap.objs.size ≠ G.objs.size := by omega
  have hfl : ∀ b ∈ fp, b < s2.heap.objs.size := fun b hb => by obtain ⟨o, e, _⟩ := T.obj 0 _ st2 b hb; exact Heap.lt_size e
  have old : ∀ b o, s2.heap.get? b = some o → h1.get? b = some o := fun b o e => by
    have lt := Heap.lt_size e
    refine hsb1.extBut b o (Nat.ne_of_lt (Nat.lt_of_lt_of_le lt hCle)) (Heap.get?_push_of_some _ ?_)
    rw [← hG]; exact Heap.get?_push_of_some _ e
  have hacc : h1.get? s2.heap.objs.size = some (LCg.lst []) := by
    refine hsb1.extBut _ _ hDC (Heap.get?_push_of_some _ ?_)
    rw [← hG]; exact Heap.get?_push_size _ rfl
  have dl : ∀ (us : List Value) v, (LCg.lst us).data ≠ .cell v := fun us v z => by
    have z' : Data.seq us.toArray us.length = Data.cell v := z
    cases z'
  have I3 := lc_start (h1 := h1) (tk := s2.toks + ([] : List (Str × Value)).length) I2 lc f2 hfl hCle (Nat.le_refl _) hDC old hns1 hacc (dl [])
  have fpY : ∀ {us : List Value} {H' : Hp}, (∀ b ∈ fp, H' b = none) → ∀ b ∈ fp, FpOk (lcCx X scope NY s2 H2 G.objs.size fp) [(s2.heap.objs.size, LCg.lst us)] H' b := fun {us H'} hn b hb => by
    have lt := hfl b hb
    have okY := I3.ok
    refine ⟨hn b hb, (okY.exf b hb).1, okY.exfs b hb, .inl hb, (okY.exf b hb).2, fun p hp => ?_⟩
    have e : p = (s2.heap.objs.size, LCg.lst us) := by simpa [lcCx] using hp
    subst e
    exact Nat.ne_of_gt lt
  obtain ⟨hg, ht⟩ := hb s2 H2 G.objs.size fp lc.nd
  have he := hel s2 H2 G.objs.size fp _ lc.nd (pass G.objs.size s2.heap.objs.size hCle)
  have loop : ∀ s3 : Shared, s3 = { s2 with heap := h1, toks := s2.toks + ([] : List (Str × Value)).length } →
      codeAny (model X.prog X.w) X.A (.compLoop (.ListComp elt [⟨tg, iter, ifs, 0⟩] scope pos) 0 (.ref it) (.ref s2.heap.objs.size) (compEnvC scope (clos X.env scope.names) G.objs.size X.env)) (RR (.ref s2.heap.objs.size) G.objs.size) s3 := by
    rintro s3 rfl
    refine compLoop_ownE (fun n s' => ∃ i H' ys us, Inv (lcCx X scope NY s2 H2 G.objs.size fp) [(s2.heap.objs.size, LCg.lst us)] (List.replicate k none ++ σ) H' s' ∧ Vals ys us ∧ tn i s'.heap ∧ (∀ b ∈ fp, H' b = none) ∧ W i n ys H') ?_ m0
      ⟨0, H2, [], [], I3, .nil, T.keep _ _ _ st2 fun b _ o e => old b o e, fun b hb => (f2 b hb).1, w0⟩
    rintro n s3 ⟨i, H3, ys, us, I3, rv, st3, fr3, w3⟩
    obtain ⟨hsz, hturn⟩ := turn i n ys H3 w3
    rcases hturn with ⟨stop, qn⟩ | ⟨go, N, hN, step⟩
    · refine thn (T.done (lcCx X scope NY s2 H2 G.objs.size fp) rfl rfl rfl hc i _ s3 _ H3 _ I3 (fpY fr3) st3 stop) fun r s4 ⟨hr, I4⟩ => ?_
      subst hr
      obtain ⟨m4, hn4, _⟩ := I4.loc
      exact fin _ _ H3 s4 ys m4 hCle (I4.pin (s2.heap.objs.size, LCg.lst us) (by simp)).2.1 I4.free hDC hn4 (lc_out I2 f2 hCle (Nat.le_refl _) I4 rv (Nat.le_of_lt hsz)) qn
    · refine thn (T.item (lcCx X scope NY s2 H2 G.objs.size fp) rfl rfl rfl hc i _ s3 _ H3 _ I3 (fpY fr3) st3 go) fun r s4 ⟨u, hr, h4⟩ => ?_
      subst hr
      refine thn h4 fun _ s5 ⟨x, H5, I5, r5, y5, st5, fr5⟩ => ?_
      have I5' := I5.pinned (fpY fr5) (T.obj _ _ st5)
      refine thnF (hg _ s5 _ H5 x u _ I5' r5 (step x H5 y5)) fun _ s6 ⟨σ6, H6, I6, sub6, q6⟩ => ?_
      have keep : ∀ {σ7 : St} {H7 : Hp} {s7 : Shared}, Inv (lcCx X scope NY s2 H2 G.objs.size fp) ([(s2.heap.objs.size, LCg.lst us)] ++ pinsAt fp s5.heap) σ7 H7 s7 → tn (i + 1) s7.heap ∧ (∀ b ∈ fp, H7 b = none) := fun {σ7 H7 s7} I7 => by
        refine ⟨T.keep _ _ _ st5 fun b hb o e => (I7.pin (b, o) (List.mem_append_right _ (List.mem_append_right _ (mem_pinsAt hb e)))).1, fun b hb => ?_⟩
        obtain ⟨o, e, d⟩ := T.obj _ _ st5 b hb
        exact (I7.pin (b, o) (List.mem_append_right _ (List.mem_append_right _ (mem_pinsAt hb e)))).2.1
      refine thnF (ht _ s6 σ6 H6 _ I6 q6) fun ok s7 ⟨H7, I7, q7⟩ => ?_
      cases ok with
      | false =>
        rw [if_neg Bool.false_ne_true] at q7 ⊢
        obtain ⟨m', hm, w7⟩ := hN _ _ q7
        obtain ⟨k1, k2⟩ := keep I7
        exact ⟨m', hm, i + 1, H7, ys, us, (I7.weak (by rw [I7.len, I5.len]) sub6.2).unpinned, rv, k1, k2, w7⟩
      | true =>
        rw [if_pos rfl] at q7 ⊢
        refine thn (he _ s7 σ6 H7 _ (I7.wish _) q7) fun y s8 ⟨v, H8, I8w, r8, q8⟩ => ?_
        have I8 := I8w.unwish
        obtain ⟨m', hm, w8⟩ := hN _ _ q8
        obtain ⟨k1, k2⟩ := keep I8
        obtain ⟨pD, nD, neD, nfD, dD⟩ := I8.pin (s2.heap.objs.size, LCg.lst us) (by simp)
        have hul : us.toArray.size ≤ sizeLine := by rw [List.size_toArray, ← rv.length]; exact Nat.le_of_lt hsz
        refine append_at pD (fun h9 sb9 hD9 => ?_) hul
        have I8' : Inv (lcCx X scope NY s2 H2 G.objs.size fp) [] (List.replicate k none ++ σ) H8 s8 := (I8.weak (by rw [I8.len, I5.len]) sub6.2).pins_of fun p hp => absurd hp (by simp)
        have hDfp : s2.heap.objs.size ∉ fp := fun z => Nat.lt_irrefl _ (hfl _ z)
        have I9 : Inv (lcCx X scope NY s2 H2 G.objs.size fp) [] (List.replicate k none ++ σ) H8 { s8 with heap := h9 } :=
          I8'.turned (t' := s8.toks) (it := s2.heap.objs.size) (fun b o hb e => (sb9.2 b hb).trans e) nD neD (.inr (Nat.le_refl _)) (fun x c e z => by
            obtain ⟨v', o', e1, e2⟩ := I8.cell x c e
            rw [z, pD] at e1
            have e1' : LCg.lst us = o' := Option.some.inj e1
            rw [← e1'] at e2
            exact dl us v' e2) (fun p hp => absurd hp (by simp [lcCx]))
        refine ⟨m', hm, i + 1, H8, ys ++ [v], us ++ [y], I9.pins_of fun p hp => ?_, rv.append (.cons r8 .nil), T.keep _ _ _ k1 fun b hb o e => (sb9.2 b fun z => hDfp (z ▸ hb)).trans e, k2, w8⟩
        have e : p = (s2.heap.objs.size, LCg.lst (us ++ [y])) := by simpa using hp
        subst e
        exact ⟨hD9.trans (congrArg some (LCg.lst_snoc us y)), nD, neD, nfD, dl _⟩
  exact codeAny_compStart_list (loop _ rfl) (T.self _ 0 _ _ _ (T.keep _ _ _ st2 fun b _ o e => old b o e) (loop _ rfl))
theorem FunFrames.rebase {h h' base base' : Heap} (hb : ∀ b, base.get? b = none → base'.get? b = none) : ∀ {l : List Env}, (∀ L ∈ frs l, h'.get? L = h.get? L) → h.FunFrames base l → h'.FunFrames base' l
  | [], _, _ => trivial
  | env :: rest, hk, ⟨h1, ⟨L, o, h2, h3, h4, h5⟩, h6⟩ => by
    have m : ∀ b, b ∈ frs rest → b ∈ frs (env :: rest) := fun b q => by
      unfold frs at q ⊢
      rw [List.filterMap_cons, h2]
      exact List.mem_cons_of_mem _ q
    have mL : L ∈ frs (env :: rest) := by
      unfold frs
      rw [List.filterMap_cons, h2]
      exact List.mem_cons_self
    exact ⟨h1, ⟨L, o, h2, hb L h3, (hk L mL).trans h4, h5⟩, FunFrames.rebase hb (fun b q => hk b (m b q)) h6⟩
section
variable {X : Cx} {pins : List (Addr × Obj)} {σ : St} {H2 : Hp} {s2 : Shared} {scope : Scope} {NY : List Str} {C : Addr} {fp : List Addr} {E : XK} {QQ : Value → Shared → Prop} {acc : Value}
theorem lc_pass (I2 : Inv X pins σ H2 s2) (f2 : ∀ b ∈ fp, FpOk X pins H2 b) (hC : s2.heap.objs.size ≤ C) (hst : X.stack = X.env :: X.outer) (hf : X.env.frame = some X.env.locals) (hex : X.ex = [])
    (hxe : ∀ x s', wpAny (model X.prog X.w) X.A (leaving X.env (.ref x)) (fun _ s2 => CXe X.prog X.w X.outer X.H₀ X.s₀ E (.ref x) s2) (fun e' s2 => CXe X.prog X.w X.outer X.H₀ X.s₀ E e' s2) s' → X.xe (.ref x) s') :
    Passes (CXe X.prog X.w) ((lcCx X scope NY s2 H2 C fp).wish (notedBy (model X.prog X.w) X.A (compEnvC scope (clos X.env scope.names) C X.env) fun e s' => compPost (model X.prog X.w) X.A X.xe none QQ acc C (.error e) s')) E := by
  intro pinsY σY HY sY e s' IY h
  have IY' : Inv (lcCx X scope NY s2 H2 C fp) pinsY σY HY sY := IY.unwish
  have u0 : Un (frs X.stack) fp H2 HY s2.heap sY.heap := IY'.base
  have IX : Inv X pins σ HY sY := I2.call' (ch := fp) IY'.os u0 IY'.hok IY'.bare fun b hb => ⟨(f2 b hb).2.2.2.1, (f2 b hb).2.1, (f2 b hb).2.2.2.2.1, (f2 b hb).2.2.2.2.2⟩
  obtain ⟨x, Cc, dct, H', B, rfl, ho, hg, un, hok, F, ib, nx, hE⟩ := h
  have un : Un (frs X.stack) [] HY H' sY.heap s'.heap := un
  have F : Fly B X.stack x (.ref Cc) dct .none s'.heap := F
  have ib : InB B (frs X.stack) sY.heap H' s'.heap := ib
  obtain ⟨m, hn, _⟩ := IY'.loc
  have hCfree : HY C = none := IY'.free
  have hCf : C ∉ frs X.stack := fun z => by
    rcases List.mem_cons.mp (I2.stkSub C z) with q | q
    · exact absurd (Nat.lt_of_lt_of_le I2.lt hC) (by rw [q]; exact Nat.lt_irrefl _)
    · exact I2.nofs hC q
  have hC0 : X.s₀.heap.objs.size ≤ C := Nat.le_trans I2.sz hC
  obtain ⟨oC, es, ep, eC, dC, rC⟩ := id hn
  have eC : sY.heap.get? C = some oC := eC
  have eC' : s'.heap.get? C = some oC := un.keep C oC eC hCfree hCf (by simp)
  have bC : B.get? C = some oC := ib.old C oC eC hCf oC eC'
  have nC : H' C = none := un.free C oC eC hCfree (by simp)
  have hfr : X.A.frames = some (X.env :: X.outer) := by rw [← hst]; exact IX.ok.frames
  have F' : Fly B (X.env :: X.outer) x (.ref Cc) dct .none s'.heap := by rw [← hst]; exact F
  have toB : ∀ b o, B.get? b = some o → b ≠ C → (PySem.W.hideAll B [C]).get? b = some o := fun b o e n => PySem.W.hideAll_get _ e (by simpa using n)
  have noB : ∀ b, B.get? b = none → (PySem.W.hideAll B [C]).get? b = none := fun b e => by
    cases q : (PySem.W.hideAll B [C]).get? b with
    | none => rfl
    | some o => have := PySem.W.of_hideAll _ q; rw [e] at this; cases this
  have notC : ∀ b o, (PySem.W.hideAll B [C]).get? b = some o → b ≠ C := fun b o e z => by
    rw [z, PySem.W.hideAll_none [C] (by simp)] at e; cases e
  show wpAny (model X.prog X.w) X.A (noteFrame (.ref x) (compEnvC scope (clos X.env scope.names) C X.env)) _ _ s'
  rw [show noteFrame (.ref x) (compEnvC scope (clos X.env scope.names) C X.env) = noteFrame (.ref x) X.env from noteFrame_congr rfl]
  refine fly_any hfr hf F' fun h1 fl1 F1 u1 => ?_
  refine ⟨m, ⟨oC, es, ep, F1.stays C oC bC, dC, rC⟩, fun h2 sb cenv hcenv => ?_⟩
  have sb2 : ∀ b, b ≠ C → h2.get? b = h1.get? b := sb.2
  have F2 : Fly (PySem.W.hideAll B [C]) (X.env :: X.outer) x (.ref Cc) dct fl1 h2 := by
    obtain ⟨ox, vs, T, oT, ts, ex, hc, hd, dx, v1, nT, Tx, eT, dT, t3⟩ := F1.obj
    have nf : ∀ us, oC.data ≠ .fields us := fun us z => by rw [dC] at z; cases z
    have xC : C ≠ x := other_rec ex dx (F1.stays C oC bC) nf
    have TC : C ≠ T := other_rec eT dT (F1.stays C oC bC) nf
    refine ⟨fun b o eb => (sb2 b (notC b o eb)).trans (F1.stays b o (PySem.W.of_hideAll _ eb)), noB x F1.new, FunFrames.rebase noB (fun L hL => sb2 L fun z => hCf (by rw [hst, ← z]; exact hL)) F1.frames,
      ox, vs, T, oT, ts, (sb2 x (Ne.symm xC)).trans ex, hc, hd, dx, v1, noB T nT, Tx, (sb2 T (Ne.symm TC)).trans eT, dT, t3⟩
  refine fly_pass (s := { s' with heap := h2 }) F2 fun h3 fl3 F3 u3 => hxe x _ ?_
  have to3 : ∀ b o, B.get? b = some o → b ≠ C → h3.get? b = some o := fun b o e n => F3.stays b o (toB b o e n)
  have sl3 : ∀ b o, s'.heap.get? b = some o → (∀ us, o.data ≠ .fields us) → b ≠ C → ∃ sl, h3.get? b = some { o with slots := sl } := fun b o e nf n => by
    obtain ⟨sl, e1⟩ := u1 b o e nf
    obtain ⟨sl2, e2⟩ := u3 b _ ((sb2 b n).trans e1) nf
    exact ⟨sl2, e2⟩
  have ne1 : ∀ b, b ∉ [C] → b ≠ C := fun b h z => h (by simp [z])
  have neT : ∀ b u, H' b = some u → b ≠ C := fun b u e z => by rw [z, nC] at e; cases e
  refine leave_any (ch := [C]) (fl := fl3) (B := PySem.W.hideAll B [C]) (s' := { s' with heap := h3 }) IX hst hf hex (fun b hb => by rw [List.mem_singleton.mp hb]; exact hC0) ho hg
    ⟨fun b o e n nf nc => ?_, fun b o e n hb nc => ?_, fun b o e n nc => un.free b o e n (by simp), fun b o e nc => ?_, un.tups, un.frzs, un.tbls⟩
    (fun b u e => (hok b u e).stay (fun c v hc q => ?_) (fun _ q => q) fun _ _ q => q) (by rw [hst]; exact F3) (fun b o e nf nc o' e' => ?_) (fun b u e o' e' => ?_) nx hE
  · exact to3 b o (ib.old b o e nf o (un.keep b o e n nf (by simp))) (ne1 b nc)
  · obtain ⟨_, o1, e1, nf⟩ := IX.stack.mem (b := b) hb
    rw [e] at e1; cases e1
    obtain ⟨sl, e2⟩ := un.slot b o e n hb (by simp)
    obtain ⟨sl2, e3⟩ := sl3 b _ e2 nf (ne1 b nc)
    exact ⟨sl2, e3⟩
  · obtain ⟨o2, e2⟩ := un.there b o e (by simp)
    by_cases hb : b ∈ frs X.stack
    · obtain ⟨_, o1, e1, nf⟩ := IX.stack.mem (b := b) hb
      rw [e] at e1; cases e1
      obtain ⟨sl, e2⟩ := un.slot b o e (IX.stkFree b hb) hb (by simp)
      obtain ⟨sl2, e3⟩ := sl3 b _ e2 nf (ne1 b nc)
      exact ⟨_, e3⟩
    · exact ⟨o2, to3 b o2 (ib.old b o e hb o2 e2) (ne1 b nc)⟩
  · rcases hc with z | z
    · subst z; exact to3 c v (ib.trk c u e v q) (neT c u e)
    · exact to3 c v (ib.trk c _ z v q) (neT c _ z)
  · obtain ⟨o2, e2⟩ := un.there b o e (by simp)
    have q := ib.old b o e nf o2 e2
    have q3 : h3.get? b = some o2 := to3 b o2 q (ne1 b nc)
    rw [show ({ s' with heap := h3 } : Shared).heap.get? b = h3.get? b from rfl, q3] at e'
    cases e'; exact toB b _ q (ne1 b nc)
  · obtain ⟨o1, e1⟩ := (hok b u e).there
    have q := ib.trk b u e o1 e1
    have q3 : h3.get? b = some o1 := to3 b o1 q (neT b u e)
    rw [show ({ s' with heap := h3 } : Shared).heap.get? b = h3.get? b from rfl, q3] at e'
    cases e'; exact toB b _ q (neT b u e)
end
section
variable {X : Cx} {tg elt iter : Expr} {ifs : List Expr} {scope : Scope} {pos : Pos} {NY : List Str} {k : Nat} {wi : TI} {g : TG} {tc : TT} {te : TE} {E : XK}
theorem pe_lcE (hc : X.calm = true) (hst : X.stack = X.env :: X.outer) (hf : X.env.frame = some X.env.locals) (hex : X.ex = [])
    (hxe : ∀ x s', wpAny (model X.prog X.w) X.A (leaving X.env (.ref x)) (fun _ s2 => CXe X.prog X.w X.outer X.H₀ X.s₀ E (.ref x) s2) (fun e' s2 => CXe X.prog X.w X.outer X.H₀ X.s₀ E e' s2) s' → X.xe (.ref x) s') (lc : LC X k scope NY) (hi : PI X tg iter wi)
    (hb : ∀ (s₀ : Shared) (H₀ : Hp) (C : Addr) (ex : List Addr), NY.Nodup → PG (lcCx X scope NY s₀ H₀ C ex) tg g ∧ PTs (lcCx X scope NY s₀ H₀ C ex) ifs tc)
    (hel : ∀ (s₀ : Shared) (H₀ : Hp) (C : Addr) (ex : List Addr) (xe : Value → Shared → Prop), NY.Nodup → Passes (CXe X.prog X.w) ((lcCx X scope NY s₀ H₀ C ex).wish xe) E → PE ((lcCx X scope NY s₀ H₀ C ex).wish xe) elt te)
    (hs : ∀ x, foldedSetIterable iter X.env x = pure x := by intro _; rfl) : PE X (.ListComp elt [⟨tg, iter, ifs, 0⟩] scope pos) (tLC k wi g tc te) := by
  intro pins s σ H Q I h
  rw [eval_ListComp]
  refine wpAny_comprehension_free (use := none) rfl hs (clos_eq fun x hx e => I.ok.has x.1 (lc.free x hx e)) lc.kind lc.names (thn (hi pins s σ H _ I h) fun v s1 h1 => thn h1 fun itv s2 h2 => ?_)
  obtain ⟨it, fp, tn, J, H2, e, I2, T, st2, f2, W, ⟨m0, w0⟩, turn⟩ := h2
  subst e
  refine lc_runE (EX := E) (RR := fun acc C => compPost (model X.prog X.w) X.A X.xe none (EP X pins σ Q) acc C) hc lc hb hel I2 T st2 f2 w0 turn (fun C D hC => lc_pass I2 f2 hC hst hf hex hxe) fun C D H4 s4 ys m hC nD nC hDC hn I4 q => ?_
  refine ⟨m, hn, fun h' sb => ?_⟩
  have hCn : upd H4 D (.lst ys) C = none := by rw [upd_ne (Ne.symm hDC)]; exact nC
  obtain ⟨f0, f1, f2', f3, f4, f5⟩ := I2.fpOk (H' := upd H4 D (.lst ys)) hC hCn
  exact ⟨.ref D, _, I4.turned (t' := s4.toks) (fun b o hb e => (sb.2 b hb).trans e) f0 f1 f3 f4 f5, rfl, q D nD⟩
end
end L2
end
section
set_option Elab.async false
set_option linter.all false
set_option maxRecDepth 100000
namespace DL
open PySem L2 PyProof.Rows
section
variable {X : Cx} {E : XK} {K : PySem.W.Frag} {mg : Str → Option Value} {p pos : Pos} {e : Expr} {es : List Expr} {fs : DSt → R (List D)}
def rSplit : V → List V → Hp → VK → Prop := fun x vs H Q => ∃ a b, x = .str a ∧ vs = [.str b] ∧ (b.length == 0) = false ∧ a.length + 2 ≤ sizeLine ∧ ∀ p, H p = none → Q (.ref p) (upd H p (.lst ((Txt.split a b).map V.str)))
theorem split_len (x y : Str) : (Txt.split x y).length ≤ x.length + 2 := by
  unfold Txt.split
  split
  · exact Nat.succ_le_of_lt (by simp)
  · split
    · exact Nat.succ_le_of_lt (by simp)
    · have e1 := StrLaws.occ_length_le x y 0 x.length (x.length + 1)
      rw [length_partsBetween]; omega
theorem mt_split : MtM X "str.split" rSplit := by
  intro pins s σ H x vs v us Q I rx rv h
  obtain ⟨a, b, rfl, rfl, hy, hz, q⟩ := h
  obtain ⟨t, rfl⟩ := rx
  obtain ⟨u, rfl, ru⟩ := rv.one
  obtain ⟨tb, rfl⟩ := ru
  have fin : ∀ (l : List (Str × Tok)) (tk : Nat), l.map (·.1) = Txt.split a b → EP X pins σ Q (.ref s.heap.objs.size) { s with heap := s.heap.push { cls := .type "list", data := .seq (strValues l).toArray }, toks := tk } := fun l tk e => by
    have hf : H s.heap.objs.size = none := I.hok.fresh (Nat.le_refl _)
    refine ⟨.ref s.heap.objs.size, upd H s.heap.objs.size (.lst ((Txt.split a b).map V.str)), I.laid (t' := tk) (fun b u e => Heap.get?_push_of_some _ e) (Nat.le_refl _) ?_, rfl, q _ hf⟩
    refine ⟨by rw [List.length_map]; exact Nat.le_trans (split_len a b) hz, strValues l, 0, by rw [← e, List.map_map]; exact vals_of_strs l, Heap.get?_push_size _ rfl⟩
  have hn : (Builtin.Str.partsBetween a (Builtin.Str.occurrences a b 0 a.length (a.length + 1)) b.length).length ≤ sizeLine := by
    have e1 := StrLaws.occ_length_le a b 0 a.length (a.length + 1)
    rw [length_partsBetween]; omega
  cases h1 : (decide (a.length < b.length) || decide (Builtin.Str.strKind a < Builtin.Str.strKind b))
  · cases hf : (Builtin.Str.occurrences a b 0 a.length (a.length + 1)).isEmpty
    · refine call_meets F.slot_str_split (typeIs_str _ _ _) F.entry_str_split (F.args_str_split_2 _ _) (meets_str_split_sep a b t tb h1 hy hf (by omega) hn) ?_
      show wants _ _ _ { s with toks := _, heap := s.heap.push { cls := .type "list", data := .seq (strsFrom s.toks (Builtin.Str.partsBetween a (Builtin.Str.occurrences a b 0 a.length (a.length + 1)) b.length)).toArray } }
      rw [strsFrom_eq]
      exact fin (numbered s.toks _) _ ((numbered_texts _ _).trans ((if_neg (ne_true_of_eq_false h1)).trans (if_neg (ne_true_of_eq_false hf))).symm)
    · exact call_meets F.slot_str_split (typeIs_str _ _ _) F.entry_str_split (F.args_str_split_2 _ _) (meets_str_split_not_found a b t tb h1 hy hf) (fin [(a, t)] s.toks ((if_neg (ne_true_of_eq_false h1)).trans (if_pos hf)).symm)
  · exact call_meets F.slot_str_split (typeIs_str _ _ _) F.entry_str_split (F.args_str_split_2 _ _) (meets_str_split_cannot_occur a b t tb h1) (fin [(a, t)] s.toks (if_pos h1).symm)
def splitD : D → D → R (List D)
  | .str x, .str y => bif (!(y.length == 0)) && le24 (x.length + 2) then .ok ((Txt.split x y).map D.str) else .bad
  | _, _ => .bad
def splitE (fe : DSt → R D) (σ : DSt) : D → R (List D)
  | .str z => (fe σ).bind fun d => splitD (.str z) d
  | _ => .bad
def eSplit (fo fe : DSt → R D) : DSt → R (List D) := fun σ => (fo σ).bind fun z => splitE fe σ z
theorem reps_strs {G : Hp} : ∀ ys : List Str, Reps K mg G (ys.map D.str) (ys.map V.str)
  | [] => Reps.nil
  | _ :: ys => Reps.cons rfl (reps_strs ys)
theorem df_split {o e : Expr} {fo fe : DSt → R D} {apos cpos : Pos} (ho : DE X E o fo) (he : DE X E e fe)
    (hbase : attributeBase o "split" X.env (eval o X.env) = eval o X.env := by rfl)
    (hfew : ((backTo cpos (starEach [e] X.env)).all (fun x => !x.1) && (backToKw cpos (keywordEach [] X.env)).all (fun x => x.1.isSome) && decide ([e].length + ([] : List Keyword).length + (if ([] : List Keyword).isEmpty then 0 else 1) < 30)) = true := by rfl)
    (hline : (apos.endLine == cpos.line) = true := by rfl) (hs : starEach [e] X.env = (false, eval e X.env) :: starEach [] X.env := by rfl) (hplain : (backTo cpos (starEach [] X.env)).any (·.1) = false := by rfl) :
    DF X E (.Call (.Attribute o "split" apos) [e] [] cpos) (eSplit fo fe) := by
  refine PE.mono' (pe_bm PySem.F.plainAttrs_str PySem.F.slot_str_split PySem.F.type_str_split mt_split ho (da_cons he da_nil hs) hbase hfew hline hs hplain) fun σ H Q ⟨G, σd, ok, q⟩ => ?_
  refine tE_then (P := AfterF X.K X.mg Q) ok q fun z x G1 H1 s1 ok1 r1 q1 => ?_
  cases z with
  | str y =>
    cases r1
    refine ⟨rfl, G1, σd, ok1, (show RW ((aCons fe aNil) σd) _ _ from ?_)⟩
    unfold aCons
    have q2 := (show RW ((fe σd).bind fun d => splitD (.str y) d) _ _ from q1).of_bind
    cases hf : fe σd with
    | bad => rw [hf] at q2; exact q2.elim
    | err e => rw [hf] at q2; exact (show AfterX X.K X.mg E G1 H1 e from q2)
    | ok d =>
      rw [hf] at q2
      have q3 : RW (splitD (.str y) d) (AfterF X.K X.mg Q G H) (AfterX X.K X.mg E G1 H1) := q2
      rintro ws G2 H2 s2 ⟨v, _, e1, r3, r4⟩
      subst e1
      cases r4
      cases d with
      | str z =>
        cases r3
        cases hC : ((!(z.length == 0)) && le24 (y.length + 2)) with
        | false => simp only [splitD, hC, cond_false] at q3; exact q3.elim
        | true =>
          simp only [splitD, hC, cond_true] at q3
          rw [Bool.and_eq_true, Bool.not_eq_true'] at hC
          refine ⟨y, z, rfl, rfl, hC.1, of_decide_eq_true hC.2, fun p hp => ?_⟩
          have st := s1.trans s2
          have sp := Step.hid (o := .lst ((Txt.split y z).map V.str)) s2.e hp
          exact (show AfterF X.K X.mg Q G H ((Txt.split y z).map D.str) from q3) p _ G2 _ (st.trans sp) (st.h.free hp) upd_same (s2.e.free hp) (reps_strs _)
      | _ => exact (show False from q3).elim
  | _ => exact (show False from q1).elim
theorem call_intT : CallR X (.type "int") (fun xs H Q => ∃ x n, xs = [.str x] ∧ x.length ≤ 640 ∧ PySem.intText? x = some n ∧ Q (.int n) H) := by
  intro pins s σ H xs us Q I r h
  obtain ⟨x, n, rfl, hl, hn, q⟩ := h
  obtain ⟨u, rfl, t, rfl⟩ := vals1 r
  exact call_int_1 (PySem.W.KIN.gives_text hl hn).meets ⟨typeIs_int _ _ _, .int n, H, I.tok _, ⟨_, rfl⟩, q⟩
def intT1 : D → R D
  | .str x => match PySem.intText? x with
    | some n => bif decide (x.length ≤ 640) then .ok (.int n) else .bad
    | none => .bad
  | _ => .bad
abbrev gIntT := g1 intT1
theorem cd_intT : CallD K mg (fun xs H Q => ∃ x n, xs = [.str x] ∧ x.length ≤ 640 ∧ PySem.intText? x = some n ∧ Q (.int n) H) gIntT := cd1 fun G H d v Q e r q => by
  cases d with
  | str x =>
    cases r
    cases hT : PySem.intText? x with
    | none => simp only [intT1, hT] at q; exact q.elim
    | some n =>
      cases hC : decide (x.length ≤ 640) with
      | false => simp only [intT1, hT, hC, cond_false] at q; exact q.elim
      | true => simp only [intT1, hT, hC, cond_true] at q; exact ⟨x, n, rfl, of_decide_eq_true hC, hT, After.now q e rfl⟩
  | _ => exact (show False from q).elim
theorem de_intT (hm : X.mg "int" = none) (ha : DA X E (e :: es) fs) (hg : Gl X "int" := by rfl) (he : starEach (e :: es) X.env = (false, eval e X.env) :: starEach es X.env := by rfl) (hpl : (backTo pos (starEach es X.env)).any (·.1) = false := by rfl) : DE X E (.Call (.Name "int" p) (e :: es) [] pos) (eBlt gIntT fs) :=
  de_bty call_intT cd_intT hm ha bt_int hg (by decide) (by decide) he hpl
end
end DL
end
section
set_option Elab.async false
set_option linter.all false
set_option maxRecDepth 100000
namespace DL
open PySem L2 PyProof.Rows
def lcX (ks : List Nat) (gp : D → R (List D)) (e : DSt → R D) (σ : DSt) : List D → R (List D)
  | [] => .ok []
  | d :: ds => (gp d).noerr.bind fun us => (e (setAll σ ks us)).bind fun y => (lcX ks gp e σ ds).bind fun ys => .ok (y :: ys)
def eLCX (k : Nat) (ks : List Nat) (fi : DSt → R (List D)) (gp : D → R (List D)) (e : DSt → R D) : DSt → R (List D) := fun σ => (fi σ).bind fun ds => bif most ds.length then lcX ks gp e (List.replicate k none ++ σ) ds else .bad
section
variable {X : Cx} {E : XK} {tg elt iter : Expr} {scope : Scope} {pos : Pos} {NY : List Str} {k : Nat} {ks : List Nat} {fi : DSt → R (List D)} {gp : D → R (List D)} {fe : DSt → R D}
theorem tLC_ofX (hk : ks.all (fun i => decide (i < k)) = true) {σ : L2.St} {H : Hp} {Q : VK}
    (h : tFr X.K X.mg E (eLCX k ks fi gp fe) σ H Q) : tLC k (tI X.K X.mg E fi) (tG X.K X.mg ks gp) (tT X.K X.mg E0 eTrue) (tE X.K X.mg E fe) σ H Q := by
  obtain ⟨G, σd, ok, q⟩ := h
  refine ⟨G, σd, ok, q.of_bind.mono (fun ds _ z J G1 H1 s1 it => ?_) fun _ z => z⟩
  cases hm : most ds.length with
  | false => rw [hm] at z; exact (show False from z).elim
  | true =>
    rw [hm] at z
    have z : RW (lcX ks gp fe (List.replicate k none ++ σd) ds) (AfterF X.K X.mg Q G H) (AfterX X.K X.mg E G H) := z
    have hlt : ds.length < sizeLine := of_decide_eq_true hm
    have ok1 := ok.step s1
    refine ⟨fun i m ys H' => m = ds.length - i ∧ i ≤ ds.length ∧ ∃ G' yd, Step G1 H1 G' H' ∧ Reps X.K X.mg G' yd ys ∧ yd.length ≤ i ∧ RW (lcX ks gp fe (List.replicate k none ++ σd) (ds.drop i)) (fun rest => AfterF X.K X.mg Q G H (yd ++ rest)) (AfterX X.K X.mg E G H),
      ⟨ds.length, by simp, Nat.zero_le _, G1, [], .refl ok1.ext, Reps.nil, Nat.zero_le _, z⟩, ?_⟩
    rintro i m ys H' ⟨rfl, hi, G', yd, s, r, hyl, hr⟩
    refine ⟨by rw [← r.length]; omega, ?_⟩
    by_cases hlt2 : i < ds.length
    · right
      obtain ⟨d, hd⟩ : ∃ d, ds[i]? = some d := ⟨ds[i], by simp [hlt2]⟩
      obtain ⟨g1, g2⟩ := it.turn H' i d (s.g.trans s.e) hd
      have hdrop : ds.drop i = d :: ds.drop (i + 1) := by
        rw [List.drop_eq_getElem_cons hlt2]
        congr 1
        exact Option.some.inj ((List.getElem?_eq_getElem hlt2).symm.trans hd)
      rw [hdrop] at hr
      refine ⟨g1, fun ys' H'' => ∃ G' yd, Step G1 H1 G' H'' ∧ Reps X.K X.mg G' yd ys' ∧ yd.length ≤ i + 1 ∧ RW (lcX ks gp fe (List.replicate k none ++ σd) (ds.drop (i + 1))) (fun rest => AfterF X.K X.mg Q G H (yd ++ rest)) (AfterX X.K X.mg E G H), fun ys' H'' h => ⟨ds.length - (i + 1), by omega, rfl, hlt2, h⟩, fun v H'' hy => ?_⟩
      obtain ⟨G2, s2, rv⟩ := g2 v H'' hy G' s.g s.e
      unfold lcX at hr
      obtain ⟨us, e1, hr⟩ := noerr_ok hr.of_bind
      have s12 := s.trans s2
      have okN : Ok0 X.K X.mg (List.replicate k none ++ σd) (List.replicate k none ++ σ) G2 H'' := (ok1.step s12).nones k
      refine ⟨G2, d, s2.e, rv, RW.ok_of e1 fun ws rws => ⟨subSt_setAll hk ws, ?_⟩⟩
      have okS := okN.setAll (ks := ks) rws
      refine ⟨G2, _, okS, RW.ok_of (show eTrue _ = .ok true from rfl) fun G3 H3 s3 => ?_⟩
      refine iteT ?_
      refine ⟨G3, _, okS.step s3, hr.of_bind.mono (fun y _ zy w G4 H4 s4 r4 => ?_) fun _ zy => zy.step ((s1.trans s12).trans s3)⟩
      refine ⟨G4, yd ++ [y], (s12.trans s3).trans s4, (r.mono ((s2.g.trans s3.g).trans s4.g)).append (Reps.cons r4 Reps.nil), by simp; omega, zy.of_bind.mono (fun rest _ zr => ?_) fun _ zr => zr⟩
      rw [List.append_assoc]
      exact zr
    · left
      have hi2 : i = ds.length := by omega
      subst hi2
      refine ⟨it.stop H' (s.g.trans s.e), fun Dd hD => ?_⟩
      rw [List.drop_length] at hr
      have zz : AfterF X.K X.mg Q G H (yd ++ []) := hr
      rw [List.append_nil] at zz
      have st := (s1.trans s)
      exact zz Dd ys G' _ (st.trans (.hid st.e hD)) (st.h.free hD) upd_same (st.e.free hD) r
end
section
variable {P : Program} {w : World} {K : PySem.W.Frag} {mg : Str → Option Value} {base : Heap} {N : List Str} {qual : Str} {scope0 : Scope} {f : Addr} {cdv : Value} {A : Around} {outer : List Env} {s0 : Shared} {H0 : Hp} {E : XK}
variable {tg elt iter : Expr} {scope : Scope} {pos : Pos} {NY : List Str} {k k0 : Nat} {ks : List Nat} {fi : DSt → R (List D)} {gp : D → R (List D)} {fe : DSt → R D}
theorem df_lcX (C : XC (cxOf (CXe P w) P w K mg base N qual scope0 f cdv A outer s0 H0 E) E k0) (lc : LC (cxOf (CXe P w) P w K mg base N qual scope0 f cdv A outer s0 H0 E) k scope NY) (hk : ks.all (fun i => decide (i < k)) = true) (hi : DI (cxOf (CXe P w) P w K mg base N qual scope0 f cdv A outer s0 H0 E) E tg iter fi)
    (hb : ∀ (s₀ : Shared) (H₀ : Hp) (Ca : Addr) (ex : List Addr), NY.Nodup → DG (lcCx (cxOf (CXe P w) P w K mg base N qual scope0 f cdv A outer s0 H0 E) scope NY s₀ H₀ Ca ex) tg ks gp)
    (hel : ∀ (s₀ : Shared) (H₀ : Hp) (Ca : Addr) (ex : List Addr) (xe : Value → Shared → Prop), NY.Nodup → XC ((lcCx (cxOf (CXe P w) P w K mg base N qual scope0 f cdv A outer s0 H0 E) scope NY s₀ H₀ Ca ex).wish xe) E k0 → DE ((lcCx (cxOf (CXe P w) P w K mg base N qual scope0 f cdv A outer s0 H0 E) scope NY s₀ H₀ Ca ex).wish xe) E elt fe)
    (hs : ∀ x, foldedSetIterable iter (cxOf (CXe P w) P w K mg base N qual scope0 f cdv A outer s0 H0 E).env x = pure x := by intro _; rfl) : DF (cxOf (CXe P w) P w K mg base N qual scope0 f cdv A outer s0 H0 E) E (.ListComp elt [⟨tg, iter, [], 0⟩] scope pos) (eLCX k ks fi gp fe) :=
  PE.mono' (pe_lcE (X := cxOf (CXe P w) P w K mg base N qual scope0 f cdv A outer s0 H0 E) (E := E) (g := tG K mg ks gp) (tc := tT K mg E0 eTrue) (te := tE K mg E fe) C.calm rfl rfl rfl (fun _ _ h => h) lc hi (fun s₀ H₀ Ca ex nd => ⟨hb s₀ H₀ Ca ex nd, dts_nil⟩) (fun s₀ H₀ Ca ex xe nd pass => hel s₀ H₀ Ca ex xe nd ⟨C.calm, C.room, pass⟩) hs)
    fun _ _ _ h => tLC_ofX (X := cxOf (CXe P w) P w K mg base N qual scope0 f cdv A outer s0 H0 E) hk h
end
def lcXK (k : Nat) (ks : List Nat) (a : R (List D)) (gp : D → R (List D)) (e : DSt → R D) (σ : DSt) : R (List D) := a.bind fun ds => bif most ds.length then lcX ks gp e (List.replicate k none ++ σ) ds else .bad
theorem eLCX_def (k : Nat) (ks : List Nat) (fi : DSt → R (List D)) (gp : D → R (List D)) (e : DSt → R D) (σ : DSt) : eLCX k ks fi gp e σ = lcXK k ks (fi σ) gp e σ := rfl
theorem lcX_ok {α : Type} {xs : List α} {f : α → D} {e : DSt → R D} {σ : DSt} {g : α → D} (hl : xs.length ≤ 1000000) (h : ∀ a ∈ xs, e (some (f a) :: σ) = .ok (g a)) : lcXK 1 [0] (.ok (xs.map f)) gpOne e σ = .ok (xs.map g) := by
  have go : ∀ xs : List α, (∀ a ∈ xs, e (some (f a) :: σ) = .ok (g a)) → lcX [0] gpOne e (List.replicate 1 none ++ σ) (xs.map f) = .ok (xs.map g) := by
    intro xs
    induction xs with
    | nil => intro _; rfl
    | cons d ds ih =>
      intro h
      show (e (some (f d) :: σ)).bind (fun y => (lcX [0] gpOne e (List.replicate 1 none ++ σ) (ds.map f)).bind fun ys => .ok (y :: ys)) = _
      rw [h d List.mem_cons_self, ih fun d' hd => h d' (List.mem_cons_of_mem _ hd)]; rfl
  show (bif most (xs.map f).length then _ else _) = _
  rw [most_of (by rw [List.length_map]; exact hl), go xs h]; rfl
theorem lcX_err {α : Type} {pre : List α} {b : α} {post : List α} {f : α → D} {e : DSt → R D} {σ : DSt} {g : α → D} {x : D} (hl : (pre ++ b :: post).length ≤ 1000000) (h : ∀ a ∈ pre, e (some (f a) :: σ) = .ok (g a)) (hb : e (some (f b) :: σ) = .err x) : lcXK 1 [0] (.ok ((pre ++ b :: post).map f)) gpOne e σ = .err x := by
  have go : ∀ pre : List α, (∀ a ∈ pre, e (some (f a) :: σ) = .ok (g a)) → lcX [0] gpOne e (List.replicate 1 none ++ σ) ((pre ++ b :: post).map f) = .err x := by
    intro pre
    induction pre with
    | nil =>
      intro _
      show (e (some (f b) :: σ)).bind (fun y => (lcX [0] gpOne e (List.replicate 1 none ++ σ) (post.map f)).bind fun ys => .ok (y :: ys)) = _
      rw [hb]; rfl
    | cons d ds ih =>
      intro h
      show (e (some (f d) :: σ)).bind (fun y => (lcX [0] gpOne e (List.replicate 1 none ++ σ) ((ds ++ b :: post).map f)).bind fun ys => .ok (y :: ys)) = _
      rw [h d List.mem_cons_self, ih fun d' hd => h d' (List.mem_cons_of_mem _ hd)]; rfl
  show (bif most ((pre ++ b :: post).map f).length then _ else _) = _
  rw [most_of (by rw [List.length_map]; exact hl), go pre h]; rfl
def repD (ds : List D) : D → R (List D)
  | .int k => bif decide (0 ≤ k ∧ k ≤ 1000) && le24 (ds.length * k.toNat) then .ok (List.replicate k.toNat ds).flatten else .bad
  | _ => .bad
def eRep (fl : DSt → R (List D)) (fe : DSt → R D) : DSt → R (List D) := fun σ => (fl σ).bind fun ds => (fe σ).bind fun d => repD ds d
theorem Reps.rep {K : PySem.W.Frag} {mg : Str → Option Value} {G : Hp} {ds : List D} {vs : List V} (h : Reps K mg G ds vs) : ∀ k : Nat, Reps K mg G (List.replicate k ds).flatten (List.replicate k vs).flatten
  | 0 => Reps.nil
  | k + 1 => by
    rw [List.replicate_succ, List.replicate_succ, List.flatten_cons, List.flatten_cons]
    exact h.append (Reps.rep h k)
theorem df_rep {X : Cx} {E : XK} {a b : Expr} {pos : Pos} {fl : DSt → R (List D)} {fe : DSt → R D} (ha : DF X E a fl) (hb : DE X E b fe) : DF X E (.BinOp a .Mult b pos) (eRep fl fe) := PE.mono' (pe_op op_rep ha hb) fun σ H Q ⟨G, σd, ok, q⟩ => by
  refine ⟨G, σd, ok, q.of_bind.mono (fun ds _ q1 p vs G1 H1 s1 n0 h1 g1 r1 => ?_) fun _ z => z⟩
  have ok1 := ok.step s1
  refine ⟨G1, σd, ok1, q1.of_bind.mono (fun d _ q2 v G2 H2 s2 r2 => ?_) fun _ z => z.step s1⟩
  cases d with
  | int k =>
    cases r2
    cases hC : (decide (0 ≤ k ∧ k ≤ 1000) && le24 (ds.length * k.toNat)) with
    | false => simp only [repD, hC, cond_false] at q2; exact q2.elim
    | true =>
      simp only [repD, hC, cond_true] at q2
      rw [Bool.and_eq_true] at hC
      have hk := of_decide_eq_true hC.1
      refine ⟨p, k, vs, rfl, rfl, s2.h _ _ h1, by omega, by omega, ?_, fun l hl => ?_⟩
      · rw [← r1.length]; exact of_decide_eq_true hC.2
      · have st := s1.trans s2
        exact (show AfterF X.K X.mg Q G H (List.replicate k.toNat ds).flatten from q2) l _ G2 _ (st.trans (.hid st.e hl)) (st.h.free hl) upd_same (st.e.free hl) ((r1.mono s2.g).rep _)
  | _ => exact (show False from q2).elim
end DL
end
section
set_option Elab.async false
set_option linter.all false
set_option maxRecDepth 100000
namespace Mir
open PySem L2 DL
noncomputable def b_shown : DSt → R Out := (sRet (eJoin (eC (.str "; ")) (vLst (eLC 1 [0] (iSeq (eVar 0)) gpOne eTrue (eJoin (eC (.str " ")) (vLst (eLst (aCons (eOp gIx (eVar 0) (eC (.int 0))) (aCons (eBlt gStr (aCons (eOp gIx (eVar 0) (eC (.int 1))) aNil)) (aCons (eBlt gStr (aCons (eOp gIx (eVar 0) (eC (.int 2))) aNil)) aNil))))))))))
noncomputable def m_shown : List D → R D := fnM 1 1 b_shown
theorem m_shown_go (a0 : D) : m_shown [a0] = fin (b_shown [some a0]) := fnM_go (b := b_shown) rfl rfl
noncomputable def b_rows_of_1 : DSt → R Out := (sRet (vLst (eLC 1 [0] (iSeq (vLst (eSplit (eVar 0) (eC (.str "; "))))) gpOne eTrue (vLst (eSplit (eVar 0) (eC (.str " ")))))))
noncomputable def b_rows_of : DSt → R Out := (sSeq (sIf (eNot (eTest (eBlt (g2 isi3) (aCons (eVar 0) (aCons (eC (.ty "str")) aNil))))) (sRaise1 "NoText") sNext) b_rows_of_1)
noncomputable def m_rows_of : List D → R D := fnM 1 1 b_rows_of
theorem m_rows_of_go (a0 : D) : m_rows_of [a0] = fin (b_rows_of [some a0]) := fnM_go (b := b_rows_of) rfl rfl
def k_FIGURES : D := .str "0123456789"
noncomputable def b_read_number_2 : DSt → R Out := (sRet (eBlt gIntT (aCons (eVar 0) aNil)))
noncomputable def b_read_number_1 : DSt → R Out := (sSeq (sIf (eAnd (eTest (eOp gEq (eOp gIxS (eVar 0) (eC (.int 0))) (eC (.str "0")))) (eTest (eOp gNe (eVar 0) (eC (.str "0"))))) (sRaise1 "NoText") sNext) b_read_number_2)
noncomputable def b_read_number : DSt → R Out := (sSeq (sIf (eOr (eTest (eOp gEq (eVar 0) (eC (.str "")))) (eNot (eTest (eBlt gAll (aCons (vLst (eLC 1 [0] (iStr (eVar 0)) gpOne eTrue (eOp gIn (eVar 0) (eC k_FIGURES)))) aNil))))) (sRaise1 "NoText") sNext) b_read_number_1)
noncomputable def m_read_number : List D → R D := fnM 1 1 b_read_number
theorem m_read_number_go (a0 : D) : m_read_number [a0] = fin (b_read_number [some a0]) := fnM_go (b := b_read_number) rfl rfl
noncomputable def b_read_deed_1 : DSt → R Out := (sRet (eTup (aCons (eOp gIx (eVar 0) (eC (.int 0))) (aCons (eCall m_read_number (aCons (eOp gIx (eVar 0) (eC (.int 1))) aNil)) (aCons (eCall m_read_number (aCons (eOp gIx (eVar 0) (eC (.int 2))) aNil)) aNil)))))
noncomputable def b_read_deed : DSt → R Out := (sSeq (sIf (eOr (eTest (eOp gNe (eBlt gLen (aCons (eVar 0) aNil)) (eC (.int 3)))) (eTest (eOp gNin (eOp gIx (eVar 0) (eC (.int 0))) (eTup (aCons (eC (.str "line")) (aCons (eC (.str "peg")) aNil)))))) (sRaise1 "NoText") sNext) b_read_deed_1)
noncomputable def m_read_deed : List D → R D := fnM 1 1 b_read_deed
theorem m_read_deed_go (a0 : D) : m_read_deed [a0] = fin (b_read_deed [some a0]) := fnM_go (b := b_read_deed) rfl rfl
noncomputable def b_read_v1_2 : DSt → R Out := (sRet (vLst (eLCX 1 [0] (iSeq (eVar 1)) gpOne (eCall m_read_deed (aCons (eVar 0) aNil)))))
noncomputable def b_read_v1_1 : DSt → R Out := (sSeq (sIf (eTest (eOp gEq (eVar 0) (eC (.str "")))) (sRet (vLst (eLst aNil))) sNext) b_read_v1_2)
noncomputable def b_read_v1 : DSt → R Out := (sSeq (sSet0 1 (eCall m_rows_of (aCons (eVar 0) aNil))) b_read_v1_1)
noncomputable def m_read_v1 : List D → R D := fnM 1 2 b_read_v1
theorem m_read_v1_go (a0 : D) : m_read_v1 [a0] = fin (b_read_v1 [some a0, none]) := fnM_go (b := b_read_v1) rfl rfl
noncomputable def b_law_digits_v1_2c : DSt → R Bool := (eAnd (eTest (eOp gGt (eVar 4) (eC (.int 0)))) (eTest (eOp gLt (eBlt gLen (aCons (eVar 3) aNil)) (eVar 2))))
noncomputable def b_law_digits_v1_2w_1 : DSt → R Out := (sSet [3] 4 (eOp gFdiv (eVar 4) (eOp gPow (eC (.int 10)) (eC (.int 6)))))
noncomputable def b_law_digits_v1_2w : DSt → R Out := (sSeq (sApp [3] 3 (eOp gMod (eVar 4) (eOp gPow (eC (.int 10)) (eC (.int 6))))) b_law_digits_v1_2w_1)
noncomputable def b_law_digits_v1_4f_1 : DSt → R Out := (sApp [3] 3 (eOp gMod (eOp gFdiv (eOp gMod (eOp gMul (eVar 5) (eVar 5)) (eC (.int 2305843009213693921))) (eC (.int 1048576))) (eOp gPow (eC (.int 10)) (eC (.int 6)))))
noncomputable def b_law_digits_v1_4f : DSt → R Out := (sSeq (sSet [3] 5 (eOp gMod (eOp gAdd (eOp gAdd (eOp gMul (eVar 5) (eC (.int 1181783497276652981))) (eOp gMul (eVar 6) (eVar 6))) (eVar 1)) (eC (.int 2305843009213693951)))) b_law_digits_v1_4f_1)
noncomputable def b_law_digits_v1_5 : DSt → R Out := (sRet (eVar 3))
noncomputable def b_law_digits_v1_4 : DSt → R Out := (sSeq (sForR [6] gpOne (iArgs rng2 (aCons (eBlt gLen (aCons (eVar 3) aNil)) (aCons (eVar 2) aNil))) b_law_digits_v1_4f) b_law_digits_v1_5)
noncomputable def b_law_digits_v1_3 : DSt → R Out := (sSeq (sSet [3] 5 (eOp gAdd (eOp gAdd (eOp gMod (eVar 0) (eC (.int 2305843009213693951))) (eOp gMul (eVar 1) (eVar 1))) (eC (.int 7)))) b_law_digits_v1_4)
noncomputable def b_law_digits_v1_2 : DSt → R Out := (sSeq (sWhile b_law_digits_v1_2c b_law_digits_v1_2w) b_law_digits_v1_3)
noncomputable def b_law_digits_v1_1 : DSt → R Out := (sSeq (sSet [3] 4 (eOp gMulS (eBlt gAbs (aCons (eVar 0) aNil)) (eBlt gInt (aCons (eOp gGe (eBlt gAbs (aCons (eVar 0) aNil)) (eOp gPow (eC (.int 10)) (eC (.int 18)))) aNil)))) b_law_digits_v1_2)
noncomputable def b_law_digits_v1 : DSt → R Out := (sSeq (sNew [] 3 (eLst aNil)) b_law_digits_v1_1)
noncomputable def m_law_digits_v1 : List D → R D := fnM 3 7 b_law_digits_v1
theorem m_law_digits_v1_go (a0 : D) (a1 : D) (a2 : D) : m_law_digits_v1 [a0, a1, a2] = fin (b_law_digits_v1 [some a0, some a1, some a2, none, none, none, none]) := fnM_go (b := b_law_digits_v1) rfl rfl
noncomputable def b_law_number : DSt → R Out := (sRet (eOp gIx (vLst (eLst (aCons (eOp gMod (eOp gIx (eVar 0) (eC (.int 0))) (eC (.int 12))) (aCons (eOp gIx (eVar 0) (eC (.int 0))) (aCons (eOp gAdd (eOp gAdd (eOp gMul (eOp gIx (eVar 0) (eC (.int 0))) (eOp gPow (eC (.int 10)) (eC (.int 54)))) (eOp gMul (eOp gIx (eVar 0) (eC (.int 1))) (eOp gPow (eC (.int 10)) (eC (.int 30))))) (eC (.int 7))) aNil))))) (eOp gMod (eOp gIx (eVar 0) (eC (.int 2))) (eC (.int 3)))))
noncomputable def m_law_number : List D → R D := fnM 1 1 b_law_number
theorem m_law_number_go (a0 : D) : m_law_number [a0] = fin (b_law_number [some a0]) := fnM_go (b := b_law_number) rfl rfl
noncomputable def b_law_deeds_1f_1 : DSt → R Out := (sApp [1] 1 (eTup (aCons (eOp gIx (vLst (eLst (aCons (eC (.str "line")) (aCons (eC (.str "peg")) aNil)))) (eOp gMod (eOp gIx (eVar 3) (eC (.int 0))) (eC (.int 2)))) (aCons (eCall m_law_number (aCons (eSl (eVar 3) (oSome (eC (.int 1))) (oSome (eC (.int 4)))) aNil)) (aCons (eCall m_law_number (aCons (eSl (eVar 3) (oSome (eC (.int 4))) (oSome (eC (.int 7)))) aNil)) aNil)))))
noncomputable def b_law_deeds_1f : DSt → R Out := (sSeq (sSet [1] 3 (eCall m_law_digits_v1 (aCons (eOp gIx (eVar 0) (eVar 2)) (aCons (eVar 2) (aCons (eC (.int 7)) aNil))))) b_law_deeds_1f_1)
noncomputable def b_law_deeds_2 : DSt → R Out := (sRet (eVar 1))
noncomputable def b_law_deeds_1 : DSt → R Out := (sSeq (sFor [1] [2] gpOne (iArgs rng1 (aCons (eBlt gLen (aCons (eVar 0) aNil)) aNil)) b_law_deeds_1f) b_law_deeds_2)
noncomputable def b_law_deeds : DSt → R Out := (sSeq (sNew [] 1 (eLst aNil)) b_law_deeds_1)
noncomputable def m_law_deeds : List D → R D := fnM 1 4 b_law_deeds
theorem m_law_deeds_go (a0 : D) : m_law_deeds [a0] = fin (b_law_deeds [some a0, none, none, none]) := fnM_go (b := b_law_deeds) rfl rfl
noncomputable def b_law_bad_v1_8 : DSt → R Out := (sRet (eOp gIx (eOp gAdd (eVar 6) (vLst (eLst (aCons (eOp gAdd (eC (.str "; ")) (eVar 0)) (aCons (eOp gAdd (eOp gAdd (eOp gAdd (eOp gAdd (eVar 2) (eC (.str " "))) (eVar 3)) (eC (.str "_0 "))) (eVar 4)) aNil))))) (eOp gMod (eOp gIx (eVar 1) (eC (.int 0))) (eC (.int 28)))))
noncomputable def b_law_bad_v1_7 : DSt → R Out := (sSeq (sSet0 6 (eOp gAdd (eVar 6) (vLst (eLst (aCons (eOp gAdd (eOp gAdd (eOp gAdd (eC (.str "lane ")) (eVar 3)) (eC (.str " "))) (eVar 4)) (aCons (eOp gAdd (eOp gAdd (eOp gAdd (eC (.str "pag ")) (eVar 3)) (eC (.str " "))) (eVar 4)) (aCons (eOp gAdd (eOp gAdd (eOp gAdd (eOp gAdd (eSlS (eVar 2) (oSome (eC (.int 1))) oNone) (eC (.str " "))) (eVar 3)) (eC (.str " "))) (eVar 4)) aNil))))))) b_law_bad_v1_8)
noncomputable def b_law_bad_v1_6 : DSt → R Out := (sSeq (sSet0 6 (eOp gAdd (eVar 6) (vLst (eLst (aCons (eOp gAdd (eOp gAdd (eOp gAdd (eOp gAdd (eVar 2) (eC (.str " +"))) (eVar 3)) (eC (.str " "))) (eVar 4)) (aCons (eOp gAdd (eVar 0) (eC (.str "\n"))) (aCons (eOp gAdd (eOp gAdd (eOp gAdd (eOp gAdd (eVar 2) (eC (.str "\t"))) (eVar 3)) (eC (.str " "))) (eVar 4)) aNil))))))) b_law_bad_v1_7)
noncomputable def b_law_bad_v1_5 : DSt → R Out := (sSeq (sSet0 6 (eOp gAdd (eVar 6) (vLst (eLst (aCons (eOp gAdd (eOp gAdd (eOp gAdd (eOp gAdd (eOp gAdd (eVar 2) (eC (.str " "))) (eVar 3)) (eVar 5)) (eC (.str " "))) (eVar 4)) (aCons (eOp gAdd (eVar 5) (eVar 0)) (aCons (eOp gAdd (eVar 0) (eVar 5)) (aCons (eOp gAdd (eOp gAdd (eOp gAdd (eOp gAdd (eVar 3) (eC (.str " "))) (eVar 2)) (eC (.str " "))) (eVar 4)) aNil)))))))) b_law_bad_v1_6)
noncomputable def b_law_bad_v1_4 : DSt → R Out := (sSeq (sSet0 6 (eOp gAdd (eVar 6) (vLst (eLst (aCons (eOp gAdd (eOp gAdd (eOp gAdd (eOp gAdd (eVar 2) (eC (.str " "))) (eVar 3)) (eC (.str "  "))) (eVar 4)) (aCons (eOp gAdd (eC (.str " ")) (eVar 0)) (aCons (eOp gAdd (eVar 0) (eC (.str " "))) (aCons (eOp gAdd (eVar 0) (eC (.str ";"))) (aCons (eOp gAdd (eOp gAdd (eVar 0) (eC (.str ";"))) (eVar 0)) (aCons (eOp gAdd (eVar 0) (eC (.str "; "))) aNil)))))))))) b_law_bad_v1_5)
noncomputable def b_law_bad_v1_3 : DSt → R Out := (sSeq (sSet0 6 (eOp gAdd (eVar 6) (vLst (eLst (aCons (eOp gAdd (eOp gAdd (eOp gAdd (eOp gAdd (eVar 2) (eC (.str " 0"))) (eVar 3)) (eC (.str " "))) (eVar 4)) (aCons (eOp gAdd (eOp gAdd (eOp gAdd (eOp gAdd (eVar 2) (eC (.str " "))) (eVar 3)) (eC (.str " 0"))) (eVar 4)) (aCons (eOp gAdd (eOp gAdd (eOp gAdd (eOp gAdd (eVar 2) (eC (.str " -"))) (eVar 3)) (eC (.str " "))) (eVar 4)) aNil))))))) b_law_bad_v1_4)
noncomputable def b_law_bad_v1_2 : DSt → R Out := (sSeq (sSet0 6 (vLst (eLst (aCons (eC (.str "")) (aCons (eC (.str " ")) (aCons (eVar 2) (aCons (eOp gAdd (eOp gAdd (eVar 2) (eC (.str " "))) (eVar 3)) (aCons (eOp gAdd (eVar 0) (eC (.str " 0"))) (aCons (eOp gAdd (eOp gAdd (eOp gAdd (eC (.str "lines ")) (eVar 3)) (eC (.str " "))) (eVar 4)) (aCons (eOp gAdd (eOp gAdd (eOp gAdd (eC (.str "Line ")) (eVar 3)) (eC (.str " "))) (eVar 4)) aNil)))))))))) b_law_bad_v1_3)
noncomputable def b_law_bad_v1_1 : DSt → R Out := (sSeq (sSet0 5 (eOp gIxS (eC (.str "abxLP.,;:+*-_/")) (eOp gMod (eOp gIx (eVar 1) (eC (.int 1))) (eC (.int 14))))) b_law_bad_v1_2)
noncomputable def b_law_bad_v1 : DSt → R Out := (sSeq (sAsg [] [2, 3, 4] (gpSeq 3) (vLst (eSplit (eVar 0) (eC (.str " "))))) b_law_bad_v1_1)
noncomputable def m_law_bad_v1 : List D → R D := fnM 2 7 b_law_bad_v1
theorem m_law_bad_v1_go (a0 : D) (a1 : D) : m_law_bad_v1 [a0, a1] = fin (b_law_bad_v1 [some a0, some a1, none, none, none, none, none]) := fnM_go (b := b_law_bad_v1) rfl rfl
noncomputable def b_law_refused_v10_4 : DSt → R Out := (sRet (vNot (eBlt (g2 isiC) (aCons (eVar 1) (aCons (eTup (aCons (eC (.cls "NoChange")) (aCons (eC (.cls "NoFrame")) (aCons (eC (.cls "NoValue")) (aCons (eC (.cls "Unlike")) (aCons (eC (.cls "NoRatio")) (aCons (eC (.cls "NoBow")) (aCons (eC (.cls "NoRow")) aNil)))))))) aNil)))))
noncomputable def b_law_refused_v10_3 : DSt → R Out := (sSeq (sIf (eTest (eBlt (g2 isiC) (aCons (eVar 1) (aCons (eTup (aCons (eC (.cls "NoPlace")) (aCons (eC (.cls "Same")) (aCons (eC (.cls "NoFloor")) (aCons (eC (.cls "Endless")) (aCons (eC (.cls "NoDeed")) (aCons (eC (.cls "NoName")) (aCons (eC (.cls "TooMany")) aNil)))))))) aNil)))) (sRet (eC (.bl false))) sNext) b_law_refused_v10_4)
noncomputable def b_law_refused_v10_2 : DSt → R Out := (sSeq (sIf (eOr (eNot (eTest (eBlt (g2 isi3) (aCons (eVar 1) (aCons (eC (.cls "NoText")) aNil))))) (eNot (eTest (eBlt (g2 isi3) (aCons (eVar 1) (aCons (eC (.ty "ValueError")) aNil)))))) (sRet (eC (.bl false))) sNext) b_law_refused_v10_3)
noncomputable def b_law_refused_v10_1 : DSt → R Out := (sSeq (sTry 2 "ChalkError" (sExpr (xCallD m_read_v1 (aCons (eVar 0) aNil))) (sSet0 1 (eVar 2))) b_law_refused_v10_2)
noncomputable def b_law_refused_v10 : DSt → R Out := (sSeq (sSet0 1 (eC .non)) b_law_refused_v10_1)
noncomputable def m_law_refused_v10 : List D → R D := fnM 1 3 b_law_refused_v10
theorem m_law_refused_v10_go (a0 : D) : m_law_refused_v10 [a0] = fin (b_law_refused_v10 [some a0, none, none]) := fnM_go (b := b_law_refused_v10) rfl rfl
noncomputable def b_law_v30_2f_5 : DSt → R Out := (sIf (eNot (eTest (eCall m_law_refused_v10 (aCons (eOp gIx (vLst (eLst (aCons (eC .non) (aCons (eC (.int 5)) (aCons (eC (.bl true)) (aCons (eVar 1) (aCons (eTup (aCons (eC (.str "line 0 1")) aNil)) (aCons (eC (.dct [] [])) aNil)))))))) (eOp gMod (eOp gIx (eVar 4) (eC (.int 3))) (eC (.int 6)))) aNil)))) (sRet (eC (.bl false))) sNext)
noncomputable def b_law_v30_2f_4 : DSt → R Out := (sSeq (sIf (eNot (eTest (eCall m_law_refused_v10 (aCons (eJoin (eC (.str "; ")) (eOp gAdd (eOp gAdd (eSl (eVar 2) oNone (oSome (eVar 5))) (vLst (eLst (aCons (eVar 6) aNil)))) (eSl (eVar 2) (oSome (eOp gAdd (eVar 5) (eC (.int 1)))) oNone))) aNil)))) (sRet (eC (.bl false))) sNext) b_law_v30_2f_5)
noncomputable def b_law_v30_2f_3 : DSt → R Out := (sSeq (sIf (eAnd (eTest (eOp gEq (eBlt gLen (aCons (eVar 2) aNil)) (eC (.int 1)))) (eTest (eOp gEq (eVar 6) (eC (.str ""))))) (sSet0 6 (eC (.str "row"))) sNext) b_law_v30_2f_4)
noncomputable def b_law_v30_2f_2 : DSt → R Out := (sSeq (sSet0 6 (eCall m_law_bad_v1 (aCons (eOp gIx (eVar 2) (eVar 5)) (aCons (eVar 4) aNil)))) b_law_v30_2f_3)
noncomputable def b_law_v30_2f_1 : DSt → R Out := (sSeq (sSet0 5 (eOp gMod (eOp gIx (eVar 4) (eC (.int 2))) (eBlt gLen (aCons (eVar 2) aNil)))) b_law_v30_2f_2)
noncomputable def b_law_v30_2f : DSt → R Out := (sSeq (sSet0 4 (eCall m_law_digits_v1 (aCons (eVar 3) (aCons (eC (.int 50)) (aCons (eC (.int 4)) aNil))))) b_law_v30_2f_1)
noncomputable def b_law_v30_3 : DSt → R Out := (sRet (eOp gEq (eCall m_read_v1 (aCons (eJoin (eC (.str "; ")) (eVar 2)) aNil)) (eVar 1)))
noncomputable def b_law_v30_2 : DSt → R Out := (sSeq (sFor [] [3] gpOne (iSeq (eOp gAdd (eSl (eVar 0) (oSome (eC (.int 10))) (oSome (eC (.int 60)))) (vLst (eLst (aCons (eBlt gLen (aCons (eVar 0) aNil)) (aCons (eOp gAdd (eBlt gLen (aCons (eVar 0) aNil)) (eC (.int 1))) aNil)))))) b_law_v30_2f) b_law_v30_3)
noncomputable def b_law_v30_1 : DSt → R Out := (sSeq (sSet0 2 (vLst (eSplit (eCall m_shown (aCons (eVar 1) aNil)) (eC (.str "; "))))) b_law_v30_2)
noncomputable def b_law_v30 : DSt → R Out := (sSeq (sSet0 1 (eCall m_law_deeds (aCons (eOp gAdd (eSl (eVar 0) oNone (oSome (eC (.int 10)))) (vLst (eRep (eLst (aCons (eC (.int 3)) aNil)) (eBlt gInt (aCons (eOp gEq (eVar 0) (vLst (eLst aNil))) aNil))))) aNil))) b_law_v30_1)
noncomputable def m_law_v30 : List D → R D := fnM 1 7 b_law_v30
theorem m_law_v30_go (a0 : D) : m_law_v30 [a0] = fin (b_law_v30 [some a0, none, none, none, none, none, none]) := fnM_go (b := b_law_v30) rfl rfl
end Mir
end
section
set_option Elab.async false
set_option linter.all false
set_option maxRecDepth 100000
open PySem L2 DL Mir
local macro_rules | `(tactic| walk_at "ev") => `(tactic| simp only [sSeq_def, seqK_nx, seqK_rt, seqK_bk, seqK_ct, seqK_err, sNext_def, eVar_zero, eVar_succ, eC_def, eOp_def, opK_ok, eUn_def, unK_ok, eCall_def, callK_ok, callK_err, xCallD_def, xcallK_ok, eBlt_def, bltK_ok, eBltF_def, bltFK_ok, noerr_okk, aNil_def, aCons_def, consK_ok, consK_err, eTup_def, tupK_0, tupK_1, tupK_2, tupK_3, tupK_4, tupK_5, tupK_6, tupK_9, eLst_def, lstK_0, lstK_1, lstK_2, lstK_3, lstK_4, lstK_5, lstK_6, vLst_def, vlstK_ok, eTest_def, testK_bl, eAnd_def, andK_t, andK_f, eOr_def, orK_t, orK_f, eNot_def, notK_ok, vAnd_def, vandK_t, vandK_f, vOr_def, vorK_t, vorK_f, vNot_def, vnotK_ok, eIf_def, eifK_t, eifK_f, sIf_def, ifK_t, ifK_f, eChain_def, chain_ints, sApp_def, sAppP_def, lstAt_zero, lstAt_succ, sRet_def, retK_ok, retK_err, sExpr_def, exprK_ok, exprK_err, sSet0_def, sSet_def, setK_ok, setK_err, sNew_def, newK_ok, sAsg_def, asgK_2t, asgK_2l, asgK_3t, asgK_3l, sPar_def, parK_ok, sRaise_def, raiseK_1, sRaise1_def, sTry_def, tryK_ok, handK_nx, fin_rt, fin_nx, fin_err, gAdd_ii, gSub_ii, gNeg_i, gLt_ii, gLe_ii, gGt_ii, gGe_ii, gEq_ii, gNe_ii, gEq_bb, gNe_bb, gEq_t3, gNe_t3, gEq_l3, gIs_bb, gIsn_bb, gIs_non, gIsn_non, isNon, gIx_t3_0, gIx_t3_1, gIx_t3_2, gIx_l3_0, gIx_l3_1, gIx_l3_2, gLen_l, gLen_t0, gLen_t1, gLen_t2, gLen_t3, gLen_t4, eq_self, decide_true, decide_false, Int.reduceEq, Int.reduceLT, Int.reduceLE, Int.reduceNeg, Int.reduceToNat, gAbs_i, gMin_ii, gMax_ii, gInt_b, isi_int_int, isi_int_bool, isi_bl_bool, isi_bl_int, isi_tup_tup, isi_lst_lst, isi_lst_tup, isi_tup_lst, isi_excV, iArgs_def, argsK_ok, iSeq_def, seqKi_t, seqKi_l, sFor_def, forK_ok, forL_one, forL_nil, turnK_nx, turnK_ct, turnK_bk, turnK_rt, turnK_err, eLC_def, mask_nil, mask, maskF, List.contains_cons, List.contains_nil, Bool.or_false, Bool.false_or, Bool.true_or, Bool.or_true, Nat.reduceBEq, Nat.reduceAdd, Nat.zero_add, cond_true, cond_false, List.set_cons_zero, List.set_cons_succ, Bool.not_true, Bool.not_false, Bool.not_not, Bool.true_and, Bool.false_and, Bool.and_true, Bool.and_false])
local macro_rules | `(tactic| walk_at "side") => `(tactic| first | assumption | decide | omega | (refine mulB_le ?_ ?_ <;> omega) | (refine divB_le ?_ ?_ ?_ <;> omega) | (refine rOk_of ?_ ?_ <;> omega) | (simp only [List.length_cons, List.length_nil, List.length_append, List.length_map]; omega))
local macro_rules | `(tactic| walk_at "evd") => `(tactic| simp (disch := walk_at "side") only [sSeq_def, seqK_nx, seqK_rt, seqK_bk, seqK_ct, seqK_err, sNext_def, eVar_zero, eVar_succ, eC_def, eOp_def, opK_ok, eUn_def, unK_ok, eCall_def, callK_ok, callK_err, xCallD_def, xcallK_ok, eBlt_def, bltK_ok, eBltF_def, bltFK_ok, noerr_okk, aNil_def, aCons_def, consK_ok, consK_err, eTup_def, tupK_0, tupK_1, tupK_2, tupK_3, tupK_4, tupK_5, tupK_6, tupK_9, eLst_def, lstK_0, lstK_1, lstK_2, lstK_3, lstK_4, lstK_5, lstK_6, vLst_def, vlstK_ok, eTest_def, testK_bl, eAnd_def, andK_t, andK_f, eOr_def, orK_t, orK_f, eNot_def, notK_ok, vAnd_def, vandK_t, vandK_f, vOr_def, vorK_t, vorK_f, vNot_def, vnotK_ok, eIf_def, eifK_t, eifK_f, sIf_def, ifK_t, ifK_f, eChain_def, chain_ints, sApp_def, sAppP_def, lstAt_zero, lstAt_succ, sRet_def, retK_ok, retK_err, sExpr_def, exprK_ok, exprK_err, sSet0_def, sSet_def, setK_ok, setK_err, sNew_def, newK_ok, sAsg_def, asgK_2t, asgK_2l, asgK_3t, asgK_3l, sPar_def, parK_ok, sRaise_def, raiseK_1, sRaise1_def, sTry_def, tryK_ok, handK_nx, fin_rt, fin_nx, fin_err, gAdd_ii, gSub_ii, gNeg_i, gLt_ii, gLe_ii, gGt_ii, gGe_ii, gEq_ii, gNe_ii, gEq_bb, gNe_bb, gEq_t3, gNe_t3, gEq_l3, gIs_bb, gIsn_bb, gIs_non, gIsn_non, isNon, gIx_t3_0, gIx_t3_1, gIx_t3_2, gIx_l3_0, gIx_l3_1, gIx_l3_2, gLen_l, gLen_t0, gLen_t1, gLen_t2, gLen_t3, gLen_t4, eq_self, decide_true, decide_false, Int.reduceEq, Int.reduceLT, Int.reduceLE, Int.reduceNeg, Int.reduceToNat, gAbs_i, gMin_ii, gMax_ii, gInt_b, isi_int_int, isi_int_bool, isi_bl_bool, isi_bl_int, isi_tup_tup, isi_lst_lst, isi_lst_tup, isi_tup_lst, isi_excV, iArgs_def, argsK_ok, iSeq_def, seqKi_t, seqKi_l, sFor_def, forK_ok, forL_one, forL_nil, turnK_nx, turnK_ct, turnK_bk, turnK_rt, turnK_err, eLC_def, mask_nil, mask, maskF, List.contains_cons, List.contains_nil, Bool.or_false, Bool.false_or, Bool.true_or, Bool.or_true, Nat.reduceBEq, Nat.reduceAdd, Nat.zero_add, cond_true, cond_false, List.set_cons_zero, List.set_cons_succ, Bool.not_true, Bool.not_false, Bool.not_not, Bool.true_and, Bool.false_and, Bool.and_true, Bool.and_false, gMul_ii, gFdiv_pos, gMod_pos, gPow_ii, gShr_ii, rng1_i, rng2_ii, appK_ok, appPK_ok, setPK_ok, sSetP_def])
set_option Elab.async false
set_option linter.all false
set_option maxRecDepth 100000
open PySem L2 DL Mir
set_option Elab.async false
set_option linter.all false
set_option maxRecDepth 100000
open PySem L2 DL Mir
namespace LmD
theorem mulB_n {n : Nat} {i : Int} (h : B n i) (hn : n ≤ 10000) : mulB i = true := mulB_of h (by omega)
end LmD
set_option Elab.async false
set_option linter.all false
set_option maxRecDepth 100000
open PySem L2 DL Mir
set_option Elab.async false
set_option linter.all false
set_option maxRecDepth 100000
open PySem L2 DL Mir
namespace Lk42
open LmD
theorem eSl_to (fe f : DSt → R D) (σ : DSt) (ds : List D) (n : Nat) (h1 : fe σ = .ok (.lst ds)) (h2 : f σ = .ok (.int (n : Int))) : eSl fe oNone (oSome f) σ = .ok (.lst (ds.take n)) := by
  unfold eSl oNone oSome
  rw [h1, h2]
  show R.ok (D.lst (cutD ds none (some (n : Int)))) = _
  unfold cutD
  rw [HT.sIx_none, HT.sIx_nat, List.drop_zero, Nat.sub_zero, ← List.take_eq_take_min]
theorem gAdd_ll {xs ys : List D} (h : xs.length + ys.length ≤ 1000000) : gAdd (.lst xs) (.lst ys) = .ok (.lst (xs ++ ys)) := by
  show (bif le24 (xs.length + ys.length) then _ else _) = _
  rw [show le24 (xs.length + ys.length) = true from decide_eq_true (Nat.le_trans h (by decide))]; rfl
end Lk42
set_option Elab.async false
set_option linter.all false
set_option maxRecDepth 100000
open PySem L2 DL Mir
namespace LmB
open LmD
theorem gAll_bls (bs : List Bool) : gAll [.lst (bs.map D.bl)] = .ok (.bl (bs.all id)) := by
  show all1 (.lst (bs.map D.bl)) = _
  simp only [all1, blsOf_map]
theorem lc_mapP {α : Type} {xs : List α} {f : α → D} {e : DSt → R D} {σ : DSt} {g : α → D} (hl : xs.length ≤ 1000000) (h : ∀ a ∈ xs, e (some (f a) :: σ) = .ok (g a)) : lcK 1 [0] (.ok (xs.map f)) gpOne eTrue e σ = .ok (xs.map g) := by
  have go : ∀ xs : List α, (∀ a ∈ xs, e (some (f a) :: σ) = .ok (g a)) → lcD [0] gpOne eTrue e (List.replicate 1 none ++ σ) (xs.map f) = .ok (xs.map g) := by
    intro xs
    induction xs with
    | nil => intro _; rfl
    | cons d ds ih =>
      intro h
      show (e (some (f d) :: σ)).bind (fun y => (lcD [0] gpOne eTrue e (List.replicate 1 none ++ σ) (ds.map f)).bind fun ys => .ok (y :: ys)) = _
      rw [h d List.mem_cons_self, ih fun d' hd => h d' (List.mem_cons_of_mem _ hd)]; rfl
  show (bif most (xs.map f).length then _ else _) = _
  rw [most_of (by rw [List.length_map]; exact hl), go xs h]; rfl
end LmB
set_option Elab.async false
set_option linter.all false
set_option maxRecDepth 100000
open PySem L2 DL Mir
set_option Elab.async false
set_option linter.all false
set_option maxRecDepth 100000
open PySem L2 DL Mir
set_option Elab.async false
set_option linter.all false
set_option maxRecDepth 100000
open PySem L2 DL Mir
set_option Elab.async false
set_option linter.all false
set_option maxRecDepth 100000
open PySem L2 DL Mir
namespace LmJ
open LmD LmB
def rg (lo m : Nat) : List Nat := (List.range (m - lo)).map (lo + ·)
theorem mem_rg {lo m k : Nat} : k ∈ rg lo m ↔ lo ≤ k ∧ k < m := by
  unfold rg
  rw [List.mem_map]
  constructor
  · rintro ⟨i, hi, rfl⟩
    have := List.mem_range.mp hi
    omega
  · rintro ⟨h1, h2⟩
    exact ⟨k - lo, List.mem_range.mpr (by omega), by omega⟩
theorem rngD_rg (lo m : Nat) : rngD (lo : Int) ((m : Int) - (lo : Int)).toNat = (rg lo m).map fun k : Nat => D.int (k : Int) := by
  unfold rngD rg
  rw [List.map_map, show ((m : Int) - (lo : Int)).toNat = m - lo by omega]
  congr 1
end LmJ
set_option Elab.async false
set_option linter.all false
set_option maxRecDepth 100000
open PySem L2 DL Mir
set_option Elab.async false
set_option linter.all false
set_option maxRecDepth 100000
open PySem L2 DL Mir
set_option Elab.async false
set_option linter.all false
set_option maxRecDepth 100000
open PySem L2 DL Mir
namespace LmK
open LmD LmB LmJ
theorem rg_len (lo m : Nat) : (rg lo m).length = m - lo := by simp [rg]
end LmK
set_option Elab.async false
set_option linter.all false
set_option maxRecDepth 100000
open PySem L2 DL Mir
set_option Elab.async false
set_option linter.all false
set_option maxRecDepth 100000
open PySem L2 DL Mir
namespace LmL
open LmD LmB LmJ LmK
theorem eSl_to (fe f : DSt → R D) (σ : DSt) (ds : List D) (n : Nat) (h1 : fe σ = .ok (.lst ds)) (h2 : f σ = .ok (.int (n : Int))) : eSl fe oNone (oSome f) σ = .ok (.lst (ds.take n)) := Lk42.eSl_to fe f σ ds n h1 h2
theorem eSl_from (fe f : DSt → R D) (σ : DSt) (ds : List D) (n : Nat) (h1 : fe σ = .ok (.lst ds)) (h2 : f σ = .ok (.int (n : Int))) : eSl fe (oSome f) oNone σ = .ok (.lst (ds.drop n)) := by
  unfold eSl oNone oSome
  rw [h1, h2]
  show R.ok (D.lst (cutD ds (some (n : Int)) none)) = _
  unfold cutD
  rw [HT.sIx_none, HT.sIx_nat]
  congr 2
  by_cases h : n ≤ ds.length
  · rw [Nat.min_eq_left h, List.take_of_length_le (by rw [List.length_drop]; omega)]
  · rw [Nat.min_eq_right (by omega), List.drop_of_length_le (by omega), List.drop_of_length_le (by omega)]; simp
end LmL
set_option Elab.async false
set_option linter.all false
set_option maxRecDepth 100000
open PySem L2 DL Mir
set_option Elab.async false
set_option linter.all false
set_option maxRecDepth 100000
open PySem L2 DL Mir
namespace LmM
open LmD LmB LmJ LmK LmL
def Dg (ds : List Int) : Prop := ∀ d ∈ ds, 0 ≤ d ∧ d < 1000000
theorem Dg.snoc {ds : List Int} {d : Int} (h : Dg ds) (hd : 0 ≤ d ∧ d < 1000000) : Dg (ds ++ [d]) := fun e he => by
  rcases List.mem_append.mp he with he | he
  · exact h e he
  · rw [List.mem_singleton.mp he]; exact hd
theorem pow6 : gPow (.int 10) (.int 6) = .ok (.int 1000000) := rfl
theorem pow18 : gPow (.int 10) (.int 18) = .ok (.int 1000000000000000000) := rfl
theorem mod6 (x : Int) : gMod (.int x) (.int 1000000) = .ok (.int (x % 1000000)) := gMod_pos x 1000000 (by decide)
theorem digits_while {c k : D} {many : Nat} (hm : many ≤ 100) : ∀ (m : Nat) (ds : List Int) (rest : Int), ds.length + m = many → 0 ≤ rest → Dg ds →
    ∃ ds' r', sWhile b_law_digits_v1_2c b_law_digits_v1_2w [some c, some k, some (.int (many : Int)), some (.lst (ds.map .int)), some (.int rest), none, none] = .ok (.nx [some c, some k, some (.int (many : Int)), some (.lst (ds'.map .int)), some (.int r'), none, none]) ∧ ds'.length ≤ many ∧ Dg ds' := by
  intro m
  induction m with
  | zero =>
    intro ds rest hl hr hd
    refine ⟨ds, rest, sWhile_f ?_, by omega, hd⟩
    unfold b_law_digits_v1_2c; walk_at "ev"
    by_cases h : 0 < rest
    · rw [decide_eq_true h]; walk_at "ev"
      rw [List.length_map, decide_eq_false (by omega)]
    · rw [decide_eq_false h]; walk_at "ev"
  | succ m ih =>
    intro ds rest hl hr hd
    by_cases h : 0 < rest
    · obtain ⟨ds', r', e, h1, h2⟩ := ih (ds ++ [rest % 1000000]) (rest / 1000000) (by simp; omega) (Int.ediv_nonneg hr (by decide)) (hd.snoc ⟨Int.emod_nonneg _ (by decide), Int.emod_lt_of_pos _ (by decide)⟩)
      refine ⟨ds', r', ?_, h1, h2⟩
      rw [sWhile_t (σ' := [some c, some k, some (.int (many : Int)), some (.lst ((ds ++ [rest % 1000000]).map .int)), some (.int (rest / 1000000)), none, none]) ?_ ?_, e]
      · unfold b_law_digits_v1_2c; walk_at "ev"
        rw [decide_eq_true h]; walk_at "ev"
        rw [List.length_map, decide_eq_true (by omega)]
      · unfold b_law_digits_v1_2w; walk_at "ev"
        rw [pow6]
        rw [opK_ok, mod6]
        rw [appK_ok _ _ _ _ (by rw [List.length_map]; omega)]; walk_at "ev"
        unfold b_law_digits_v1_2w_1; walk_at "ev"
        rw [pow6]; walk_at "ev"
        rw [show gFdiv (.int rest) (.int 1000000) = .ok (.int (rest / 1000000)) from gFdiv_pos rest 1000000 (by decide) (by decide)]; walk_at "ev"
        rw [List.map_append]; rfl
    · refine ⟨ds, rest, sWhile_f ?_, by omega, hd⟩
      unfold b_law_digits_v1_2c; walk_at "ev"
      rw [decide_eq_false h]; walk_at "ev"
theorem digits_ok (c : Int) (k many : Nat) (hk : k ≤ 1000) (hm : many ≤ 100) : ∃ ds : List Int, m_law_digits_v1 [.int c, .int (k : Int), .int (many : Int)] = .ok (.lst (ds.map .int)) ∧ ds.length = many ∧ Dg ds := by
  rw [m_law_digits_v1_go]; unfold b_law_digits_v1; walk_at "ev"
  unfold b_law_digits_v1_1; walk_at "ev"
  rw [pow18]; walk_at "ev"
  rw [gMulS_ii _ _ (by split <;> rfl)]; walk_at "ev"
  obtain ⟨r0, hr0, e0⟩ : ∃ r : Int, 0 ≤ r ∧ (c.natAbs : Int) * (if decide (1000000000000000000 ≤ (c.natAbs : Int)) = true then 1 else 0) = r := ⟨_, by split <;> omega, rfl⟩
  rw [e0]
  unfold b_law_digits_v1_2; walk_at "ev"
  obtain ⟨ds, r', e1, l1, g1⟩ := digits_while (c := .int c) (k := .int (k : Int)) hm many [] r0 (by simp) hr0 (by intro d hd; cases hd)
  rw [show sWhile b_law_digits_v1_2c b_law_digits_v1_2w [some (.int c), some (.int (k : Int)), some (.int (many : Int)), some (.lst []), some (.int r0), none, none] = _ from e1]; walk_at "ev"
  unfold b_law_digits_v1_3; walk_at "ev"
  rw [gMod_pos _ _ (by decide), gMul_ii _ _ (mulB_n (n := 20) (B.of (k := 1000) (by omega)) (by decide)) (mulB_n (n := 20) (B.of (k := 1000) (by omega)) (by decide))]; walk_at "ev"
  have hv0 : 0 ≤ c % 2305843009213693951 + (k : Int) * (k : Int) + 7 ∧ c % 2305843009213693951 + (k : Int) * (k : Int) + 7 < 2 ^ 62 := by
    have a1 := Int.emod_nonneg c (show (2305843009213693951 : Int) ≠ 0 by decide)
    have a2 := Int.emod_lt_of_pos c (show (0 : Int) < 2305843009213693951 by decide)
    have a3 : (k : Int) * (k : Int) ≤ 1000 * 1000 := Int.mul_le_mul (by omega) (by omega) (by omega) (by omega)
    have a4 : 0 ≤ (k : Int) * (k : Int) := Int.mul_nonneg (by omega) (by omega)
    omega
  generalize c % 2305843009213693951 + (k : Int) * (k : Int) + 7 = v0 at hv0
  unfold b_law_digits_v1_4; walk_at "ev"
  rw [sForR_def]; walk_at "ev"
  rw [List.length_map, rng2_ii _ _ (rOk_of (by omega) (by omega)) (rOk_of (by omega) (by omega)), rngD_rg]; walk_at "ev"
  have turn : ∀ (j : Nat) (d : D) (σ : DSt), ((rg ds.length many).map fun k : Nat => D.int (k : Int))[j]? = some d → (∃ es v x, σ = [some (.int c), some (.int (k : Int)), some (.int (many : Int)), some (.lst (es.map D.int)), some (.int r'), some (.int v), x] ∧ es.length = ds.length + j ∧ Dg es ∧ 0 ≤ v ∧ v < 2 ^ 62) → ∃ σ', (b_law_digits_v1_4f (σ.set 6 (some d)) = .ok (.nx σ') ∨ b_law_digits_v1_4f (σ.set 6 (some d)) = .ok (.ct σ')) ∧ ∃ es v x, σ' = [some (.int c), some (.int (k : Int)), some (.int (many : Int)), some (.lst (es.map D.int)), some (.int r'), some (.int v), x] ∧ es.length = ds.length + (j + 1) ∧ Dg es ∧ 0 ≤ v ∧ v < 2 ^ 62 := by
    rintro j d σ hd ⟨es, v, x, rfl, h1, h2, h3, h4⟩
    obtain ⟨i, hi, rfl⟩ := List.mem_map.mp (List.mem_of_getElem? hd)
    have hi := (mem_rg.mp hi).2
    have hj : j < many - ds.length := by
      have := (List.getElem?_eq_some_iff.mp hd).1
      rw [List.length_map, rg_len] at this
      exact this
    rw [show List.set _ 6 _ = [some (.int c), some (.int (k : Int)), some (.int (many : Int)), some (.lst (es.map D.int)), some (.int r'), some (.int v), some (.int (i : Int))] from rfl]
    have bv : mulB v = true := mulB_n (n := 62) (B.of (k := 2 ^ 62 - 1) (by omega)) (by decide)
    have bi : mulB (i : Int) = true := mulB_n (n := 20) (B.of (k := 1000) (by omega)) (by decide)
    unfold b_law_digits_v1_4f; walk_at "ev"
    rw [gMul_ii _ _ bv (by decide), gMul_ii _ _ bi bi]; walk_at "ev"
    rw [gMod_pos _ _ (by decide)]; walk_at "ev"
    have w0 := Int.emod_nonneg (v * 1181783497276652981 + (i : Int) * (i : Int) + (k : Int)) (show (2305843009213693951 : Int) ≠ 0 by decide)
    have w1 := Int.emod_lt_of_pos (v * 1181783497276652981 + (i : Int) * (i : Int) + (k : Int)) (show (0 : Int) < 2305843009213693951 by decide)
    generalize (v * 1181783497276652981 + (i : Int) * (i : Int) + (k : Int)) % 2305843009213693951 = w at w0 w1
    have bw : mulB w = true := mulB_n (n := 62) (B.of (k := 2 ^ 62 - 1) (by omega)) (by decide)
    unfold b_law_digits_v1_4f_1; walk_at "ev"
    rw [gMul_ii _ _ bw bw, pow6]; walk_at "ev"
    rw [gMod_pos _ _ (by decide)]; walk_at "ev"
    rw [gFdiv_pos _ _ (by decide) (by decide)]; walk_at "ev"
    rw [mod6]
    rw [appK_ok _ _ _ _ (by rw [List.length_map]; omega)]
    refine ⟨_, .inl rfl, es ++ [_], w, _, by rw [List.map_append]; rfl, by simp; omega, h2.snoc ⟨Int.emod_nonneg _ (by decide), Int.emod_lt_of_pos _ (by decide)⟩, w0, by omega⟩
  obtain ⟨σ', e, es, v, x, rfl, h1, h2, _, _⟩ := forL_nth (i := 6) (fb := b_law_digits_v1_4f) (fun j σ => ∃ es v x, σ = [some (.int c), some (.int (k : Int)), some (.int (many : Int)), some (.lst (es.map D.int)), some (.int r'), some (.int v), x] ∧ es.length = ds.length + j ∧ Dg es ∧ 0 ≤ v ∧ v < 2 ^ 62) _ turn [some (.int c), some (.int (k : Int)), some (.int (many : Int)), some (.lst (ds.map D.int)), some (.int r'), some (.int v0), none] ⟨ds, v0, none, rfl, by omega, g1, hv0.1, hv0.2⟩
  rw [e]; walk_at "ev"
  unfold b_law_digits_v1_5; walk_at "ev"
  rw [List.length_map, rg_len] at h1
  exact ⟨es, rfl, by omega, h2⟩
end LmM
set_option Elab.async false
set_option linter.all false
set_option maxRecDepth 100000
open PySem L2 DL Mir
set_option Elab.async false
set_option linter.all false
set_option maxRecDepth 100000
open PySem L2 DL Mir
namespace LmW
open LmD LmB LmJ LmM
structure Dd where
  w : Bool
  a : Nat
  b : Nat
def Dd.D (d : Dd) : D := .tup [.str (bif d.w then "peg" else "line"), .int (d.a : Int), .int (d.b : Int)]
end LmW
set_option Elab.async false
set_option linter.all false
set_option maxRecDepth 100000
open PySem L2 DL Mir
namespace LmX
open LmD LmB LmJ LmM LmW
theorem eSl_mid (fe f g : DSt → R D) (σ : DSt) (ds : List D) (a b : Nat) (h1 : fe σ = .ok (.lst ds)) (h2 : f σ = .ok (.int (a : Int))) (h3 : g σ = .ok (.int (b : Int))) : eSl fe (oSome f) (oSome g) σ = .ok (.lst ((ds.drop (min a ds.length)).take (min b ds.length - min a ds.length))) := by
  unfold eSl oSome
  rw [h1, h2, h3]
  show R.ok (D.lst (cutD ds (some (a : Int)) (some (b : Int)))) = _
  unfold cutD
  rw [HT.sIx_nat, HT.sIx_nat]
theorem ixd {ds : List Int} {k : Nat} (h : k < ds.length) : gIx (.lst (ds.map .int)) (.int (k : Int)) = .ok (.int (ds.getD k 0)) := gIx_nat (by rw [List.getElem?_map]; simp [h])
end LmX
set_option Elab.async false
set_option linter.all false
set_option maxRecDepth 100000
open PySem L2 DL Mir
set_option Elab.async false
set_option linter.all false
set_option maxRecDepth 100000
open PySem L2 DL Mir
namespace LmY
open LmD LmB LmJ LmK LmM LmW LmX TxtA
def wordL (w : Bool) : List Nat := bif w then [112, 101, 103] else [108, 105, 110, 101]
theorem word_S (w : Bool) : (bif w then "peg" else "line" : Str) = ofL (wordL w) := by cases w <;> rfl
def rowL (d : Dd) : List Nat := TxtA.flat [32] [wordL d.w, digs d.a, digs d.b]
def textL (ds : List Dd) : List Nat := TxtA.flat [59, 32] (ds.map rowL)
structure Sm (d : Dd) : Prop where
  a : d.a < 10 ^ 70
  b : d.b < 10 ^ 70
theorem digs_len {n : Nat} (h : n < 10 ^ 70) : (digs n).length ≤ 70 := digs_lenK (by decide) h
theorem str_ok {n : Nat} (h : n < 10 ^ 70) : gStr [.int (n : Int)] = .ok (.str (ofL (digs n))) := by
  show str1 (.int (n : Int)) = _
  have hl : ((n : Int)).natAbs.log2 < 1920 := by
    rw [Int.natAbs_natCast]
    have : n.log2 ≤ n := Nat.log2_le_self n
    by_cases h0 : n = 0
    · rw [h0]; decide
    · exact (Nat.log2_lt h0).mpr (Nat.lt_of_lt_of_le h (by decide))
  show (bif decide (((n : Int)).natAbs.log2 < 1920) then R.ok (D.str (toString ((n : Nat) : Int))) else .bad) = _
  rw [decide_eq_true hl, cond_true]
  show R.ok (D.str (Str.ofString (toString ((n : Nat) : Int)))) = _
  rw [ofS]
theorem strs_map : ∀ ys : List Str, strsOf (ys.map D.str) = some ys
  | [] => rfl
  | y :: ys => by
    show (strsOf (ys.map D.str)).map (y :: ·) = _
    rw [strs_map ys]; rfl
theorem joinT_eq (z : Str) (ys : List Str) : joinT z ys = Str.join z ys := by
  unfold joinT
  split
  · rfl
  · exact StrLaws.glued_eq_join z ys
theorem sumL_eq (z : Str) (ys : List Str) : sumL z ys = (ys.map (·.length)).sum + ys.length * z.length := StrLaws.joinTotal z ys
theorem join_ok {y : List Nat} {rows : List (List Nat)} {B : Nat} (hB : ∀ r ∈ rows, r.length ≤ B) (h : rows.length * B + rows.length * y.length ≤ 10000000) : joinD (.str (ofL y)) (.lst ((rows.map ofL).map D.str)) = .ok (.str (ofL (TxtA.flat y rows))) := by
  have lo : ∀ l : List Nat, (ofL l).length = l.length := fun l => by simp [ofL, Str.length]
  have h1 : sumL (ofL y) (rows.map ofL) ≤ 10000000 := by
    rw [sumL_eq, lo, List.length_map]
    have := StrLaws.sumLen_le (B := B) (rows.map ofL) (fun s hs => by obtain ⟨r, hr, rfl⟩ := List.mem_map.mp hs; rw [lo]; exact hB r hr)
    rw [List.length_map] at this
    omega
  have h2 : (joinT (ofL y) (rows.map ofL)).length ≤ 10000000 := by
    rw [joinT_eq, join_rows, lo]
    have fl : ∀ rows : List (List Nat), (∀ r ∈ rows, r.length ≤ B) → (TxtA.flat y rows).length ≤ rows.length * B + rows.length * y.length := by
      intro rows
      induction rows with
      | nil => intro _; simp [TxtA.flat]
      | cons r rs ih =>
        intro hr
        cases rs with
        | nil => have := hr r (by simp); simp [TxtA.flat]; omega
        | cons r' rs =>
          have a1 := hr r (by simp)
          have a2 := ih fun q hq => hr q (List.mem_cons_of_mem _ hq)
          rw [TxtA.flat]
          simp only [List.length_append, List.length_cons] at a2 ⊢
          rw [Nat.add_mul (rs.length + 1) 1 B, Nat.add_mul (rs.length + 1) 1 y.length]
          omega
    exact Nat.le_trans (fl rows hB) h
  unfold joinD
  simp only [strs_map]
  rw [show (le24 (sumL (ofL y) (rows.map ofL)) && le24 (joinT (ofL y) (rows.map ofL)).length) = true from by
    rw [Bool.and_eq_true]; exact ⟨decide_eq_true (Nat.le_trans h1 (by decide)), decide_eq_true (Nat.le_trans h2 (by decide))⟩, cond_true, joinT_eq, join_rows]
theorem row_len {d : Dd} (h : Sm d) : (rowL d).length ≤ 150 := by
  have h1 := digs_len h.a
  have h2 := digs_len h.b
  have h3 : (wordL d.w).length ≤ 4 := by cases d.w <;> decide
  show (TxtA.flat [32] [wordL d.w, digs d.a, digs d.b]).length ≤ 150
  simp only [TxtA.flat, List.length_append, List.length_cons, List.length_nil]
  omega
theorem row_ok {d : Dd} (h : Sm d) (σ : DSt) : eJoin (eC (.str " ")) (vLst (eLst (aCons (eOp gIx (eVar 0) (eC (.int 0))) (aCons (eBlt gStr (aCons (eOp gIx (eVar 0) (eC (.int 1))) aNil)) (aCons (eBlt gStr (aCons (eOp gIx (eVar 0) (eC (.int 2))) aNil)) aNil))))) (some d.D :: σ) = .ok (.str (ofL (rowL d))) := by
  show (eC (.str " ") (some d.D :: σ)).bind (fun z => joinE _ (some d.D :: σ) z) = _
  walk_at "ev"
  show ((vLst (eLst (aCons (eOp gIx (eVar 0) (eC (.int 0))) (aCons (eBlt gStr (aCons (eOp gIx (eVar 0) (eC (.int 1))) aNil)) (aCons (eBlt gStr (aCons (eOp gIx (eVar 0) (eC (.int 2))) aNil)) aNil))))) (some d.D :: σ)).bind (fun x => joinD (.str " ") x) = _
  unfold Dd.D
  walk_at "ev"
  rw [str_ok h.a]; walk_at "ev"
  rw [str_ok h.b]; walk_at "ev"
  rw [word_S]
  show joinD (.str (ofL [32])) (.lst (([wordL d.w, digs d.a, digs d.b].map ofL).map D.str)) = _
  have h1 := digs_len h.a
  have h2 := digs_len h.b
  refine join_ok (B := 70) (fun r hr => ?_) (by show 3 * 70 + 3 * 1 ≤ 10000000; decide)
  simp only [List.mem_cons, List.not_mem_nil, or_false] at hr
  rcases hr with rfl | rfl | rfl
  · cases d.w <;> decide
  · exact h1
  · exact h2
theorem shown_ok {ds : List Dd} (hs : ∀ d ∈ ds, Sm d) (hl : ds.length ≤ 20000) : m_shown [.lst (ds.map Dd.D)] = .ok (.str (ofL (textL ds))) := by
  rw [m_shown_go]; unfold b_shown
  have e : eJoin (eC (.str "; ")) (vLst (eLC 1 [0] (iSeq (eVar 0)) gpOne eTrue (eJoin (eC (.str " ")) (vLst (eLst (aCons (eOp gIx (eVar 0) (eC (.int 0))) (aCons (eBlt gStr (aCons (eOp gIx (eVar 0) (eC (.int 1))) aNil)) (aCons (eBlt gStr (aCons (eOp gIx (eVar 0) (eC (.int 2))) aNil)) aNil)))))))) [some (.lst (ds.map Dd.D))] = .ok (.str (ofL (textL ds))) := by
    show ((vLst (eLC 1 [0] (iSeq (eVar 0)) gpOne eTrue (eJoin (eC (.str " ")) (vLst (eLst (aCons (eOp gIx (eVar 0) (eC (.int 0))) (aCons (eBlt gStr (aCons (eOp gIx (eVar 0) (eC (.int 1))) aNil)) (aCons (eBlt gStr (aCons (eOp gIx (eVar 0) (eC (.int 2))) aNil)) aNil)))))))) [some (.lst (ds.map Dd.D))]).bind (fun x => joinD (.str "; ") x) = _
    walk_at "ev"
    rw [LmB.lc_mapP (g := fun d => .str (ofL (rowL d))) (by omega) (fun d hd => row_ok (hs d hd) _)]
    walk_at "ev"
    show joinD (.str (ofL [59, 32])) (.lst (ds.map fun d => .str (ofL (rowL d)))) = _
    rw [show (ds.map fun d => D.str (ofL (rowL d))) = (((ds.map rowL).map ofL).map D.str) from by rw [List.map_map, List.map_map]; rfl]
    refine join_ok (B := 150) (fun r hr => ?_) ?_
    · obtain ⟨d, hd, rfl⟩ := List.mem_map.mp hr
      exact row_len (hs d hd)
    · rw [List.length_map]
      show ds.length * 150 + ds.length * 2 ≤ 10000000
      omega
  rw [sRet_def, e]; walk_at "ev"
theorem flat_len (y : List Nat) {B : Nat} : ∀ rows : List (List Nat), (∀ r ∈ rows, r.length ≤ B) → (TxtA.flat y rows).length ≤ rows.length * B + rows.length * y.length
  | [], _ => by simp [TxtA.flat]
  | [r], h => by have := h r (by simp); simp [TxtA.flat]; omega
  | r :: r' :: rs, h => by
    have a1 := h r (by simp)
    have a2 := flat_len y (r' :: rs) fun q hq => h q (List.mem_cons_of_mem _ hq)
    rw [TxtA.flat]
    simp only [List.length_append, List.length_cons] at a2 ⊢
    rw [Nat.add_mul (rs.length + 1) 1 B, Nat.add_mul (rs.length + 1) 1 y.length]
    omega
theorem mem_flat {y : List Nat} {c : Nat} : ∀ {rows : List (List Nat)}, c ∈ TxtA.flat y rows → c ∈ y ∨ ∃ r ∈ rows, c ∈ r
  | [], h => by simp [TxtA.flat] at h
  | [r], h => .inr ⟨r, by simp, by simpa [TxtA.flat] using h⟩
  | r :: r' :: rs, h => by
    rw [TxtA.flat] at h
    simp only [List.mem_append] at h
    rcases h with (h | h) | h
    · exact .inr ⟨r, by simp, h⟩
    · exact .inl h
    · rcases mem_flat h with h | ⟨q, hq, hc⟩
      · exact .inl h
      · exact .inr ⟨q, List.mem_cons_of_mem _ hq, hc⟩
theorem digs_mem {n c : Nat} (h : c ∈ digs n) : 48 ≤ c ∧ c ≤ 57 := digs_all n c h
theorem word_mem {w : Bool} {c : Nat} (h : c ∈ wordL w) : 97 ≤ c := by
  revert c; cases w <;> decide
theorem row_no {d : Dd} : (59 : Nat) ∉ rowL d := fun h => by
  rcases mem_flat h with h | ⟨r, hr, hc⟩
  · revert h; decide
  · simp only [List.mem_cons, List.not_mem_nil, or_false] at hr
    rcases hr with rfl | rfl | rfl
    · have := word_mem hc; omega
    · have := digs_mem hc; omega
    · have := digs_mem hc; omega
theorem split_ok {c : Nat} {t : List Nat} {rows : List (List Nat)} (hc : c ∉ t) (hk : ∀ k ∈ c :: t, k < 256) (hne : rows ≠ []) (hr : ∀ r ∈ rows, c ∉ r) (hl : (TxtA.flat (c :: t) rows).length ≤ 10000000) : splitD (.str (ofL (TxtA.flat (c :: t) rows))) (.str (ofL (c :: t))) = .ok ((rows.map ofL).map D.str) := by
  have lo : ∀ l : List Nat, (ofL l).length = l.length := fun l => by simp [ofL, Str.length]
  unfold splitD
  show (bif (!((ofL (c :: t)).length == 0)) && le24 ((ofL (TxtA.flat (c :: t) rows)).length + 2) then R.ok ((Txt.split _ _).map D.str) else .bad) = _
  rw [split_rows hc hk hne hr, lo, lo]
  rw [show (!((c :: t).length == 0) && le24 ((TxtA.flat (c :: t) rows).length + 2)) = true from by
    rw [Bool.and_eq_true]; exact ⟨by simp, decide_eq_true (by show _ ≤ 16777216; omega)⟩, cond_true]
def wordsD (d : Dd) : D := .lst [.str (bif d.w then "peg" else "line"), .str (ofL (digs d.a)), .str (ofL (digs d.b))]
theorem words_ok {d : Dd} (h : Sm d) : splitD (.str (ofL (rowL d))) (.str " ") = .ok [.str (bif d.w then "peg" else "line"), .str (ofL (digs d.a)), .str (ofL (digs d.b))] := by
  rw [word_S]
  refine split_ok (c := 32) (t := []) (rows := [wordL d.w, digs d.a, digs d.b]) (by simp) (by decide) (by simp) (fun r hr hc => ?_) (Nat.le_trans (row_len h) (by decide))
  simp only [List.mem_cons, List.not_mem_nil, or_false] at hr
  rcases hr with rfl | rfl | rfl
  · have := word_mem hc; omega
  · have := digs_mem hc; omega
  · have := digs_mem hc; omega
theorem text_len {ds : List Dd} (hs : ∀ d ∈ ds, Sm d) : (textL ds).length ≤ ds.length * 152 := by
  have := flat_len [59, 32] (B := 150) (ds.map rowL) (fun r hr => by obtain ⟨d, hd, rfl⟩ := List.mem_map.mp hr; exact row_len (hs d hd))
  rw [List.length_map] at this
  have e : ([59, 32] : List Nat).length = 2 := rfl
  rw [e] at this
  unfold textL
  omega
theorem rows_ok {ds : List Dd} (hs : ∀ d ∈ ds, Sm d) (hl : ds.length ≤ 20000) (hne : ds ≠ []) : m_rows_of [.str (ofL (textL ds))] = .ok (.lst (ds.map wordsD)) := by
  have ht := text_len hs
  rw [m_rows_of_go]; unfold b_rows_of; walk_at "ev"
  rw [show ∀ x : Str, g2 isi3 [.str x, .ty "str"] = .ok (.bl true) from fun _ => rfl]; walk_at "ev"
  unfold b_rows_of_1
  have e : eSplit (eVar 0) (eC (.str "; ")) [some (.str (ofL (textL ds)))] = .ok (((ds.map rowL).map ofL).map D.str) := by
    show splitD (.str (ofL (textL ds))) (.str "; ") = _
    exact split_ok (c := 59) (t := [32]) (rows := ds.map rowL) (by decide) (by decide) (by simpa using hne) (fun r hr => by obtain ⟨d, _, rfl⟩ := List.mem_map.mp hr; exact row_no) (show (textL ds).length ≤ 10000000 by omega)
  walk_at "ev"
  rw [e]; walk_at "ev"
  rw [List.map_map, List.map_map, LmB.lc_mapP (g := wordsD) (by omega) (fun d hd => ?_)]
  · walk_at "ev"
  · show ((splitD (.str (ofL (rowL d))) (.str " ")).bind fun l => R.ok (D.lst l)) = _
    rw [words_ok (hs d hd)]; rfl
theorem gEq_ss (a b : Str) : gEq (.str a) (.str b) = .ok (.bl (a == b)) := rfl
theorem gNe_ss (a b : Str) : gNe (.str a) (.str b) = .ok (.bl (!(a == b))) := rfl
theorem ofL_inj {a b : List Nat} (h : ofL a = ofL b) : a = b := by
  have := congrArg (fun s : Str => s.cps.toList) h
  simpa [ofL] using this
theorem ofL_ne {a b : List Nat} (h : a ≠ b) : (ofL a == ofL b) = false := by
  cases e : (ofL a == ofL b)
  · rfl
  · exact absurd (ofL_inj (eq_of_beq e)) h
theorem fig_in : ∀ c : Nat, 48 ≤ c ∧ c ≤ 57 → gIn (.str (sign c)) k_FIGURES = .ok (.bl true) := by
  intro c h
  show R.ok (D.bl (!(Builtin.Str.occurrences ("0123456789" : Str) ⟨#[c]⟩ 0 ("0123456789" : Str).length 1).isEmpty)) = _
  rw [StrLaws.found_one, show ("0123456789" : Str).cps.toList = [48, 49, 50, 51, 52, 53, 54, 55, 56, 57] from rfl]
  rw [decide_eq_true (by simp only [List.mem_cons, List.not_mem_nil, or_false]; omega)]
theorem read_number_ok {n : Nat} (h : n < 10 ^ 70) : m_read_number [.str (ofL (digs n))] = .ok (.int (n : Int)) := by
  have hl := digs_len h
  have lo : ∀ l : List Nat, (ofL l).length = l.length := fun l => by simp [ofL, Str.length]
  obtain ⟨c, cs, hc⟩ := List.exists_cons_of_ne_nil (digs_ne n)
  rw [m_read_number_go]; unfold b_read_number; walk_at "ev"
  rw [show (D.str "") = .str (ofL []) from rfl, gEq_ss, ofL_ne (digs_ne n)]; walk_at "ev"
  rw [show iStr (eVar 0) [some (.str (ofL (digs n)))] = .ok ((digs n).map fun c => .str (sign c)) from rfl, LmB.lc_mapP (g := fun _ => .bl true) (by omega) (fun c hc => by walk_at "ev"; exact fig_in c (digs_mem hc))]; walk_at "ev"
  rw [show ((digs n).map fun _ => D.bl true) = ((digs n).map fun _ => true).map D.bl from by rw [List.map_map]; rfl, LmB.gAll_bls, show ((digs n).map fun _ => true).all id = true from by simp]; walk_at "ev"
  unfold b_read_number_1; walk_at "ev"
  rw [show gIxS (.str (ofL (digs n))) (.int 0) = .ok (.str (sign c)) from by rw [hc]; rfl]; walk_at "ev"
  rw [show (D.str "0") = .str (ofL [48]) from rfl, gEq_ss]; walk_at "ev"
  have fin : fin (b_read_number_2 [some (.str (ofL (digs n)))]) = .ok (.int (n : Int)) := by
    unfold b_read_number_2; walk_at "ev"
    rw [show gIntT [.str (ofL (digs n))] = .ok (.int (n : Int)) from by
      show intT1 (.str (ofL (digs n))) = _
      unfold intT1
      simp only [digs_reads h]
      rw [show decide ((ofL (digs n)).length ≤ 640) = true from decide_eq_true (by rw [lo]; omega)]; rfl]; walk_at "ev"
  by_cases h0 : c = 48
  · subst h0
    have := digs_zero hc
    subst this
    rw [show (sign 48 == ofL [48]) = true from by decide]; walk_at "ev"
    rw [show gNe (.str (ofL (digs n))) (.str (ofL [48])) = .ok (.bl false) from by rw [gNe_ss, hc, show (ofL [48] == ofL [48]) = true from by decide]; rfl]; walk_at "ev"
    exact fin
  · rw [show (sign c == ofL [48]) = false from ofL_ne (a := [c]) (by simpa using h0)]; walk_at "ev"
    exact fin
theorem read_deed_ok {d : Dd} (h : Sm d) : m_read_deed [wordsD d] = .ok d.D := by
  unfold wordsD
  rw [m_read_deed_go]; unfold b_read_deed; walk_at "ev"
  rw [show ∀ a b c : D, decide ((([a, b, c].length : Nat) : Int) = 3) = true from fun _ _ _ => rfl]; walk_at "ev"
  have e : gNin (.str (bif d.w then "peg" else "line")) (.tup [.str "line", .str "peg"]) = .ok (.bl false) := by cases d.w <;> rfl
  rw [e]; walk_at "ev"
  unfold b_read_deed_1; walk_at "ev"
  rw [read_number_ok h.a]
  rw [read_number_ok h.b]; walk_at "ev"
  rfl
theorem text_ne {ds : List Dd} (h : ds ≠ []) : textL ds ≠ [] := by
  obtain ⟨d, r, rfl⟩ := List.exists_cons_of_ne_nil h
  intro e
  have : ∀ c ∈ rowL d, c ∈ textL (d :: r) := by
    intro c hc
    unfold textL
    cases r with
    | nil => simpa [TxtA.flat] using hc
    | cons d' r => simp only [List.map_cons, TxtA.flat, List.mem_append]; exact .inl (.inl hc)
  rw [e] at this
  have h1 : (wordL d.w).head (by cases d.w <;> decide) ∈ rowL d := by
    unfold rowL
    simp only [TxtA.flat, List.mem_append]
    exact .inl (.inl (List.head_mem _))
  exact absurd (this _ h1) (by simp)
end LmY
set_option Elab.async false
set_option linter.all false
set_option maxRecDepth 100000
open PySem L2 DL Mir
namespace LmU
open LmD LmB LmM LmW LmX LmY TxtA
theorem pow54 : gPow (.int 10) (.int 54) = .ok (.int (10 ^ 54)) := rfl
theorem pow30 : gPow (.int 10) (.int 30) = .ok (.int (10 ^ 30)) := rfl
theorem ix3_0 (a b c : D) : gIx (.lst [a, b, c]) (.int 0) = .ok a := rfl
theorem ix3_1 (a b c : D) : gIx (.lst [a, b, c]) (.int 1) = .ok b := rfl
theorem ix3_2 (a b c : D) : gIx (.lst [a, b, c]) (.int 2) = .ok c := rfl
theorem number_ok {a b c : Int} (ha : 0 ≤ a ∧ a < 1000000) (hb : 0 ≤ b ∧ b < 1000000) (hc : 0 ≤ c ∧ c < 1000000) : ∃ n : Nat, n < 10 ^ 70 ∧ m_law_number [.lst [.int a, .int b, .int c]] = .ok (.int (n : Int)) := by
  have ba : mulB a = true := mulB_n (n := 20) (B.of (k := 1000000) (by omega)) (by decide)
  have bb : mulB b = true := mulB_n (n := 20) (B.of (k := 1000000) (by omega)) (by decide)
  rw [m_law_number_go]; unfold b_law_number; walk_at "ev"
  rw [pow54, pow30]; walk_at "ev"
  rw [gMod_pos a 12 (by decide), gMul_ii _ _ ba (by decide +kernel), gMul_ii _ _ bb (by decide +kernel), gMod_pos c 3 (by decide)]; walk_at "ev"
  have m3 : c % 3 = 0 ∨ c % 3 = 1 ∨ c % 3 = 2 := by omega
  rcases m3 with h | h | h <;> rw [h]
  · rw [ix3_0]; walk_at "ev"
    exact ⟨(a % 12).toNat, Nat.lt_of_lt_of_le (show (a % 12).toNat < 12 by omega) (by decide), by rw [show (((a % 12).toNat : Nat) : Int) = a % 12 by omega]⟩
  · rw [ix3_1]; walk_at "ev"
    exact ⟨a.toNat, Nat.lt_of_lt_of_le (show a.toNat < 1000000 by omega) (by decide), by rw [show ((a.toNat : Nat) : Int) = a by omega]⟩
  · rw [ix3_2]; walk_at "ev"
    obtain ⟨a', rfl⟩ := Int.eq_ofNat_of_zero_le ha.1
    obtain ⟨b', rfl⟩ := Int.eq_ofNat_of_zero_le hb.1
    refine ⟨a' * 10 ^ 54 + b' * 10 ^ 30 + 7, ?_, by rw [Int.natCast_add, Int.natCast_add, Int.natCast_mul, Int.natCast_mul]; rfl⟩
    have h1 : a' * 10 ^ 54 ≤ 1000000 * 10 ^ 54 := Nat.mul_le_mul_right _ (by omega)
    have h2 : b' * 10 ^ 30 ≤ 1000000 * 10 ^ 30 := Nat.mul_le_mul_right _ (by omega)
    exact Nat.lt_of_le_of_lt (Nat.add_le_add_right (Nat.add_le_add h1 h2) 7) (by decide)
theorem mid3 (a b c d e f g : D) (σ : DSt) (j : Nat) (h : eVar j σ = .ok (.lst [a, b, c, d, e, f, g])) : eSl (eVar j) (oSome (eC (.int 1))) (oSome (eC (.int 4))) σ = .ok (.lst [b, c, d]) := eSl_mid _ _ _ _ [a, b, c, d, e, f, g] 1 4 h rfl rfl
theorem mid6 (a b c d e f g : D) (σ : DSt) (j : Nat) (h : eVar j σ = .ok (.lst [a, b, c, d, e, f, g])) : eSl (eVar j) (oSome (eC (.int 4))) (oSome (eC (.int 7))) σ = .ok (.lst [e, f, g]) := eSl_mid _ _ _ _ [a, b, c, d, e, f, g] 4 7 h rfl rfl
theorem deed_ok {cs : List Int} {k : Nat} (hk : k < cs.length) (hc : cs.length ≤ 84) (ds : List Dd) (hd : ds.length ≤ 84) (x : Option D) : ∃ d y, LmY.Sm d ∧ b_law_deeds_1f [some (.lst (cs.map .int)), some (.lst (ds.map Dd.D)), some (.int (k : Int)), x] = .ok (.nx [some (.lst (cs.map .int)), some (.lst ((ds ++ [d]).map Dd.D)), some (.int (k : Int)), y]) := by
  obtain ⟨es, ee, le, ge⟩ := digits_ok (cs.getD k 0) k 7 (by omega) (by decide)
  obtain ⟨e0, e1, e2, e3, e4, e5, e6, rfl⟩ : ∃ e0 e1 e2 e3 e4 e5 e6, es = [e0, e1, e2, e3, e4, e5, e6] := by
    match es, le with
    | [e0, e1, e2, e3, e4, e5, e6], _ => exact ⟨e0, e1, e2, e3, e4, e5, e6, rfl⟩
  obtain ⟨m, hm, em⟩ := number_ok (ge e1 (by simp)) (ge e2 (by simp)) (ge e3 (by simp))
  obtain ⟨n, hn, en⟩ := number_ok (ge e4 (by simp)) (ge e5 (by simp)) (ge e6 (by simp))
  unfold b_law_deeds_1f; walk_at "ev"
  rw [ixd hk]; walk_at "ev"
  rw [show m_law_digits_v1 [.int (cs.getD k 0), .int (k : Int), .int 7] = _ from ee, show ([e0, e1, e2, e3, e4, e5, e6] : List Int).map D.int = [.int e0, .int e1, .int e2, .int e3, .int e4, .int e5, .int e6] from rfl]; walk_at "ev"
  unfold b_law_deeds_1f_1; walk_at "ev"
  rw [show gIx (.lst [.int e0, .int e1, .int e2, .int e3, .int e4, .int e5, .int e6]) (.int 0) = .ok (.int e0) from rfl]; walk_at "ev"
  rw [gMod_pos e0 2 (by decide)]; walk_at "ev"
  rw [mid3 _ _ _ _ _ _ _ _ _ rfl, mid6 _ _ _ _ _ _ _ _ _ rfl]; walk_at "ev"
  rw [em]
  rw [en]; walk_at "ev"
  obtain ⟨w, hw⟩ : ∃ w : Bool, gIx (.lst [.str "line", .str "peg"]) (.int (e0 % 2)) = .ok (.str (bif w then "peg" else "line")) := by
    have m2 : e0 % 2 = 0 ∨ e0 % 2 = 1 := by omega
    rcases m2 with h | h <;> rw [h]
    · exact ⟨false, rfl⟩
    · exact ⟨true, rfl⟩
  rw [hw]; walk_at "ev"
  rw [appK_ok _ _ _ _ (by rw [List.length_map]; omega)]
  exact ⟨⟨w, m, n⟩, _, ⟨hm, hn⟩, by rw [List.map_append]; rfl⟩
theorem rngD_0 (n : Nat) : rngD 0 ((n : Nat) : Int).toNat = (List.range n).map fun k : Nat => D.int (k : Int) := by
  unfold rngD
  rw [Int.toNat_natCast]
  exact List.map_congr_left fun k _ => by rw [Int.zero_add]
theorem deeds_ok (cs : List Int) (hc : cs.length ≤ 84) : ∃ ds : List Dd, ds.length = cs.length ∧ (∀ d ∈ ds, LmY.Sm d) ∧ m_law_deeds [.lst (cs.map .int)] = .ok (.lst (ds.map Dd.D)) := by
  rw [m_law_deeds_go]; unfold b_law_deeds; walk_at "ev"
  unfold b_law_deeds_1; walk_at "ev"
  rw [List.length_map, rng1_i _ (rOk_of (by omega) (by omega)), rngD_0]; walk_at "ev"
  have turn : ∀ (j : Nat) (d : D) (σ : DSt), ((List.range cs.length).map fun k : Nat => D.int (k : Int))[j]? = some d → (∃ (ds : List Dd) (x2 x3 : Option D), σ = [some (.lst (cs.map .int)), some (.lst (ds.map Dd.D)), x2, x3] ∧ ds.length = j ∧ ∀ d ∈ ds, LmY.Sm d) →
      ∃ σ', (b_law_deeds_1f (σ.set 2 (some d)) = .ok (.nx σ') ∨ b_law_deeds_1f (σ.set 2 (some d)) = .ok (.ct σ')) ∧ ∃ (ds : List Dd) (x2 x3 : Option D), σ' = [some (.lst (cs.map .int)), some (.lst (ds.map Dd.D)), x2, x3] ∧ ds.length = j + 1 ∧ ∀ d ∈ ds, LmY.Sm d := by
    rintro j d σ hj ⟨ds, x2, x3, rfl, hl, hs⟩
    have hjl : j < cs.length := by
      have := (List.getElem?_eq_some_iff.mp hj).1
      simpa using this
    rw [List.getElem?_map, List.getElem?_range hjl] at hj
    obtain rfl := Option.some.inj hj
    obtain ⟨e, y, se, he⟩ := deed_ok hjl hc ds (by omega) x3
    refine ⟨_, .inl he, ds ++ [e], _, _, rfl, by rw [List.length_append, List.length_singleton, hl], fun q hq => ?_⟩
    rcases List.mem_append.mp hq with hq | hq
    · exact hs q hq
    · rw [List.mem_singleton.mp hq]; exact se
  obtain ⟨σ', e, ds, x2, x3, rfl, hl, hs⟩ := forL_nth (i := 2) (fb := b_law_deeds_1f) (fun j σ => ∃ (ds : List Dd) (x2 x3 : Option D), σ = [some (.lst (cs.map .int)), some (.lst (ds.map Dd.D)), x2, x3] ∧ ds.length = j ∧ ∀ d ∈ ds, LmY.Sm d) _ turn [some (.lst (cs.map .int)), some (.lst []), none, none] ⟨[], none, none, rfl, rfl, by simp⟩
  rw [e]; walk_at "ev"
  unfold b_law_deeds_2; walk_at "ev"
  rw [List.length_map, List.length_range] at hl
  exact ⟨ds, hl, hs, rfl⟩
end LmU
set_option Elab.async false
set_option linter.all false
set_option maxRecDepth 100000
open PySem L2 DL Mir
namespace LmO
open LmD LmB LmM LmW LmX LmY LmU TxtA
def cutW : List Nat → List (List Nat)
  | [] => [[]]
  | c :: r => if c = 32 then [] :: cutW r else match cutW r with
    | w :: ws => (c :: w) :: ws
    | [] => [[c]]
theorem cutW_ne : ∀ r, cutW r ≠ []
  | [] => by simp [cutW]
  | c :: r => by
    unfold cutW
    split
    · simp
    · split <;> simp
theorem cutW_no : ∀ r, ∀ w ∈ cutW r, (32 : Nat) ∉ w
  | [], w, h => by simp [cutW] at h; simp [h]
  | c :: r, w, h => by
    have ih := cutW_no r
    unfold cutW at h
    split at h
    · rcases List.mem_cons.mp h with rfl | h
      · simp
      · exact ih w h
    · rename_i hc
      split at h
      · rename_i w' ws e
        rw [e] at ih
        rcases List.mem_cons.mp h with rfl | h
        · intro q
          rcases List.mem_cons.mp q with q | q
          · exact hc q.symm
          · exact ih w' (by simp) q
        · exact ih w (List.mem_cons_of_mem _ h)
      · rename_i e
        exact absurd e (cutW_ne r)
theorem flat_cons (y r : List Nat) {rs : List (List Nat)} (h : rs ≠ []) : TxtA.flat y (r :: rs) = r ++ y ++ TxtA.flat y rs := by
  obtain ⟨q, qs, rfl⟩ := List.exists_cons_of_ne_nil h
  rfl
theorem flat_cutW : ∀ r, TxtA.flat [32] (cutW r) = r
  | [] => rfl
  | c :: r => by
    have ih := flat_cutW r
    unfold cutW
    split
    · rename_i hc
      rw [flat_cons _ _ (cutW_ne r), ih, hc]; rfl
    · split
      · rename_i w ws e
        rw [e] at ih
        cases ws with
        | nil => rw [← ih]; rfl
        | cons q qs => rw [← ih]; rfl
      · rename_i e
        exact absurd e (cutW_ne r)
theorem cutW_app {w : List Nat} (h : (32 : Nat) ∉ w) (r : List Nat) : cutW (w ++ 32 :: r) = w :: cutW r := by
  induction w with
  | nil => simp [cutW]
  | cons c w ih =>
    have hc : ¬ c = 32 := fun z => h (by rw [z]; exact List.mem_cons_self)
    rw [List.cons_append, cutW, if_neg hc, ih fun q => h (List.mem_cons_of_mem _ q)]
theorem cutW_one {w : List Nat} (h : (32 : Nat) ∉ w) : cutW w = [w] := by
  induction w with
  | nil => rfl
  | cons c w ih =>
    have hc : ¬ c = 32 := fun z => h (by rw [z]; exact List.mem_cons_self)
    rw [cutW, if_neg hc, ih fun q => h (List.mem_cons_of_mem _ q)]
theorem cutW_flat : ∀ {ws : List (List Nat)}, ws ≠ [] → (∀ w ∈ ws, (32 : Nat) ∉ w) → cutW (TxtA.flat [32] ws) = ws
  | [], h, _ => absurd rfl h
  | [w], _, h => cutW_one (h w (by simp))
  | w :: w' :: ws, _, h => by
    rw [TxtA.flat, List.append_assoc, List.singleton_append, cutW_app (h w (by simp)), cutW_flat (by simp) fun q hq => h q (List.mem_cons_of_mem _ hq)]
def wl (ws : List (List Nat)) : D := .lst ((ws.map ofL).map D.str)
def Fr (r : List Nat) : Prop := ∀ i, r[i]? = some 59 → r[i + 1]? ≠ some 32
theorem Fr.free {r : List Nat} (h : Fr r) : Free 59 [32] r := fun i hi p hp q => by
  have h0 := hit_head q
  rw [List.getElem?_append_left hi] at h0
  have h1 : (r ++ p)[i + 1]? = some 32 := by
    unfold Hit at q
    have : (((r ++ p).drop i).take ([59, 32] : List Nat).length)[1]? = some 32 := by rw [q]; rfl
    rw [List.getElem?_take, if_pos (by decide), List.getElem?_drop] at this
    exact this
  by_cases hl : i + 1 < r.length
  · rw [List.getElem?_append_left hl] at h1
    exact h i h0 h1
  · rw [List.getElem?_append_right (by omega), show i + 1 - r.length = 0 by omega] at h1
    rcases hp with rfl | hp
    · simp at h1
    · rw [← List.head?_eq_getElem?, hp] at h1
      exact absurd h1 (by decide)
theorem fr_no {r : List Nat} (h : (59 : Nat) ∉ r) : Fr r := fun i hi => absurd (List.mem_of_getElem? hi) h
theorem lo (l : List Nat) : (ofL l).length = l.length := by simp [ofL, Str.length]
theorem split_okF {rows : List (List Nat)} (hne : rows ≠ []) (hr : ∀ r ∈ rows, Fr r) (hl : (TxtA.flat [59, 32] rows).length ≤ 10000000) : splitD (.str (ofL (TxtA.flat [59, 32] rows))) (.str (ofL [59, 32])) = .ok ((rows.map ofL).map D.str) := by
  unfold splitD
  show (bif (!((ofL [59, 32]).length == 0)) && le24 ((ofL (TxtA.flat [59, 32] rows)).length + 2) then R.ok ((Txt.split _ _).map D.str) else .bad) = _
  rw [split_free (by decide) (by decide) hne fun r h => (hr r h).free, lo, lo]
  rw [show (!(([59, 32] : List Nat).length == 0) && le24 ((TxtA.flat [59, 32] rows).length + 2)) = true from by
    rw [Bool.and_eq_true]; exact ⟨by simp, decide_eq_true (by show _ ≤ 16777216; omega)⟩, cond_true]
theorem words_okF (r : List Nat) (hl : r.length ≤ 10000000) : splitD (.str (ofL r)) (.str " ") = .ok (((cutW r).map ofL).map D.str) := by
  have e := split_ok (c := 32) (t := []) (rows := cutW r) (by simp) (by decide) (cutW_ne r) (cutW_no r) (by rw [flat_cutW]; exact hl)
  rw [flat_cutW] at e
  exact e
theorem rows_okF {rows : List (List Nat)} (hne : rows ≠ []) (hr : ∀ r ∈ rows, Fr r ∧ r.length ≤ 1000) (hl : rows.length ≤ 1000) : m_rows_of [.str (ofL (TxtA.flat [59, 32] rows))] = .ok (.lst (rows.map fun r => wl (cutW r))) := by
  have ht := flat_len [59, 32] (B := 1000) rows fun r h => (hr r h).2
  have e2 : ([59, 32] : List Nat).length = 2 := rfl
  rw [e2] at ht
  rw [m_rows_of_go]; unfold b_rows_of; walk_at "ev"
  rw [show ∀ x : Str, g2 isi3 [.str x, .ty "str"] = .ok (.bl true) from fun _ => rfl]; walk_at "ev"
  unfold b_rows_of_1
  have e : eSplit (eVar 0) (eC (.str "; ")) [some (.str (ofL (TxtA.flat [59, 32] rows)))] = .ok ((rows.map ofL).map D.str) := by
    show splitD (.str (ofL (TxtA.flat [59, 32] rows))) (.str "; ") = _
    exact split_okF hne (fun r h => (hr r h).1) (by omega)
  walk_at "ev"
  rw [e]; walk_at "ev"
  rw [List.map_map, LmB.lc_mapP (g := fun r => wl (cutW r)) (by omega) (fun r h => ?_)]
  · walk_at "ev"
  · show ((splitD (.str (ofL r)) (.str " ")).bind fun l => R.ok (D.lst l)) = _
    rw [words_okF r (by have := (hr r h).2; omega)]; rfl
abbrev nt : D := .exc "NoText" []
theorem fig_out : ∀ c : Nat, ¬ (48 ≤ c ∧ c ≤ 57) → gIn (.str (sign c)) k_FIGURES = .ok (.bl false) := by
  intro c h
  show R.ok (D.bl (!(Builtin.Str.occurrences ("0123456789" : Str) ⟨#[c]⟩ 0 ("0123456789" : Str).length 1).isEmpty)) = _
  rw [StrLaws.found_one, show ("0123456789" : Str).cps.toList = [48, 49, 50, 51, 52, 53, 54, 55, 56, 57] from rfl]
  rw [decide_eq_false (by simp only [List.mem_cons, List.not_mem_nil, or_false]; omega)]
theorem fig_b (c : Nat) : gIn (.str (sign c)) k_FIGURES = .ok (.bl (decide (48 ≤ c ∧ c ≤ 57))) := by
  by_cases h : 48 ≤ c ∧ c ≤ 57
  · rw [decide_eq_true h, fig_in c h]
  · rw [decide_eq_false h, fig_out c h]
structure BadN (w : List Nat) : Prop where
  len : w.length ≤ 1000
  bad : w = [] ∨ (∃ c ∈ w, ¬ (48 ≤ c ∧ c ≤ 57)) ∨ ∃ x r, w = 48 :: x :: r
theorem read_number_bad {w : List Nat} (h : BadN w) : m_read_number [.str (ofL w)] = .err nt := by
  have hl := h.len
  rw [m_read_number_go]; unfold b_read_number; walk_at "ev"
  by_cases h0 : w = []
  · subst h0
    rw [show gEq (.str (ofL [])) (.str "") = .ok (.bl true) from rfl]; walk_at "ev"
  · rw [show (D.str "") = .str (ofL []) from rfl, gEq_ss, ofL_ne h0]; walk_at "ev"
    rw [show iStr (eVar 0) [some (.str (ofL w))] = .ok (w.map fun c => .str (sign c)) from rfl, LmB.lc_mapP (g := fun c => .bl (decide (48 ≤ c ∧ c ≤ 57))) (by omega) (fun c hc => by walk_at "ev"; exact fig_b c)]; walk_at "ev"
    rw [show (w.map fun c => D.bl (decide (48 ≤ c ∧ c ≤ 57))) = (w.map fun c => decide (48 ≤ c ∧ c ≤ 57)).map D.bl from by rw [List.map_map]; rfl, LmB.gAll_bls]; walk_at "ev"
    cases ha : (w.map fun c => decide (48 ≤ c ∧ c ≤ 57)).all id with
    | false => walk_at "ev"
    | true =>
      walk_at "ev"
      have hd : ∀ c ∈ w, 48 ≤ c ∧ c ≤ 57 := fun c hc => by
        have := List.all_eq_true.mp ha (decide (48 ≤ c ∧ c ≤ 57)) (List.mem_map.mpr ⟨c, hc, rfl⟩)
        exact of_decide_eq_true this
      rcases h.bad with h1 | ⟨c, hc, h1⟩ | ⟨x, r, rfl⟩
      · exact absurd h1 h0
      · exact absurd (hd c hc) h1
      · unfold b_read_number_1; walk_at "ev"
        rw [show gIxS (.str (ofL (48 :: x :: r))) (.int 0) = .ok (.str (sign 48)) from rfl]; walk_at "ev"
        rw [show (D.str "0") = .str (ofL [48]) from rfl, gEq_ss]; walk_at "ev"
        rw [show (sign 48 == ofL [48]) = true from by decide]; walk_at "ev"
        rw [show gNe (.str (ofL (48 :: x :: r))) (.str (ofL [48])) = .ok (.bl true) from by rw [gNe_ss, ofL_ne (by simp)]; rfl]; walk_at "ev"
theorem deed_len {ws : List (List Nat)} (h : ws.length ≠ 3) (hl : ws.length ≤ 1000) : m_read_deed [wl ws] = .err nt := by
  unfold wl
  rw [m_read_deed_go]; unfold b_read_deed; walk_at "ev"
  rw [List.length_map, List.length_map, decide_eq_false (show ¬ ((ws.length : Int) = 3) by omega)]; walk_at "ev"
theorem nin_word {w : List Nat} (h1 : w ≠ wordL false) (h2 : w ≠ wordL true) : gNin (.str (ofL w)) (.tup [.str "line", .str "peg"]) = .ok (.bl true) := by
  show R.ok (D.bl (!inD (.str (ofL w)) [.str (ofL (wordL false)), .str (ofL (wordL true))])) = _
  rw [show inD (.str (ofL w)) [.str (ofL (wordL false)), .str (ofL (wordL true))] = ((ofL (wordL false) == ofL w) || ((ofL (wordL true) == ofL w) || false)) from by unfold inD; simp only [List.any_cons, List.any_nil]; unfold eqD; rfl, ofL_ne (Ne.symm h1), ofL_ne (Ne.symm h2)]
  rfl
theorem nin_word_no (w : Bool) : gNin (.str (ofL (wordL w))) (.tup [.str "line", .str "peg"]) = .ok (.bl false) := by cases w <;> rfl
theorem deed_word {w a b : List Nat} (h1 : w ≠ wordL false) (h2 : w ≠ wordL true) : m_read_deed [wl [w, a, b]] = .err nt := by
  show m_read_deed [.lst [.str (ofL w), .str (ofL a), .str (ofL b)]] = _
  rw [m_read_deed_go]; unfold b_read_deed; walk_at "ev"
  rw [show ∀ a b c : D, decide ((([a, b, c].length : Nat) : Int) = 3) = true from fun _ _ _ => rfl]; walk_at "ev"
  rw [nin_word h1 h2]; walk_at "ev"
theorem deed_one {w : Bool} {a b : List Nat} (h : BadN a) : m_read_deed [wl [wordL w, a, b]] = .err nt := by
  show m_read_deed [.lst [.str (ofL (wordL w)), .str (ofL a), .str (ofL b)]] = _
  rw [m_read_deed_go]; unfold b_read_deed; walk_at "ev"
  rw [show ∀ a b c : D, decide ((([a, b, c].length : Nat) : Int) = 3) = true from fun _ _ _ => rfl]; walk_at "ev"
  rw [nin_word_no]; walk_at "ev"
  unfold b_read_deed_1; walk_at "ev"
  rw [read_number_bad h]; walk_at "ev"
  rfl
theorem deed_two {w : Bool} {n : Nat} {b : List Nat} (hn : n < 10 ^ 70) (h : BadN b) : m_read_deed [wl [wordL w, digs n, b]] = .err nt := by
  show m_read_deed [.lst [.str (ofL (wordL w)), .str (ofL (digs n)), .str (ofL b)]] = _
  rw [m_read_deed_go]; unfold b_read_deed; walk_at "ev"
  rw [show ∀ a b c : D, decide ((([a, b, c].length : Nat) : Int) = 3) = true from fun _ _ _ => rfl]; walk_at "ev"
  rw [nin_word_no]; walk_at "ev"
  unfold b_read_deed_1; walk_at "ev"
  rw [read_number_ok hn]
  rw [read_number_bad h]; walk_at "ev"
  rfl
end LmO
set_option Elab.async false
set_option linter.all false
set_option maxRecDepth 100000
open PySem L2 DL Mir
namespace Lk25
open LmD LmB LmM LmW LmX LmY LmU LmO TxtA
theorem readX_ok {ds : List Dd} (hs : ∀ d ∈ ds, LmY.Sm d) (hl : ds.length ≤ 20000) (hn : ds ≠ []) : m_read_v1 [.str (ofL (textL ds))] = .ok (.lst (ds.map Dd.D)) := by
  rw [m_read_v1_go]; unfold b_read_v1; walk_at "ev"
  rw [rows_ok hs hl hn]; walk_at "ev"
  unfold b_read_v1_1; walk_at "ev"
  rw [show (D.str "") = .str (ofL []) from rfl, gEq_ss, ofL_ne (text_ne hn)]; walk_at "ev"
  unfold b_read_v1_2; walk_at "ev"
  rw [eLCX_def]; walk_at "ev"
  rw [lcX_ok (g := Dd.D) (by omega) (fun d hd => by walk_at "ev"; exact read_deed_ok (hs d hd))]; walk_at "ev"
theorem row_words {d : Dd} (h : LmY.Sm d) : cutW (rowL d) = [wordL d.w, digs d.a, digs d.b] := by
  refine cutW_flat (by simp) fun w hw hc => ?_
  simp only [List.mem_cons, List.not_mem_nil, or_false] at hw
  rcases hw with rfl | rfl | rfl
  · have := word_mem hc; omega
  · have := digs_mem hc; omega
  · have := digs_mem hc; omega
structure Rw (r : List Nat) : Prop where
  fr : Fr r
  len : r.length ≤ 1000
theorem Rw.row {d : Dd} (h : LmY.Sm d) : Rw (rowL d) := ⟨fr_no row_no, Nat.le_trans (row_len h) (by decide)⟩
structure Bd (r : List Nat) : Prop extends Rw r where
  bad : m_read_deed [wl (cutW r)] = .err nt
theorem read_bad {pre : List Dd} {b : List Nat} {post : List (List Nat)} (hp : ∀ d ∈ pre, LmY.Sm d) (hb : Bd b) (hq : ∀ r ∈ post, Rw r) (hl : pre.length + post.length ≤ 500) (hne : pre ≠ [] ∨ b ≠ [] ∨ post ≠ []) :
    m_read_v1 [.str (ofL (TxtA.flat [59, 32] (pre.map rowL ++ b :: post)))] = .err nt := by
  have hr : ∀ r ∈ pre.map rowL ++ b :: post, Rw r := fun r h => by
    rcases List.mem_append.mp h with h | h
    · obtain ⟨d, hd, rfl⟩ := List.mem_map.mp h
      exact Rw.row (hp d hd)
    · rcases List.mem_cons.mp h with rfl | h
      · exact hb.toRw
      · exact hq r h
  have ll : (pre.map rowL ++ b :: post).length ≤ 501 := by rw [List.length_append, List.length_map, List.length_cons]; omega
  have tn : TxtA.flat [59, 32] (pre.map rowL ++ b :: post) ≠ [] := by
    cases pre with
    | nil =>
      cases post with
      | nil =>
        rcases hne with h | h | h
        · exact absurd rfl h
        · exact h
        · exact absurd rfl h
      | cons q qs => simp [TxtA.flat]
    | cons d ds =>
      rw [List.map_cons, List.cons_append, flat_cons _ _ (by simp)]
      simp
  rw [m_read_v1_go]; unfold b_read_v1; walk_at "ev"
  rw [rows_okF (by simp) (fun r h => ⟨(hr r h).fr, (hr r h).len⟩) (by omega)]; walk_at "ev"
  unfold b_read_v1_1; walk_at "ev"
  rw [show (D.str "") = .str (ofL []) from rfl, gEq_ss, ofL_ne tn]; walk_at "ev"
  unfold b_read_v1_2; walk_at "ev"
  rw [eLCX_def]; walk_at "ev"
  rw [lcX_err (g := fun r => match pre.find? (fun d => decide (rowL d = r)) with | some d => d.D | none => .non) (x := nt) (by omega) (fun r h => ?_) (by walk_at "ev"; exact hb.bad)]
  · rfl
  · obtain ⟨d, hd, rfl⟩ := List.mem_map.mp h
    obtain ⟨e, he⟩ : ∃ e, pre.find? (fun e => decide (rowL e = rowL d)) = some e := by
      cases q : pre.find? (fun e => decide (rowL e = rowL d)) with
      | some e => exact ⟨e, rfl⟩
      | none => exact absurd (List.find?_eq_none.mp q d hd) (by simp)
    have h1 := List.find?_some he
    have h2 := List.mem_of_find?_eq_some he
    have h3 : rowL e = rowL d := of_decide_eq_true h1
    walk_at "ev"
    rw [he, ← h3, row_words (hp e h2)]
    have := read_deed_ok (hp e h2)
    unfold wordsD at this
    rw [word_S] at this
    exact this
theorem lstK_le (ds : List D) (h : few ds.length = true) : lstK (.ok ds) = .ok ds := by
  show (bif few ds.length then _ else _) = _
  rw [h]; rfl
theorem tupK_le (ds : List D) (h : few ds.length = true) : tupK (.ok ds) = .ok (.tup ds) := by
  show (bif few ds.length then _ else _) = _
  rw [h]; rfl
theorem xC {ts : List D} {cs : List Str} (h : clsOf ts = some cs) (h2 : subAny "NoText" cs = some false) : g2 isiC [.exc "NoText" [], .tup ts] = .ok (.bl false) := by
  show (match clsOf ts with | some cs => (match subAny "NoText" cs with | some b => R.ok (D.bl b) | none => .bad) | none => .bad) = _
  rw [h]
  show (match subAny "NoText" cs with | some b => R.ok (D.bl b) | none => .bad) = _
  rw [h2]
theorem refused_of {x : D} (h : m_read_v1 [x] = .err nt) : m_law_refused_v10 [x] = .ok (.bl true) := by
  rw [m_law_refused_v10_go]; unfold b_law_refused_v10; walk_at "ev"
  unfold b_law_refused_v10_1; walk_at "ev"
  rw [h]; walk_at "ev"
  rw [tryK_err _ _ _ _ _ _ (show subX "NoText" "ChalkError" = some true by decide +kernel)]; walk_at "ev"
  unfold b_law_refused_v10_2; walk_at "ev"
  rw [isi_exc (show subX "NoText" "NoText" = some true by decide +kernel)]; walk_at "ev"
  unfold b_law_refused_v10_3; walk_at "ev"
  rw [tupK_le _ (by decide)]; walk_at "ev"
  rw [xC (cs := ["NoPlace", "Same", "NoFloor", "Endless", "NoDeed", "NoName", "TooMany"]) rfl (by decide +kernel)]; walk_at "ev"
  unfold b_law_refused_v10_4; walk_at "ev"
  rw [tupK_le _ (by decide)]; walk_at "ev"
  rw [xC (cs := ["NoChange", "NoFrame", "NoValue", "Unlike", "NoRatio", "NoBow", "NoRow"]) rfl (by decide +kernel)]; walk_at "ev"
theorem no_text {x : D} (h : g2 isi3 [x, .ty "str"] = .ok (.bl false)) : m_read_v1 [x] = .err nt := by
  have e : m_rows_of [x] = .err nt := by
    rw [m_rows_of_go]; unfold b_rows_of; walk_at "ev"
    rw [h]; walk_at "ev"
  rw [m_read_v1_go]; unfold b_read_v1; walk_at "ev"
  rw [e]; walk_at "ev"
def kinds (W A B row : List Nat) (c : Nat) : List (List Nat) :=
  [[], [32], W, W ++ [32] ++ A, row ++ [32, 48], [108, 105, 110, 101, 115, 32] ++ A ++ [32] ++ B, [76, 105, 110, 101, 32] ++ A ++ [32] ++ B,
   W ++ [32, 48] ++ A ++ [32] ++ B, W ++ [32] ++ A ++ [32, 48] ++ B, W ++ [32, 45] ++ A ++ [32] ++ B,
   W ++ [32] ++ A ++ [32, 32] ++ B, [32] ++ row, row ++ [32], row ++ [59], row ++ [59] ++ row, row ++ [59, 32],
   W ++ [32] ++ A ++ [c] ++ [32] ++ B, [c] ++ row, row ++ [c], A ++ [32] ++ W ++ [32] ++ B,
   W ++ [32, 43] ++ A ++ [32] ++ B, row ++ [10], W ++ [9] ++ A ++ [32] ++ B,
   [108, 97, 110, 101, 32] ++ A ++ [32] ++ B, [112, 97, 103, 32] ++ A ++ [32] ++ B, W.drop 1 ++ [32] ++ A ++ [32] ++ B,
   [59, 32] ++ row, W ++ [32] ++ A ++ [95, 48, 32] ++ B]
def signsL : List Nat := [97, 98, 120, 76, 80, 46, 44, 59, 58, 43, 42, 45, 95, 47]
theorem flat_mid0 (y : List Nat) : ∀ (mid post : List (List Nat)), mid ≠ [] → TxtA.flat y (TxtA.flat y mid :: post) = TxtA.flat y (mid ++ post)
  | [], _, h => absurd rfl h
  | [r], post, _ => rfl
  | r :: r' :: rs, post, _ => by
    have ih := flat_mid0 y (r' :: rs) post (by simp)
    cases post with
    | nil => rw [List.append_nil]; rfl
    | cons q qs =>
      rw [flat_cons y (TxtA.flat y (r' :: rs)) (by simp)] at ih
      rw [flat_cons y (TxtA.flat y (r :: r' :: rs)) (by simp), show TxtA.flat y (r :: r' :: rs) = r ++ y ++ TxtA.flat y (r' :: rs) from rfl, show TxtA.flat y (r :: r' :: rs ++ q :: qs) = r ++ y ++ TxtA.flat y (r' :: rs ++ q :: qs) from rfl, ← ih]
      simp [List.append_assoc]
theorem flat_mid (y : List Nat) : ∀ (pre mid post : List (List Nat)), mid ≠ [] → TxtA.flat y (pre ++ TxtA.flat y mid :: post) = TxtA.flat y (pre ++ (mid ++ post))
  | [], mid, post, h => flat_mid0 y mid post h
  | r :: pre, mid, post, h => by
    rw [List.cons_append, List.cons_append, flat_cons y r (by simp), flat_cons y r (by simp [h]), flat_mid y pre mid post h]
def Spoil (L : List Nat) : Prop := ∃ (g : List Dd) (b : List Nat) (post : List (List Nat)), L = TxtA.flat [59, 32] (g.map rowL ++ b :: post) ∧ (∀ e ∈ g, LmY.Sm e) ∧ Bd b ∧ (∀ r ∈ post, Rw r) ∧ g.length + post.length ≤ 1
theorem Bd.of {L : List Nat} {ws : List (List Nat)} (e : L = TxtA.flat [32] ws) (hne : ws ≠ []) (h32 : ∀ w ∈ ws, (32 : Nat) ∉ w) (hf : Fr L) (hl : L.length ≤ 1000) (hb : m_read_deed [wl ws] = .err nt) : Bd L :=
  ⟨⟨hf, hl⟩, by rw [e, cutW_flat hne h32]; exact hb⟩
theorem Bd.spoil {L : List Nat} (h : Bd L) : Spoil L := ⟨[], L, [], rfl, by simp, h, by simp, by simp⟩
theorem fr_mid {a b : List Nat} (ha : (59 : Nat) ∉ a) (hb : (59 : Nat) ∉ b) (h0 : b.head? ≠ some 32) : Fr (a ++ 59 :: b) := by
  intro i hi hn
  by_cases h1 : i < a.length
  · rw [List.getElem?_append_left h1] at hi
    exact ha (List.mem_of_getElem? hi)
  · rw [List.getElem?_append_right (by omega)] at hi hn
    by_cases h2 : i = a.length
    · rw [show i + 1 - a.length = 0 + 1 by omega, List.getElem?_cons_succ, ← List.head?_eq_getElem?] at hn
      exact h0 hn
    · rw [show i - a.length = (i - a.length - 1) + 1 by omega, List.getElem?_cons_succ] at hi
      exact hb (List.mem_of_getElem? hi)
section
variable {d : Dd} {c : Nat}
theorem w32 {w : Bool} : (32 : Nat) ∉ wordL w := by cases w <;> decide
theorem w59 {w : Bool} : (59 : Nat) ∉ wordL w := by cases w <;> decide
theorem d32 {n : Nat} : (32 : Nat) ∉ digs n := fun h => by have := digs_mem h; omega
theorem d59 {n : Nat} : (59 : Nat) ∉ digs n := fun h => by have := digs_mem h; omega
theorem s32 (hc : c ∈ signsL) : c ≠ 32 := fun z => by subst z; revert hc; decide
theorem s10 (hc : c ∈ signsL) : ¬ (48 ≤ c ∧ c ≤ 57) := by
  have : ∀ x ∈ signsL, ¬ (48 ≤ x ∧ x ≤ 57) := by decide
  exact this c hc
theorem sw (hc : c ∈ signsL) (w : Bool) : c :: wordL w ≠ wordL false ∧ c :: wordL w ≠ wordL true := by
  have : ∀ x ∈ signsL, ∀ w : Bool, x :: wordL w ≠ wordL false ∧ x :: wordL w ≠ wordL true := by decide
  exact this c hc w
theorem digs_w (n : Nat) (w : Bool) : digs n ≠ wordL w := fun e => by
  cases w
  · have := digs_mem (show 108 ∈ digs n by rw [e]; decide); omega
  · have := digs_mem (show 112 ∈ digs n by rw [e]; decide); omega
theorem bn_zero {n : Nat} (h : n < 10 ^ 70) : BadN (48 :: digs n) := by
  have hl := digs_len h
  obtain ⟨x, r, e⟩ := List.exists_cons_of_ne_nil (digs_ne n)
  exact ⟨by rw [List.length_cons]; omega, .inr (.inr ⟨x, r, by rw [e]⟩)⟩
theorem bn_mem {w : List Nat} (hl : w.length ≤ 1000) {x : Nat} (hx : x ∈ w) (h : ¬ (48 ≤ x ∧ x ≤ 57)) : BadN w := ⟨hl, .inr (.inl ⟨x, hx, h⟩)⟩
theorem row_eq (d : Dd) : rowL d = wordL d.w ++ [32] ++ (digs d.a ++ [32] ++ digs d.b) := rfl
theorem row_head (d : Dd) : (rowL d).head? ≠ some 32 := by
  rw [row_eq]
  cases d.w <;> simp [wordL]
theorem spoil_ws {L : List Nat} (ws : List (List Nat)) (e : L = TxtA.flat [32] ws) (hne : ws ≠ []) (h32 : ∀ w ∈ ws, (32 : Nat) ∉ w) (h59 : (59 : Nat) ∉ L) (hl : L.length ≤ 1000) (hb : m_read_deed [wl ws] = .err nt) : Spoil L :=
  (Bd.of e hne h32 (fr_no h59) hl hb).spoil
end
theorem cat_ok {a b : List Nat} (h : a.length + b.length ≤ 1000000) : gAdd (.str (ofL a)) (.str (ofL b)) = .ok (.str (ofL (a ++ b))) := by
  show (bif le24 ((ofL a).length + (ofL b).length) then R.ok (D.str (ofL a ++ ofL b)) else .bad) = _
  rw [lo, lo, show le24 (a.length + b.length) = true from decide_eq_true (Nat.le_trans h (by decide)), cond_true]
  congr 2
  apply Str.ext'
  simp [ofL, Str.cps_append]
theorem sign_at {k : Nat} (h : k < 14) : gIxS (.str "abxLP.,;:+*-_/") (.int (k : Int)) = .ok (.str (ofL [signsL.getD k 0])) := by
  rcases (show k = 0 ∨ k = 1 ∨ k = 2 ∨ k = 3 ∨ k = 4 ∨ k = 5 ∨ k = 6 ∨ k = 7 ∨ k = 8 ∨ k = 9 ∨ k = 10 ∨ k = 11 ∨ k = 12 ∨ k = 13 by omega) with rfl | rfl | rfl | rfl | rfl | rfl | rfl | rfl | rfl | rfl | rfl | rfl | rfl | rfl <;> rfl
theorem word_tail (w : Bool) : gSlS (.str (ofL (wordL w))) (some 1) none = .ok (.str (ofL ((wordL w).drop 1))) := by cases w <;> rfl
theorem q0 : (D.str "") = .str (ofL []) := (rfl)
theorem q1 : (D.str " ") = .str (ofL [32]) := (rfl)
theorem q2 : (D.str " 0") = .str (ofL [32, 48]) := (rfl)
theorem q3 : (D.str "lines ") = .str (ofL [108, 105, 110, 101, 115, 32]) := (rfl)
theorem q4 : (D.str "Line ") = .str (ofL [76, 105, 110, 101, 32]) := (rfl)
theorem q5 : (D.str " -") = .str (ofL [32, 45]) := (rfl)
theorem q6 : (D.str "  ") = .str (ofL [32, 32]) := (rfl)
theorem q7 : (D.str ";") = .str (ofL [59]) := (rfl)
theorem q8 : (D.str "; ") = .str (ofL [59, 32]) := (rfl)
theorem q9 : (D.str " +") = .str (ofL [32, 43]) := (rfl)
theorem q10 : (D.str "\n") = .str (ofL [10]) := (rfl)
theorem q11 : (D.str "\t") = .str (ofL [9]) := (rfl)
theorem q12 : (D.str "lane ") = .str (ofL [108, 97, 110, 101, 32]) := (rfl)
theorem q13 : (D.str "pag ") = .str (ofL [112, 97, 103, 32]) := (rfl)
theorem q14 : (D.str "_0 ") = .str (ofL [95, 48, 32]) := (rfl)
theorem bad_ok {d : Dd} (h : LmY.Sm d) {d0 d1 d2 d3 : Int} (h0 : 0 ≤ d0) (h1 : 0 ≤ d1) : ∃ j i : Nat, j < 28 ∧ i < 14 ∧ m_law_bad_v1 [.str (ofL (rowL d)), .lst [.int d0, .int d1, .int d2, .int d3]] = .ok (.str (ofL ((kinds (wordL d.w) (digs d.a) (digs d.b) (rowL d) (signsL.getD i 0)).getD j []))) := by
  have hA := digs_len h.a
  have hB := digs_len h.b
  have hW : (wordL d.w).length ≤ 4 := by cases d.w <;> decide
  have hR := row_len h
  have hw := words_ok h
  rw [word_S] at hw
  obtain ⟨i, hi, ei⟩ : ∃ i : Nat, i < 14 ∧ d1 % 14 = (i : Int) := ⟨(d1 % 14).toNat, by omega, by omega⟩
  obtain ⟨j, hj, ej⟩ : ∃ j : Nat, j < 28 ∧ d0 % 28 = (j : Int) := ⟨(d0 % 28).toNat, by omega, by omega⟩
  have ht := word_tail d.w
  refine ⟨j, i, hj, hi, ?_⟩
  rw [m_law_bad_v1_go]; unfold b_law_bad_v1
  rw [sSeq_def, sAsg_def, show vLst (eSplit (eVar 0) (eC (.str " "))) (mask [] [some (.str (ofL (rowL d))), some (.lst [.int d0, .int d1, .int d2, .int d3]), none, none, none, none, none]) = .ok (.lst [.str (ofL (wordL d.w)), .str (ofL (digs d.a)), .str (ofL (digs d.b))]) from by
    show ((splitD (.str (ofL (rowL d))) (.str " ")).bind fun l => R.ok (D.lst l)) = _
    rw [hw]; rfl]
  walk_at "ev"
  generalize rowL d = row at *
  generalize wordL d.w = W at *
  generalize digs d.a = A at *
  generalize digs d.b = B at *
  unfold b_law_bad_v1_1; walk_at "ev"
  rw [show gIx (.lst [.int d0, .int d1, .int d2, .int d3]) (.int 1) = .ok (.int d1) from rfl]; walk_at "ev"
  rw [gMod_pos d1 14 (by decide)]; walk_at "ev"
  rw [ei, sign_at hi]; walk_at "ev"
  generalize signsL.getD i 0 = c
  unfold b_law_bad_v1_2; walk_at "ev"
  simp (disch := (simp only [List.length_append, List.length_cons, List.length_nil, List.length_drop]; omega)) only [q0, q1, q2, q3, q4, q5, q6, q7, q8, q9, q10, q11, q12, q13, q14, cat_ok, opK_ok, consK_ok]
  rw [lstK_le _ (by rfl)]; walk_at "ev"
  unfold b_law_bad_v1_3; walk_at "ev"
  simp (disch := (simp only [List.length_append, List.length_cons, List.length_nil, List.length_drop]; omega)) only [q0, q1, q2, q3, q4, q5, q6, q7, q8, q9, q10, q11, q12, q13, q14, cat_ok, opK_ok, consK_ok]
  walk_at "ev"
  rw [Lk42.gAdd_ll (by simp)]; walk_at "ev"
  unfold b_law_bad_v1_4; walk_at "ev"
  simp (disch := (simp only [List.length_append, List.length_cons, List.length_nil, List.length_drop]; omega)) only [q0, q1, q2, q3, q4, q5, q6, q7, q8, q9, q10, q11, q12, q13, q14, cat_ok, opK_ok, consK_ok]
  walk_at "ev"
  rw [Lk42.gAdd_ll (by simp)]; walk_at "ev"
  unfold b_law_bad_v1_5; walk_at "ev"
  simp (disch := (simp only [List.length_append, List.length_cons, List.length_nil, List.length_drop]; omega)) only [q0, q1, q2, q3, q4, q5, q6, q7, q8, q9, q10, q11, q12, q13, q14, cat_ok, opK_ok, consK_ok]
  walk_at "ev"
  rw [Lk42.gAdd_ll (by simp)]; walk_at "ev"
  unfold b_law_bad_v1_6; walk_at "ev"
  simp (disch := (simp only [List.length_append, List.length_cons, List.length_nil, List.length_drop]; omega)) only [q0, q1, q2, q3, q4, q5, q6, q7, q8, q9, q10, q11, q12, q13, q14, cat_ok, opK_ok, consK_ok]
  walk_at "ev"
  rw [Lk42.gAdd_ll (by simp)]; walk_at "ev"
  unfold b_law_bad_v1_7; walk_at "ev"
  rw [show ∀ a0 a1 a3 a4 a5 a6 : Option D, eSlS (eVar 2) (oSome (eC (.int 1))) oNone [a0, a1, some (.str (ofL W)), a3, a4, a5, a6] = .ok (.str (ofL (W.drop 1))) from fun _ _ _ _ _ _ => ht]
  simp (disch := (simp only [List.length_append, List.length_cons, List.length_nil, List.length_drop]; omega)) only [q0, q1, q2, q3, q4, q5, q6, q7, q8, q9, q10, q11, q12, q13, q14, cat_ok, opK_ok, consK_ok]
  walk_at "ev"
  rw [Lk42.gAdd_ll (by simp)]; walk_at "ev"
  unfold b_law_bad_v1_8; walk_at "ev"
  rw [show gIx (.lst [.int d0, .int d1, .int d2, .int d3]) (.int 0) = .ok (.int d0) from rfl]
  simp (disch := (simp only [List.length_append, List.length_cons, List.length_nil, List.length_drop]; omega)) only [q0, q1, q2, q3, q4, q5, q6, q7, q8, q9, q10, q11, q12, q13, q14, cat_ok, opK_ok, consK_ok]
  walk_at "ev"
  rw [Lk42.gAdd_ll (by simp), gMod_pos d0 28 (by decide)]; walk_at "ev"
  rw [ej]
  show fin (retK (gIx (.lst ((kinds W A B row c).map fun l => .str (ofL l))) (.int (j : Int)))) = _
  rw [gIx_nat (d := .str (ofL ((kinds W A B row c).getD j []))) (by rw [List.getElem?_map, List.getElem?_eq_getElem (show j < (kinds W A B row c).length from hj)]; simp [List.getD, List.getElem?_eq_getElem (show j < (kinds W A B row c).length from hj)])]; walk_at "ev"
local macro_rules | `(tactic| walk_at "nm") => `(tactic| ((try simp only [row_eq, List.mem_append, List.mem_cons, List.not_mem_nil, or_false, false_or, or_self, not_or, not_false_eq_true]); (repeat' (apply And.intro)); all_goals (first | exact w32 | exact w59 | exact d32 | exact d59 | decide | assumption | exact fun q => w32 (List.mem_of_mem_drop q) | exact fun q => w59 (List.mem_of_mem_drop q))))
local macro_rules | `(tactic| walk_at "ws") => `(tactic| (simp only [List.forall_mem_cons, List.not_mem_nil, false_implies, implies_true, and_true]; (repeat' (apply And.intro)); all_goals (walk_at "nm")))
local macro_rules | `(tactic| walk_at "ln") => `(tactic| (simp only [row_eq, List.length_append, List.length_cons, List.length_nil, List.length_drop]; omega))
theorem kind_bad {d : Dd} (h : LmY.Sm d) {c : Nat} (hc : c ∈ signsL) {j : Nat} (hj : j < 28) : Spoil ((kinds (wordL d.w) (digs d.a) (digs d.b) (rowL d) c).getD j []) := by
  have hA := digs_len h.a
  have hB := digs_len h.b
  have hW : (wordL d.w).length ≤ 4 := by cases d.w <;> decide
  have c32 : ¬ (32 = c) := Ne.symm (s32 hc)
  have a1 := digs_ne d.a
  rcases (show j = 0 ∨ j = 1 ∨ j = 2 ∨ j = 3 ∨ j = 4 ∨ j = 5 ∨ j = 6 ∨ j = 7 ∨ j = 8 ∨ j = 9 ∨ j = 10 ∨ j = 11 ∨ j = 12 ∨ j = 13 ∨ j = 14 ∨ j = 15 ∨ j = 16 ∨ j = 17 ∨ j = 18 ∨ j = 19 ∨ j = 20 ∨ j = 21 ∨ j = 22 ∨ j = 23 ∨ j = 24 ∨ j = 25 ∨ j = 26 ∨ j = 27 by omega) with rfl | rfl | rfl | rfl | rfl | rfl | rfl | rfl | rfl | rfl | rfl | rfl | rfl | rfl | rfl | rfl | rfl | rfl | rfl | rfl | rfl | rfl | rfl | rfl | rfl | rfl | rfl | rfl
  · exact spoil_ws [[]] rfl (by simp) (by simp) (by simp [kinds]) (by simp [kinds]) (deed_len (by decide) (by decide))
  · exact spoil_ws (L := [32]) [[], []] rfl (by simp) (by simp) (by decide) (by decide) (deed_len (by decide) (by decide))
  · exact spoil_ws (L := wordL d.w) [wordL d.w] rfl (by simp) (by walk_at "ws") w59 (by omega) (deed_len (by simp) (by simp))
  · exact spoil_ws (L := wordL d.w ++ [32] ++ digs d.a) [wordL d.w, digs d.a] rfl (by simp) (by walk_at "ws") (by walk_at "nm") (by walk_at "ln") (deed_len (by simp) (by simp))
  · exact spoil_ws (L := rowL d ++ [32, 48]) [wordL d.w, digs d.a, digs d.b, [48]] (by simp [row_eq, TxtA.flat]) (by simp) (by walk_at "ws") (by walk_at "nm") (by walk_at "ln") (deed_len (by simp) (by simp))
  · exact spoil_ws (L := [108, 105, 110, 101, 115, 32] ++ digs d.a ++ [32] ++ digs d.b) [[108, 105, 110, 101, 115], digs d.a, digs d.b] (by simp [TxtA.flat]) (by simp) (by walk_at "ws") (by walk_at "nm") (by walk_at "ln") (deed_word (by decide) (by decide))
  · exact spoil_ws (L := [76, 105, 110, 101, 32] ++ digs d.a ++ [32] ++ digs d.b) [[76, 105, 110, 101], digs d.a, digs d.b] (by simp [TxtA.flat]) (by simp) (by walk_at "ws") (by walk_at "nm") (by walk_at "ln") (deed_word (by decide) (by decide))
  · exact spoil_ws (L := wordL d.w ++ [32, 48] ++ digs d.a ++ [32] ++ digs d.b) [wordL d.w, 48 :: digs d.a, digs d.b] (by simp [TxtA.flat]) (by simp) (by walk_at "ws") (by walk_at "nm") (by walk_at "ln") (deed_one (bn_zero h.a))
  · exact spoil_ws (L := wordL d.w ++ [32] ++ digs d.a ++ [32, 48] ++ digs d.b) [wordL d.w, digs d.a, 48 :: digs d.b] (by simp [TxtA.flat]) (by simp) (by walk_at "ws") (by walk_at "nm") (by walk_at "ln") (deed_two h.a (bn_zero h.b))
  · exact spoil_ws (L := wordL d.w ++ [32, 45] ++ digs d.a ++ [32] ++ digs d.b) [wordL d.w, 45 :: digs d.a, digs d.b] (by simp [TxtA.flat]) (by simp) (by walk_at "ws") (by walk_at "nm") (by walk_at "ln") (deed_one (bn_mem (x := 45) (by walk_at "ln") (by simp) (by decide)))
  · exact spoil_ws (L := wordL d.w ++ [32] ++ digs d.a ++ [32, 32] ++ digs d.b) [wordL d.w, digs d.a, [], digs d.b] (by simp [TxtA.flat]) (by simp) (by walk_at "ws") (by walk_at "nm") (by walk_at "ln") (deed_len (by simp) (by simp))
  · exact spoil_ws (L := [32] ++ rowL d) [[], wordL d.w, digs d.a, digs d.b] (by simp [row_eq, TxtA.flat]) (by simp) (by walk_at "ws") (by walk_at "nm") (by walk_at "ln") (deed_len (by simp) (by simp))
  · exact spoil_ws (L := rowL d ++ [32]) [wordL d.w, digs d.a, digs d.b, []] (by simp [row_eq, TxtA.flat]) (by simp) (by walk_at "ws") (by walk_at "nm") (by walk_at "ln") (deed_len (by simp) (by simp))
  · exact (Bd.of (L := rowL d ++ [59]) (ws := [wordL d.w, digs d.a, digs d.b ++ [59]]) (by simp [row_eq, TxtA.flat]) (by simp) (by walk_at "ws") (fr_mid row_no (by simp) (by simp)) (by walk_at "ln") (deed_two h.a (bn_mem (x := 59) (by walk_at "ln") (by simp) (by decide)))).spoil
  · exact (Bd.of (L := rowL d ++ [59] ++ rowL d) (ws := [wordL d.w, digs d.a, digs d.b ++ 59 :: wordL d.w, digs d.a, digs d.b]) (by simp [row_eq, TxtA.flat]) (by simp) (by walk_at "ws") (by rw [List.append_assoc]; exact fr_mid row_no row_no (row_head d)) (by walk_at "ln") (deed_len (by simp) (by simp))).spoil
  · exact ⟨[d], [], [], by simp [kinds, TxtA.flat], by simpa using h, (Bd.of (ws := [[]]) rfl (by simp) (by simp) (fr_no (by simp)) (by simp) (deed_len (by decide) (by decide))), by simp, by simp⟩
  · by_cases h59 : c = 59
    · subst h59
      refine ⟨[], wordL d.w ++ [32] ++ digs d.a, [digs d.b], by simp [kinds, TxtA.flat], by simp, Bd.of (ws := [wordL d.w, digs d.a]) rfl (by simp) (by walk_at "ws") (fr_no (by walk_at "nm")) (by walk_at "ln") (deed_len (by simp) (by simp)), fun r hr => ?_, by simp⟩
      rw [List.mem_singleton.mp hr]
      exact ⟨fr_no d59, by omega⟩
    · have c59 : ¬ (59 = c) := Ne.symm h59
      exact spoil_ws (L := wordL d.w ++ [32] ++ digs d.a ++ [c] ++ [32] ++ digs d.b) [wordL d.w, digs d.a ++ [c], digs d.b] (by simp [TxtA.flat]) (by simp) (by walk_at "ws") (by walk_at "nm") (by walk_at "ln") (deed_one (bn_mem (x := c) (by walk_at "ln") (by simp) (s10 hc)))
  · have fr : Fr ([c] ++ rowL d) := by
      by_cases h59 : c = 59
      · subst h59; exact fr_mid (a := []) (by simp) row_no (row_head d)
      · exact fr_no fun q => (List.mem_cons.mp q).elim (fun z => h59 z.symm) row_no
    exact (Bd.of (L := [c] ++ rowL d) (ws := [c :: wordL d.w, digs d.a, digs d.b]) (by simp [row_eq, TxtA.flat]) (by simp) (by walk_at "ws") fr (by walk_at "ln") (deed_word (sw hc _).1 (sw hc _).2)).spoil
  · have fr : Fr (rowL d ++ [c]) := by
      by_cases h59 : c = 59
      · subst h59; exact fr_mid row_no (by simp) (by simp)
      · exact fr_no fun q => (List.mem_append.mp q).elim row_no fun z => h59 (List.mem_singleton.mp z).symm
    exact (Bd.of (L := rowL d ++ [c]) (ws := [wordL d.w, digs d.a, digs d.b ++ [c]]) (by simp [row_eq, TxtA.flat]) (by simp) (by walk_at "ws") fr (by walk_at "ln") (deed_two h.a (bn_mem (x := c) (by walk_at "ln") (by simp) (s10 hc)))).spoil
  · exact spoil_ws (L := digs d.a ++ [32] ++ wordL d.w ++ [32] ++ digs d.b) [digs d.a, wordL d.w, digs d.b] (by simp [TxtA.flat]) (by simp) (by walk_at "ws") (by walk_at "nm") (by walk_at "ln") (deed_word (digs_w _ _) (digs_w _ _))
  · exact spoil_ws (L := wordL d.w ++ [32, 43] ++ digs d.a ++ [32] ++ digs d.b) [wordL d.w, 43 :: digs d.a, digs d.b] (by simp [TxtA.flat]) (by simp) (by walk_at "ws") (by walk_at "nm") (by walk_at "ln") (deed_one (bn_mem (x := 43) (by walk_at "ln") (by simp) (by decide)))
  · exact spoil_ws (L := rowL d ++ [10]) [wordL d.w, digs d.a, digs d.b ++ [10]] (by simp [row_eq, TxtA.flat]) (by simp) (by walk_at "ws") (by walk_at "nm") (by walk_at "ln") (deed_two h.a (bn_mem (x := 10) (by walk_at "ln") (by simp) (by decide)))
  · exact spoil_ws (L := wordL d.w ++ [9] ++ digs d.a ++ [32] ++ digs d.b) [wordL d.w ++ 9 :: digs d.a, digs d.b] (by simp [TxtA.flat]) (by simp) (by walk_at "ws") (by walk_at "nm") (by walk_at "ln") (deed_len (by simp) (by simp))
  · exact spoil_ws (L := [108, 97, 110, 101, 32] ++ digs d.a ++ [32] ++ digs d.b) [[108, 97, 110, 101], digs d.a, digs d.b] (by simp [TxtA.flat]) (by simp) (by walk_at "ws") (by walk_at "nm") (by walk_at "ln") (deed_word (by decide) (by decide))
  · exact spoil_ws (L := [112, 97, 103, 32] ++ digs d.a ++ [32] ++ digs d.b) [[112, 97, 103], digs d.a, digs d.b] (by simp [TxtA.flat]) (by simp) (by walk_at "ws") (by walk_at "nm") (by walk_at "ln") (deed_word (by decide) (by decide))
  · have dw : ∀ w v : Bool, (wordL w).drop 1 ≠ wordL v := by decide
    exact spoil_ws (L := (wordL d.w).drop 1 ++ [32] ++ digs d.a ++ [32] ++ digs d.b) [(wordL d.w).drop 1, digs d.a, digs d.b] (by simp [TxtA.flat]) (by simp) (by walk_at "ws") (by walk_at "nm") (by walk_at "ln") (deed_word (dw _ _) (dw _ _))
  · refine ⟨[], [], [rowL d], rfl, by simp, Bd.of (ws := [[]]) rfl (by simp) (by simp) (fr_no (by simp)) (by simp) (deed_len (by decide) (by decide)), fun r hr => ?_, by simp⟩
    rw [List.mem_singleton.mp hr]
    exact Rw.row h
  · exact spoil_ws (L := wordL d.w ++ [32] ++ digs d.a ++ [95, 48, 32] ++ digs d.b) [wordL d.w, digs d.a ++ [95, 48], digs d.b] (by simp [TxtA.flat]) (by simp) (by walk_at "ws") (by walk_at "nm") (by walk_at "ln") (deed_one (bn_mem (x := 95) (by walk_at "ln") (by simp) (by decide)))
theorem dat_deed (d : Dd) : datN 8 d.D = true := by
  obtain ⟨w, a, b⟩ := d
  cases w <;> rfl
theorem dat_plan (ds : List Dd) : datN 9 (.lst (ds.map Dd.D)) = true := by
  show (ds.map Dd.D).all (datN 8) = true
  rw [List.all_eq_true]
  intro d hd
  obtain ⟨e, _, rfl⟩ := List.mem_map.mp hd
  exact dat_deed e
theorem eq_plan (ds : List Dd) : gEq (.lst (ds.map Dd.D)) (.lst (ds.map Dd.D)) = .ok (.bl true) := by
  have h := dat_plan ds
  unfold gEq cmp2
  rw [h, eqD_refl 9 _ h]; rfl
theorem eq_nil (ns : List Int) : gEq (.lst (ns.map D.int)) (.lst []) = .ok (.bl ns.isEmpty) := by
  have h : datN 9 (.lst (ns.map D.int)) = true := by
    show (ns.map D.int).all (datN 8) = true
    rw [List.all_eq_true]
    intro d hd
    obtain ⟨e, _, rfl⟩ := List.mem_map.mp hd
    rfl
  unfold gEq cmp2
  rw [h, show datN 9 (.lst []) = true from rfl, eqD_seqs.2.1]
  cases ns <;> rfl
theorem cells_ok (ns : List Int) : ∃ cs : List Int, cs.length ≤ 84 ∧ cs ≠ [] ∧ ∀ x1 x2 x3 x4 x5 x6 : Option D, (eOp gAdd (eSl (eVar 0) oNone (oSome (eC (.int 10)))) (vLst (eRep (eLst (aCons (eC (.int 3)) aNil)) (eBlt gInt (aCons (eOp gEq (eVar 0) (vLst (eLst aNil))) aNil))))) [some (.lst (ns.map .int)), x1, x2, x3, x4, x5, x6] = .ok (.lst (cs.map .int)) := by
  have er : ∀ x1 x2 x3 x4 x5 x6 : Option D, vLst (eRep (eLst (aCons (eC (.int 3)) aNil)) (eBlt gInt (aCons (eOp gEq (eVar 0) (vLst (eLst aNil))) aNil))) [some (.lst (ns.map .int)), x1, x2, x3, x4, x5, x6] = .ok (.lst (bif ns.isEmpty then [.int 3] else [])) := fun x1 x2 x3 x4 x5 x6 => by
    show (((eBlt gInt (aCons (eOp gEq (eVar 0) (vLst (eLst aNil))) aNil)) [some (.lst (ns.map .int)), x1, x2, x3, x4, x5, x6]).bind fun d => repD [.int 3] d).bind (fun l => R.ok (D.lst l)) = _
    walk_at "ev"
    rw [eq_nil]; walk_at "ev"
    cases ns <;> rfl
  refine ⟨ns.take 10 ++ bif ns.isEmpty then [3] else [], ?_, ?_, fun x1 x2 x3 x4 x5 x6 => ?_⟩
  · rw [List.length_append, List.length_take]
    cases ns <;> simp <;> omega
  · cases ns <;> simp
  · rw [eOp_def, er, LmL.eSl_to _ _ _ (ns.map .int) 10 rfl rfl, opK_ok, Lk42.gAdd_ll (by rw [List.length_take, List.length_map]; cases ns <;> simp <;> omega), List.map_append, ← List.map_take]
    cases ns <;> rfl
theorem sign_mem {i : Nat} (h : i < 14) : signsL.getD i 0 ∈ signsL := by
  have : ∀ i : Fin 14, signsL.getD i.1 0 ∈ signsL := by decide
  exact this ⟨i, h⟩
theorem things_ok (ds : List Dd) {k : Nat} (h : k < 6) : ∃ x, gIx (.lst [.non, .int 5, .bl true, .lst (ds.map Dd.D), .tup [.str "line 0 1"], .dct [] []]) (.int (k : Int)) = .ok x ∧ m_law_refused_v10 [x] = .ok (.bl true) := by
  rcases (show k = 0 ∨ k = 1 ∨ k = 2 ∨ k = 3 ∨ k = 4 ∨ k = 5 by omega) with rfl | rfl | rfl | rfl | rfl | rfl <;> exact ⟨_, rfl, refused_of (no_text rfl)⟩
theorem Spoil.len {L : List Nat} (h : Spoil L) : L.length ≤ 3000 := by
  obtain ⟨g, b, post, rfl, hg, hb, hp, hl⟩ := h
  have := flat_len [59, 32] (B := 1000) (g.map rowL ++ b :: post) fun r hr => by
    rcases List.mem_append.mp hr with hr | hr
    · obtain ⟨d, hd, rfl⟩ := List.mem_map.mp hr
      exact (Rw.row (hg d hd)).len
    · rcases List.mem_cons.mp hr with rfl | hr
      · exact hb.len
      · exact (hp r hr).len
  have e2 : ([59, 32] : List Nat).length = 2 := rfl
  rw [e2, List.length_append, List.length_map, List.length_cons] at this
  omega
theorem spoiled {ds : List Dd} (hs : ∀ d ∈ ds, LmY.Sm d) (hl : ds.length ≤ 84) {n : Nat} (hn : n < ds.length) {L : List Nat} (h : Spoil L) (h0 : L ≠ [] ∨ 2 ≤ ds.length) :
    m_law_refused_v10 [.str (ofL (TxtA.flat [59, 32] ((ds.take n).map rowL ++ L :: (ds.drop (n + 1)).map rowL)))] = .ok (.bl true) := by
  obtain ⟨g, b, post, rfl, hg, hb, hp, hg1⟩ := h
  refine refused_of ?_
  rw [flat_mid _ _ _ _ (by simp), List.append_assoc, ← List.append_assoc, ← List.map_append, List.cons_append]
  have lt : (ds.take n).length = n := by rw [List.length_take]; omega
  refine read_bad (fun d hd => ?_) hb (fun r hr => ?_) ?_ ?_
  · rcases List.mem_append.mp hd with hd | hd
    · exact hs d (List.mem_of_mem_take hd)
    · exact hg d hd
  · rcases List.mem_append.mp hr with hr | hr
    · exact hp r hr
    · obtain ⟨d, hd, rfl⟩ := List.mem_map.mp hr
      exact Rw.row (hs d (List.mem_of_mem_drop hd))
  · rw [List.length_append, List.length_append, List.length_map, List.length_drop, lt]; omega
  · rcases h0 with h0 | h0
    · by_cases hg0 : g = []
      · by_cases hp0 : post = []
        · subst hg0 hp0
          exact .inr (.inl h0)
        · exact .inr (.inr (by simp [hp0]))
      · exact .inl (by simp [hg0])
    · by_cases hn0 : n = 0
      · refine .inr (.inr fun z => ?_)
        have := congrArg List.length z
        rw [List.length_append, List.length_map, List.length_drop, List.length_nil] at this
        omega
      · refine .inl fun z => ?_
        have := congrArg List.length z
        rw [List.length_append, lt, List.length_nil] at this
        omega
theorem row_spoil : Spoil [114, 111, 119] := spoil_ws [[114, 111, 119]] rfl (by simp) (by decide) (by decide) (by decide) (deed_len (by decide) (by decide))
def rowsD (ds : List Dd) : D := .lst (((ds.map rowL).map ofL).map D.str)
theorem turn_ok {ds : List Dd} (hs : ∀ d ∈ ds, LmY.Sm d) (hl : ds.length ≤ 84) (hne : ds ≠ []) (S : Option D) (c : Int) (x4 x5 x6 : Option D) :
    ∃ y4 y5 y6, b_law_v30_2f [S, some (.lst (ds.map Dd.D)), some (rowsD ds), some (.int c), x4, x5, x6] = .ok (.nx [S, some (.lst (ds.map Dd.D)), some (rowsD ds), some (.int c), y4, y5, y6]) := by
  have l0 : 0 < ds.length := List.length_pos_iff.mpr hne
  obtain ⟨es, ee, le, ge⟩ := digits_ok c 50 4 (by decide) (by decide)
  obtain ⟨d0, d1, d2, d3, rfl⟩ : ∃ d0 d1 d2 d3, es = [d0, d1, d2, d3] := by
    match es, le with
    | [d0, d1, d2, d3], _ => exact ⟨d0, d1, d2, d3, rfl⟩
  obtain ⟨n, hn, en⟩ : ∃ n : Nat, n < ds.length ∧ d2 % (ds.length : Int) = (n : Int) := ⟨(d2 % (ds.length : Int)).toNat, by have := Int.emod_lt_of_pos d2 (b := (ds.length : Int)) (by omega); have := Int.emod_nonneg d2 (b := (ds.length : Int)) (by omega); omega, by have := Int.emod_nonneg d2 (b := (ds.length : Int)) (by omega); omega⟩
  obtain ⟨k6, hk6, e6⟩ : ∃ k : Nat, k < 6 ∧ d3 % 6 = (k : Int) := ⟨(d3 % 6).toNat, by omega, by omega⟩
  obtain ⟨x, ex, rx⟩ := things_ok ds hk6
  obtain ⟨j, i, hj, hi, eb⟩ := bad_ok (hs _ (List.getElem_mem hn)) (d0 := d0) (d1 := d1) (d2 := d2) (d3 := d3) (ge d0 (by simp)).1 (ge d1 (by simp)).1
  have sp : Spoil ((kinds (wordL (ds[n]).w) (digs (ds[n]).a) (digs (ds[n]).b) (rowL ds[n]) (signsL.getD i 0)).getD j []) := kind_bad (hs _ (List.getElem_mem hn)) (sign_mem hi) hj
  generalize (kinds (wordL (ds[n]).w) (digs (ds[n]).a) (digs (ds[n]).b) (rowL ds[n]) (signsL.getD i 0)).getD j [] = L at eb sp
  have lr : (((ds.map rowL).map ofL).map D.str).length = ds.length := by simp only [List.length_map]
  have ir : gIx (.lst (((ds.map rowL).map ofL).map D.str)) (.int (n : Int)) = .ok (.str (ofL (rowL ds[n]))) := gIx_nat (by simp only [List.getElem?_map, List.getElem?_eq_getElem hn]; rfl)
  have fin : ∀ (L : List Nat), Spoil L → (L ≠ [] ∨ 2 ≤ ds.length) → b_law_v30_2f_4 [S, some (.lst (ds.map Dd.D)), some (rowsD ds), some (.int c), some (.lst [.int d0, .int d1, .int d2, .int d3]), some (.int (n : Int)), some (.str (ofL L))] = .ok (.nx [S, some (.lst (ds.map Dd.D)), some (rowsD ds), some (.int c), some (.lst [.int d0, .int d1, .int d2, .int d3]), some (.int (n : Int)), some (.str (ofL L))]) := by
    intro L sp h0
    have hL := sp.len
    have ej : eJoin (eC (.str "; ")) (eOp gAdd (eOp gAdd (eSl (eVar 2) oNone (oSome (eVar 5))) (vLst (eLst (aCons (eVar 6) aNil)))) (eSl (eVar 2) (oSome (eOp gAdd (eVar 5) (eC (.int 1)))) oNone)) [S, some (.lst (ds.map Dd.D)), some (rowsD ds), some (.int c), some (.lst [.int d0, .int d1, .int d2, .int d3]), some (.int (n : Int)), some (.str (ofL L))] = .ok (.str (ofL (TxtA.flat [59, 32] ((ds.take n).map rowL ++ L :: (ds.drop (n + 1)).map rowL)))) := by
      show ((eOp gAdd (eOp gAdd (eSl (eVar 2) oNone (oSome (eVar 5))) (vLst (eLst (aCons (eVar 6) aNil)))) (eSl (eVar 2) (oSome (eOp gAdd (eVar 5) (eC (.int 1)))) oNone)) [S, some (.lst (ds.map Dd.D)), some (rowsD ds), some (.int c), some (.lst [.int d0, .int d1, .int d2, .int d3]), some (.int (n : Int)), some (.str (ofL L))]).bind (fun x => joinD (.str "; ") x) = _
      unfold rowsD
      walk_at "ev"
      rw [LmL.eSl_to _ _ _ (((ds.map rowL).map ofL).map D.str) n rfl rfl, LmL.eSl_from _ _ _ (((ds.map rowL).map ofL).map D.str) (n + 1) rfl rfl]; walk_at "ev"
      rw [Lk42.gAdd_ll (by rw [List.length_take, lr, List.length_singleton]; omega)]; walk_at "ev"
      rw [Lk42.gAdd_ll (by rw [List.length_append, List.length_take, List.length_drop, lr, List.length_singleton]; omega)]
      rw [show ((((ds.map rowL).map ofL).map D.str).take n ++ [D.str (ofL L)] ++ (((ds.map rowL).map ofL).map D.str).drop (n + 1)) = ((((ds.take n).map rowL ++ L :: (ds.drop (n + 1)).map rowL).map ofL).map D.str) from by simp [List.map_take, List.map_drop]]
      refine join_ok (y := [59, 32]) (B := 3000) (fun r hr => ?_) ?_
      · rcases List.mem_append.mp hr with hr | hr
        · obtain ⟨d, hd, rfl⟩ := List.mem_map.mp hr
          exact Nat.le_trans (row_len (hs d (List.mem_of_mem_take hd))) (by decide)
        · rcases List.mem_cons.mp hr with rfl | hr
          · exact hL
          · obtain ⟨d, hd, rfl⟩ := List.mem_map.mp hr
            exact Nat.le_trans (row_len (hs d (List.mem_of_mem_drop hd))) (by decide)
      · rw [List.length_append, List.length_map, List.length_cons, List.length_map, List.length_take, List.length_drop, show ([59, 32] : List Nat).length = 2 from rfl]; omega
    unfold b_law_v30_2f_4; walk_at "ev"
    rw [ej]; walk_at "ev"
    rw [spoiled hs hl hn sp h0]; walk_at "ev"
    unfold b_law_v30_2f_5; walk_at "ev"
    rw [show gIx (.lst [.int d0, .int d1, .int d2, .int d3]) (.int 3) = .ok (.int d3) from rfl]; walk_at "ev"
    rw [gMod_pos d3 6 (by decide), e6]; walk_at "ev"
    rw [ex]; walk_at "ev"
    rw [rx]; walk_at "ev"
  unfold b_law_v30_2f; walk_at "ev"
  rw [show m_law_digits_v1 [.int c, .int 50, .int 4] = _ from ee, show ([d0, d1, d2, d3] : List Int).map D.int = [.int d0, .int d1, .int d2, .int d3] from rfl]; walk_at "ev"
  unfold b_law_v30_2f_1; walk_at "ev"
  rw [show gIx (.lst [.int d0, .int d1, .int d2, .int d3]) (.int 2) = .ok (.int d2) from rfl]
  rw [show gLen [rowsD ds] = .ok (.int (ds.length : Int)) from by unfold rowsD; rw [gLen_l, lr]]; walk_at "ev"
  rw [gMod_pos _ _ (by omega), en]; walk_at "ev"
  unfold b_law_v30_2f_2; walk_at "ev"
  rw [show gIx (rowsD ds) (.int (n : Int)) = .ok (.str (ofL (rowL ds[n]))) from ir]; walk_at "ev"
  rw [eb]; walk_at "ev"
  unfold b_law_v30_2f_3; walk_at "ev"
  rw [show gLen [rowsD ds] = .ok (.int (ds.length : Int)) from by unfold rowsD; rw [gLen_l, lr]]; walk_at "ev"
  by_cases h1 : ds.length = 1
  · rw [decide_eq_true (show (ds.length : Int) = 1 by omega)]; walk_at "ev"
    by_cases hL : L = []
    · subst hL
      rw [show gEq (.str (ofL [])) (.str "") = .ok (.bl true) from rfl]; walk_at "ev"
      rw [show (D.str "row") = .str (ofL [114, 111, 119]) from rfl, fin _ row_spoil (.inl (by simp))]
      exact ⟨_, _, _, rfl⟩
    · rw [show (D.str "") = .str (ofL []) from rfl, gEq_ss, ofL_ne hL]; walk_at "ev"
      rw [fin _ sp (.inl hL)]
      exact ⟨_, _, _, rfl⟩
  · rw [decide_eq_false (show ¬ ((ds.length : Int) = 1) by omega)]; walk_at "ev"
    rw [fin _ sp (.inr (by omega))]
    exact ⟨_, _, _, rfl⟩
theorem law_ok (ns : List Int) (hl : ns.length ≤ 63) : m_law_v30 [.lst (ns.map .int)] = .ok (.bl true) := by
  obtain ⟨cs, lc, nc, ec⟩ := cells_ok ns
  obtain ⟨ds, ld, hs, ed⟩ := deeds_ok cs lc
  have nd : ds ≠ [] := fun z => nc (by rw [z] at ld; exact List.eq_nil_of_length_eq_zero ld.symm)
  have hm : ∀ a b : Nat, (((ns.map D.int).drop (min a (ns.map D.int).length)).take (min b (ns.map D.int).length - min a (ns.map D.int).length)) = (((ns.drop (min a ns.length)).take (min b ns.length - min a ns.length)).map D.int) := fun a b => by rw [List.length_map, List.map_take, List.map_drop]
  have es : ∀ σ : DSt, eVar 1 σ = .ok (.lst (ds.map Dd.D)) → vLst (eSplit (eCall m_shown (aCons (eVar 1) aNil)) (eC (.str "; "))) σ = .ok (rowsD ds) := fun σ h => by
    show (((eCall m_shown (aCons (eVar 1) aNil) σ).bind fun z => splitE (eC (.str "; ")) σ z).bind fun l => R.ok (D.lst l)) = _
    rw [eCall_def, aCons_def, h, aNil_def, consK_ok, callK_ok, shown_ok hs (by omega)]
    show ((splitD (.str (ofL (textL ds))) (.str (ofL [59, 32]))).bind fun l => R.ok (D.lst l)) = _
    have ht := text_len hs
    rw [show splitD (.str (ofL (textL ds))) (.str (ofL [59, 32])) = _ from split_ok (c := 59) (t := [32]) (rows := ds.map rowL) (by decide) (by decide) (by simpa using nd) (fun r hr => by obtain ⟨d, _, rfl⟩ := List.mem_map.mp hr; exact row_no) (show (textL ds).length ≤ 10000000 by omega)]
    rfl
  rw [m_law_v30_go]; unfold b_law_v30
  rw [sSeq_def, sSet0_def, eCall_def, aCons_def, ec, aNil_def, consK_ok, callK_ok, ed]; walk_at "ev"
  unfold b_law_v30_1
  rw [sSeq_def, sSet0_def, es _ rfl]; walk_at "ev"
  unfold b_law_v30_2; walk_at "ev"
  rw [eSl_mid _ _ _ _ (ns.map .int) 10 60 rfl rfl rfl, hm]; walk_at "ev"
  rw [List.length_map]
  rw [Lk42.gAdd_ll (by simp only [List.length_map, List.length_take, List.length_drop, List.length_cons, List.length_nil]; omega)]; walk_at "ev"
  rw [show ∀ es : List Int, es.map D.int ++ [D.int (ns.length : Int), D.int ((ns.length : Int) + 1)] = (es ++ [(ns.length : Int), (ns.length : Int) + 1]).map D.int from fun es => by rw [List.map_append]; rfl]
  generalize (ns.drop (min 10 ns.length)).take (min 60 ns.length - min 10 ns.length) ++ [(ns.length : Int), (ns.length : Int) + 1] = es
  have turn : ∀ d ∈ es.map D.int, ∀ σ, (∃ x3 x4 x5 x6, σ = [some (.lst (ns.map .int)), some (.lst (ds.map Dd.D)), some (rowsD ds), x3, x4, x5, x6]) → ∃ σ', (b_law_v30_2f (σ.set 3 (some d)) = .ok (.nx σ') ∨ b_law_v30_2f (σ.set 3 (some d)) = .ok (.ct σ')) ∧ ∃ x3 x4 x5 x6, σ' = [some (.lst (ns.map .int)), some (.lst (ds.map Dd.D)), some (rowsD ds), x3, x4, x5, x6] := by
    rintro d hd σ ⟨x3, x4, x5, x6, rfl⟩
    obtain ⟨c, _, rfl⟩ := List.mem_map.mp hd
    obtain ⟨y4, y5, y6, e⟩ := turn_ok hs (by omega) nd (some (.lst (ns.map .int))) c x4 x5 x6
    exact ⟨_, .inl e, _, _, _, _, rfl⟩
  obtain ⟨σ', e, x3, x4, x5, x6, rfl⟩ := forL_inv (i := 3) (fb := b_law_v30_2f) _ _ turn [some (.lst (ns.map .int)), some (.lst (ds.map Dd.D)), some (rowsD ds), none, none, none, none] ⟨_, _, _, _, rfl⟩
  rw [e]; walk_at "ev"
  unfold b_law_v30_3
  have ej : eJoin (eC (.str "; ")) (eVar 2) [some (.lst (ns.map .int)), some (.lst (ds.map Dd.D)), some (rowsD ds), x3, x4, x5, x6] = .ok (.str (ofL (textL ds))) := by
    show joinD (.str (ofL [59, 32])) (.lst (((ds.map rowL).map ofL).map D.str)) = _
    refine join_ok (B := 150) (fun r hr => ?_) ?_
    · obtain ⟨d, hd, rfl⟩ := List.mem_map.mp hr
      exact row_len (hs d hd)
    · rw [List.length_map]
      show ds.length * 150 + ds.length * 2 ≤ 10000000
      omega
  walk_at "ev"
  rw [ej]; walk_at "ev"
  rw [readX_ok hs (by omega) nd]; walk_at "ev"
  rw [eq_plan]; walk_at "ev"
end Lk25
end
section
set_option Elab.async false
set_option linter.all false
set_option maxRecDepth 100000
namespace Kx
open PySem L2 DL Mir
def top (i : Nat) : Stmt := PySem.Challenge.pw_chalkline_k25_no_plan.main.body.getD i (.Pass ⟨0, 0, 0, 0⟩)
abbrev s__law_digits : Stmt := top 26
theorem sc__law_digits : FnScope ["_law_cell_here", "_law_k", "_law_many", "_law_found", "_law_rest", "_law_number_here", "_law_j"] ["_law_cell_here", "_law_k", "_law_many"] (defScope s__law_digits) := ⟨rfl, rfl, rfl, by decide +kernel, rfl, by decide +kernel, by decide +kernel⟩
set_option maxHeartbeats 4000000 in
theorem ok__law_digits {P : Program} {w : World} {K : PySem.W.Frag} {mg : Str → Option Value} {base : Heap} {f : Addr} {fd : FuncData} {k : Nat} (F : Fun K "_law_digits" "_law_digits" s__law_digits f fd) (hm : mg "_law_digits" = some (.ref f)) (hb : Binds K fd ["_law_cell_here", "_law_k", "_law_many"] []) (n_abs : mg "abs" = none) (n_int : mg "int" = none) (n_len : mg "len" = none) (n_range : mg "range" = none) : FnAt P w K mg base (k + 1) "_law_digits" m_law_digits_v1 := by
  refine FnAt.mk' (own' := []) F sc__law_digits hm hb rfl rfl fun X E hX C L => ?_
  obtain ⟨cdv, A, outer, s, H, rfl⟩ := hX
  have nd := sc__law_digits.nd
  exact (@dss_cons _ _ _ _ _ _ _ _ _ _ (@ds_new _ _ _ _ _ _ _ _ _ _ 3 nd (@df_lst _ _ _ _ _ (@da_nil _ _)) (by rfl) (by rfl) (by first | exact Or.inl rfl | exact Or.inr rfl) (by rfl) (by first | exact .inl rfl | exact .inr rfl | assumption)) (@dss_cons _ _ _ _ _ _ _ _ _ _ (@ds_set _ _ _ _ _ _ _ _ _ 4 nd (@de_mulS _ _ _ _ _ _ _ (@de_abs _ _ _ _ _ _ _ n_abs (@da_cons _ _ _ _ _ _ (@de_var _ _ 0 _ _ (by rfl) (by first | exact Or.inl rfl | exact Or.inr (Or.inl rfl) | exact Or.inr (Or.inr rfl)) (by decide) (by decide)) (@da_nil _ _) (by rfl)) (by rfl) (by rfl) (by rfl)) (@de_intc _ _ _ _ _ _ _ n_int (@da_cons _ _ _ _ _ _ (@de_cmp1 _ _ _ _ _ _ _ _ _ (@cf_ge _) (@de_abs _ _ _ _ _ _ _ n_abs (@da_cons _ _ _ _ _ _ (@de_var _ _ 0 _ _ (by rfl) (by first | exact Or.inl rfl | exact Or.inr (Or.inl rfl) | exact Or.inr (Or.inr rfl)) (by decide) (by decide)) (@da_nil _ _) (by rfl)) (by rfl) (by rfl) (by rfl)) (@de_pow _ _ _ _ _ _ _ (@de_int _ _ _ _ _) (@de_int _ _ _ _ _)) (by first | exact nobehind _ (by decide) (by decide) | rfl)) (@da_nil _ _) (by rfl)) (by rfl) (by rfl) (by rfl))) (by rfl) (by rfl) (by first | exact Or.inl rfl | exact Or.inr rfl) (by rfl) (by first | exact .inl rfl | exact .inr rfl | assumption)) (@dss_cons _ _ _ _ _ _ _ _ _ _ (@ds_while _ _ _ _ _ _ _ _ _ L (@DW.dt _ _ _ _ (@dw_and _ _ _ _ _ _ _ _ (@dt_cmp1 _ _ _ _ _ _ _ _ _ (@cf_gt _) (@de_var _ _ 4 _ _ (by rfl) (by first | exact Or.inl rfl | exact Or.inr (Or.inl rfl) | exact Or.inr (Or.inr rfl)) (by decide) (by decide)) (@de_int _ _ _ _ _) (by first | exact nobehind _ (by decide) (by decide) | rfl)) (@dw_and1 _ _ _ _ _ (@dt_cmp1 _ _ _ _ _ _ _ _ _ (@cf_lt _) (@de_len _ _ _ _ _ _ _ n_len (@da_cons _ _ _ _ _ _ (@de_var _ _ 3 _ _ (by rfl) (by first | exact Or.inl rfl | exact Or.inr (Or.inl rfl) | exact Or.inr (Or.inr rfl)) (by decide) (by decide)) (@da_nil _ _) (by rfl)) (by rfl) (by rfl) (by rfl)) (@de_var _ _ 2 _ _ (by rfl) (by first | exact Or.inl rfl | exact Or.inr (Or.inl rfl) | exact Or.inr (Or.inr rfl)) (by decide) (by decide)) (by first | exact nobehind _ (by decide) (by decide) | rfl))))) (@dss_cons _ _ _ _ _ _ _ _ _ _ (@ds_app _ _ _ _ _ _ _ _ 3 _ _ _ (@de_mod _ _ _ _ _ _ _ (@de_var _ _ 4 _ _ (by rfl) (by first | exact Or.inl rfl | exact Or.inr (Or.inl rfl) | exact Or.inr (Or.inr rfl)) (by decide) (by decide)) (@de_pow _ _ _ _ _ _ _ (@de_int _ _ _ _ _) (@de_int _ _ _ _ _))) (by rfl) (by rfl) (by first | exact Or.inl rfl | exact Or.inr (Or.inl rfl) | exact Or.inr (Or.inr rfl)) (by decide) (by decide) (by rfl) (by rfl) (by rfl) (by rfl) (by rfl) (by rfl)) (@dss_one _ _ _ _ _ _ _ (@ds_set _ _ _ _ _ _ _ _ _ 4 nd (@de_fdiv _ _ _ _ _ _ _ (@de_var _ _ 4 _ _ (by rfl) (by first | exact Or.inl rfl | exact Or.inr (Or.inl rfl) | exact Or.inr (Or.inr rfl)) (by decide) (by decide)) (@de_pow _ _ _ _ _ _ _ (@de_int _ _ _ _ _) (@de_int _ _ _ _ _))) (by rfl) (by rfl) (by first | exact Or.inl rfl | exact Or.inr rfl) (by rfl) (by first | exact .inl rfl | exact .inr rfl | assumption))))) (@dss_cons _ _ _ _ _ _ _ _ _ _ (@ds_set _ _ _ _ _ _ _ _ _ 5 nd (@de_add _ _ _ _ _ _ _ (@de_add _ _ _ _ _ _ _ (@de_mod _ _ _ _ _ _ _ (@de_var _ _ 0 _ _ (by rfl) (by first | exact Or.inl rfl | exact Or.inr (Or.inl rfl) | exact Or.inr (Or.inr rfl)) (by decide) (by decide)) (@de_int _ _ _ _ _)) (@de_mul _ _ _ _ _ _ _ (@de_var _ _ 1 _ _ (by rfl) (by first | exact Or.inl rfl | exact Or.inr (Or.inl rfl) | exact Or.inr (Or.inr rfl)) (by decide) (by decide)) (@de_var _ _ 1 _ _ (by rfl) (by first | exact Or.inl rfl | exact Or.inr (Or.inl rfl) | exact Or.inr (Or.inr rfl)) (by decide) (by decide)))) (@de_int _ _ _ _ _)) (by rfl) (by rfl) (by first | exact Or.inl rfl | exact Or.inr rfl) (by rfl) (by first | exact .inl rfl | exact .inr rfl | assumption)) (@dss_cons _ _ _ _ _ _ _ _ _ _ (@ds_forR _ _ _ _ _ _ _ _ _ _ _ _ L C.calm (@dr_range2 _ _ _ _ _ _ _ _ n_range (@da_cons _ _ _ _ _ _ (@de_len _ _ _ _ _ _ _ n_len (@da_cons _ _ _ _ _ _ (@de_var _ _ 3 _ _ (by rfl) (by first | exact Or.inl rfl | exact Or.inr (Or.inl rfl) | exact Or.inr (Or.inr rfl)) (by decide) (by decide)) (@da_nil _ _) (by rfl)) (by rfl) (by rfl) (by rfl)) (@da_cons _ _ _ _ _ _ (@de_var _ _ 2 _ _ (by rfl) (by first | exact Or.inl rfl | exact Or.inr (Or.inl rfl) | exact Or.inr (Or.inr rfl)) (by decide) (by decide)) (@da_nil _ _) (by rfl)) (by rfl)) (by rfl) (by rfl) (by rfl)) (@dg_name _ _ 6 _ nd (by rfl) (by first | exact Or.inl rfl | exact Or.inr rfl) (by first | exact .inl rfl | exact .inr rfl | assumption)) (@dss_cons _ _ _ _ _ _ _ _ _ _ (@ds_set _ _ _ _ _ _ _ _ _ 5 nd (@de_mod _ _ _ _ _ _ _ (@de_add _ _ _ _ _ _ _ (@de_add _ _ _ _ _ _ _ (@de_mul _ _ _ _ _ _ _ (@de_var _ _ 5 _ _ (by rfl) (by first | exact Or.inl rfl | exact Or.inr (Or.inl rfl) | exact Or.inr (Or.inr rfl)) (by decide) (by decide)) (@de_int _ _ _ _ _)) (@de_mul _ _ _ _ _ _ _ (@de_var _ _ 6 _ _ (by rfl) (by first | exact Or.inl rfl | exact Or.inr (Or.inl rfl) | exact Or.inr (Or.inr rfl)) (by decide) (by decide)) (@de_var _ _ 6 _ _ (by rfl) (by first | exact Or.inl rfl | exact Or.inr (Or.inl rfl) | exact Or.inr (Or.inr rfl)) (by decide) (by decide)))) (@de_var _ _ 1 _ _ (by rfl) (by first | exact Or.inl rfl | exact Or.inr (Or.inl rfl) | exact Or.inr (Or.inr rfl)) (by decide) (by decide))) (@de_int _ _ _ _ _)) (by rfl) (by rfl) (by first | exact Or.inl rfl | exact Or.inr rfl) (by rfl) (by first | exact .inl rfl | exact .inr rfl | assumption)) (@dss_one _ _ _ _ _ _ _ (@ds_app _ _ _ _ _ _ _ _ 3 _ _ _ (@de_mod _ _ _ _ _ _ _ (@de_fdiv _ _ _ _ _ _ _ (@de_mod _ _ _ _ _ _ _ (@de_mul _ _ _ _ _ _ _ (@de_var _ _ 5 _ _ (by rfl) (by first | exact Or.inl rfl | exact Or.inr (Or.inl rfl) | exact Or.inr (Or.inr rfl)) (by decide) (by decide)) (@de_var _ _ 5 _ _ (by rfl) (by first | exact Or.inl rfl | exact Or.inr (Or.inl rfl) | exact Or.inr (Or.inr rfl)) (by decide) (by decide))) (@de_int _ _ _ _ _)) (@de_int _ _ _ _ _)) (@de_pow _ _ _ _ _ _ _ (@de_int _ _ _ _ _) (@de_int _ _ _ _ _))) (by rfl) (by rfl) (by first | exact Or.inl rfl | exact Or.inr (Or.inl rfl) | exact Or.inr (Or.inr rfl)) (by decide) (by decide) (by rfl) (by rfl) (by rfl) (by rfl) (by rfl) (by rfl)))) (by rfl) (by intro _ ; rfl)) (@dss_rel _ _ _ _ _ _ _ _ 3 (by rfl) (by rfl) (@dss_one _ _ _ _ _ _ _ (@ds_ret _ _ _ _ _ _ _ _ (@de_var _ _ 3 _ _ (by rfl) (by first | exact Or.inl rfl | exact Or.inr (Or.inl rfl) | exact Or.inr (Or.inr rfl)) (by decide) (by decide))))))))))
abbrev s__law_number : Stmt := top 27
theorem sc__law_number : FnScope ["_law_d"] ["_law_d"] (defScope s__law_number) := ⟨rfl, rfl, rfl, by decide +kernel, rfl, by decide +kernel, by decide +kernel⟩
set_option maxHeartbeats 4000000 in
theorem ok__law_number {P : Program} {w : World} {K : PySem.W.Frag} {mg : Str → Option Value} {base : Heap} {f : Addr} {fd : FuncData} {k : Nat} (F : Fun K "_law_number" "_law_number" s__law_number f fd) (hm : mg "_law_number" = some (.ref f)) (hb : Binds K fd ["_law_d"] []) : FnAt P w K mg base (k + 1) "_law_number" m_law_number := by
  refine FnAt.mk' (own' := []) F sc__law_number hm hb rfl rfl fun X E hX C L => ?_
  obtain ⟨cdv, A, outer, s, H, rfl⟩ := hX
  have nd := sc__law_number.nd
  exact (@dss_one _ _ _ _ _ _ _ (@ds_ret _ _ _ _ _ _ _ _ (@de_ix _ _ _ _ _ _ _ (@DF.val _ _ _ _ (@df_lst _ _ _ _ _ (@da_cons _ _ _ _ _ _ (@de_mod _ _ _ _ _ _ _ (@de_ix _ _ _ _ _ _ _ (@de_var _ _ 0 _ _ (by rfl) (by first | exact Or.inl rfl | exact Or.inr (Or.inl rfl) | exact Or.inr (Or.inr rfl)) (by decide) (by decide)) (@de_int _ _ _ _ _) (by intro _ _ ; rfl)) (@de_int _ _ _ _ _)) (@da_cons _ _ _ _ _ _ (@de_ix _ _ _ _ _ _ _ (@de_var _ _ 0 _ _ (by rfl) (by first | exact Or.inl rfl | exact Or.inr (Or.inl rfl) | exact Or.inr (Or.inr rfl)) (by decide) (by decide)) (@de_int _ _ _ _ _) (by intro _ _ ; rfl)) (@da_cons _ _ _ _ _ _ (@de_add _ _ _ _ _ _ _ (@de_add _ _ _ _ _ _ _ (@de_mul _ _ _ _ _ _ _ (@de_ix _ _ _ _ _ _ _ (@de_var _ _ 0 _ _ (by rfl) (by first | exact Or.inl rfl | exact Or.inr (Or.inl rfl) | exact Or.inr (Or.inr rfl)) (by decide) (by decide)) (@de_int _ _ _ _ _) (by intro _ _ ; rfl)) (@de_pow _ _ _ _ _ _ _ (@de_int _ _ _ _ _) (@de_int _ _ _ _ _))) (@de_mul _ _ _ _ _ _ _ (@de_ix _ _ _ _ _ _ _ (@de_var _ _ 0 _ _ (by rfl) (by first | exact Or.inl rfl | exact Or.inr (Or.inl rfl) | exact Or.inr (Or.inr rfl)) (by decide) (by decide)) (@de_int _ _ _ _ _) (by intro _ _ ; rfl)) (@de_pow _ _ _ _ _ _ _ (@de_int _ _ _ _ _) (@de_int _ _ _ _ _)))) (@de_int _ _ _ _ _)) (@da_nil _ _) (by rfl)) (by rfl)) (by rfl)))) (@de_mod _ _ _ _ _ _ _ (@de_ix _ _ _ _ _ _ _ (@de_var _ _ 0 _ _ (by rfl) (by first | exact Or.inl rfl | exact Or.inr (Or.inl rfl) | exact Or.inr (Or.inr rfl)) (by decide) (by decide)) (@de_int _ _ _ _ _) (by intro _ _ ; rfl)) (@de_int _ _ _ _ _)) (by intro _ _ ; rfl))))
abbrev s__law_deeds : Stmt := top 28
theorem sc__law_deeds : FnScope ["_law_cells", "_law_plan", "_law_k", "_law_d"] ["_law_cells"] (defScope s__law_deeds) := ⟨rfl, rfl, rfl, by decide +kernel, rfl, by decide +kernel, by decide +kernel⟩
set_option maxHeartbeats 4000000 in
theorem ok__law_deeds {P : Program} {w : World} {K : PySem.W.Frag} {mg : Str → Option Value} {base : Heap} {f : Addr} {fd : FuncData} {k : Nat} (F : Fun K "_law_deeds" "_law_deeds" s__law_deeds f fd) (hm : mg "_law_deeds" = some (.ref f)) (hb : Binds K fd ["_law_cells"] []) (n_range : mg "range" = none) (n_len : mg "len" = none) (F__law_digits : FnAt P w K mg base k "_law_digits" m_law_digits_v1) (F__law_number : FnAt P w K mg base k "_law_number" m_law_number) : FnAt P w K mg base (k + 1) "_law_deeds" m_law_deeds := by
  refine FnAt.mk' (own' := []) F sc__law_deeds hm hb rfl rfl fun X E hX C L => ?_
  obtain ⟨cdv, A, outer, s, H, rfl⟩ := hX
  have nd := sc__law_deeds.nd
  exact (@dss_cons _ _ _ _ _ _ _ _ _ _ (@ds_new _ _ _ _ _ _ _ _ _ _ 1 nd (@df_lst _ _ _ _ _ (@da_nil _ _)) (by rfl) (by rfl) (by first | exact Or.inl rfl | exact Or.inr rfl) (by rfl) (by first | exact .inl rfl | exact .inr rfl | assumption)) (@dss_cons _ _ _ _ _ _ _ _ _ _ (@ds_for _ _ _ _ _ _ _ _ _ _ _ _ L C.calm (@di_range1 _ _ _ _ _ _ _ n_range (@da_cons _ _ _ _ _ _ (@de_len _ _ _ _ _ _ _ n_len (@da_cons _ _ _ _ _ _ (@de_var _ _ 0 _ _ (by rfl) (by first | exact Or.inl rfl | exact Or.inr (Or.inl rfl) | exact Or.inr (Or.inr rfl)) (by decide) (by decide)) (@da_nil _ _) (by rfl)) (by rfl) (by rfl) (by rfl)) (@da_nil _ _) (by rfl)) (by rfl) (by rfl)) (@dg_name _ _ 2 _ nd (by rfl) (by first | exact Or.inl rfl | exact Or.inr rfl) (by first | exact .inl rfl | exact .inr rfl | assumption)) (@dss_cons _ _ _ _ _ _ _ _ _ _ (@ds_set _ _ _ _ _ _ _ _ _ 3 nd (@de_call _ _ _ _ _ _ _ _ _ _ C F__law_digits (@da_cons _ _ _ _ _ _ (@de_ix _ _ _ _ _ _ _ (@de_var _ _ 0 _ _ (by rfl) (by first | exact Or.inl rfl | exact Or.inr (Or.inl rfl) | exact Or.inr (Or.inr rfl)) (by decide) (by decide)) (@de_var _ _ 2 _ _ (by rfl) (by first | exact Or.inl rfl | exact Or.inr (Or.inl rfl) | exact Or.inr (Or.inr rfl)) (by decide) (by decide)) (by intro _ _ ; rfl)) (@da_cons _ _ _ _ _ _ (@de_var _ _ 2 _ _ (by rfl) (by first | exact Or.inl rfl | exact Or.inr (Or.inl rfl) | exact Or.inr (Or.inr rfl)) (by decide) (by decide)) (@da_cons _ _ _ _ _ _ (@de_int _ _ _ _ _) (@da_nil _ _) (by rfl)) (by rfl)) (by rfl)) (by rfl) (by decide) (by rfl) (by rfl)) (by rfl) (by rfl) (by first | exact Or.inl rfl | exact Or.inr rfl) (by rfl) (by first | exact .inl rfl | exact .inr rfl | assumption)) (@dss_one _ _ _ _ _ _ _ (@ds_app _ _ _ _ _ _ _ _ 1 _ _ _ (@de_tup _ _ _ _ _ _ (@da_cons _ _ _ _ _ _ (@de_ix _ _ _ _ _ _ _ (@DF.val _ _ _ _ (@df_lst _ _ _ _ _ (@da_cons _ _ _ _ _ _ (@de_str _ _ _ _ _) (@da_cons _ _ _ _ _ _ (@de_str _ _ _ _ _) (@da_nil _ _) (by rfl)) (by rfl)))) (@de_mod _ _ _ _ _ _ _ (@de_ix _ _ _ _ _ _ _ (@de_var _ _ 3 _ _ (by rfl) (by first | exact Or.inl rfl | exact Or.inr (Or.inl rfl) | exact Or.inr (Or.inr rfl)) (by decide) (by decide)) (@de_int _ _ _ _ _) (by intro _ _ ; rfl)) (@de_int _ _ _ _ _)) (by intro _ _ ; rfl)) (@da_cons _ _ _ _ _ _ (@de_call _ _ _ _ _ _ _ _ _ _ C F__law_number (@da_cons _ _ _ _ _ _ (@de_sl _ _ _ _ _ _ _ _ _ _ (@de_var _ _ 3 _ _ (by rfl) (by first | exact Or.inl rfl | exact Or.inr (Or.inl rfl) | exact Or.inr (Or.inr rfl)) (by decide) (by decide)) (@do_some _ _ _ _ (@de_int _ _ _ _ _)) (@do_some _ _ _ _ (@de_int _ _ _ _ _))) (@da_nil _ _) (by rfl)) (by rfl) (by decide) (by rfl) (by rfl)) (@da_cons _ _ _ _ _ _ (@de_call _ _ _ _ _ _ _ _ _ _ C F__law_number (@da_cons _ _ _ _ _ _ (@de_sl _ _ _ _ _ _ _ _ _ _ (@de_var _ _ 3 _ _ (by rfl) (by first | exact Or.inl rfl | exact Or.inr (Or.inl rfl) | exact Or.inr (Or.inr rfl)) (by decide) (by decide)) (@do_some _ _ _ _ (@de_int _ _ _ _ _)) (@do_some _ _ _ _ (@de_int _ _ _ _ _))) (@da_nil _ _) (by rfl)) (by rfl) (by decide) (by rfl) (by rfl)) (@da_nil _ _) (by rfl)) (by rfl)) (by rfl))) (by rfl) (by rfl) (by first | exact Or.inl rfl | exact Or.inr (Or.inl rfl) | exact Or.inr (Or.inr rfl)) (by decide) (by decide) (by rfl) (by rfl) (by rfl) (by rfl) (by rfl) (by rfl)))) (by rfl) (by intro _ ; rfl)) (@dss_rel _ _ _ _ _ _ _ _ 1 (by rfl) (by rfl) (@dss_one _ _ _ _ _ _ _ (@ds_ret _ _ _ _ _ _ _ _ (@de_var _ _ 1 _ _ (by rfl) (by first | exact Or.inl rfl | exact Or.inr (Or.inl rfl) | exact Or.inr (Or.inr rfl)) (by decide) (by decide)))))))
abbrev s__law_bad : Stmt := top 29
theorem sc__law_bad : FnScope ["_law_row", "_law_d", "_law_word", "_law_one", "_law_other", "_law_sign", "_law_some"] ["_law_row", "_law_d"] (defScope s__law_bad) := ⟨rfl, rfl, rfl, by decide +kernel, rfl, by decide +kernel, by decide +kernel⟩
set_option maxHeartbeats 4000000 in
theorem ok__law_bad {P : Program} {w : World} {K : PySem.W.Frag} {mg : Str → Option Value} {base : Heap} {f : Addr} {fd : FuncData} {k : Nat} (F : Fun K "_law_bad" "_law_bad" s__law_bad f fd) (hm : mg "_law_bad" = some (.ref f)) (hb : Binds K fd ["_law_row", "_law_d"] []) : FnAt P w K mg base (k + 1) "_law_bad" m_law_bad_v1 := by
  refine FnAt.mk' (own' := []) F sc__law_bad hm hb rfl rfl fun X E hX C L => ?_
  obtain ⟨cdv, A, outer, s, H, rfl⟩ := hX
  have nd := sc__law_bad.nd
  exact (@dss_cons _ _ _ _ _ _ _ _ _ _ (@ds_asg _ _ _ _ _ _ _ _ _ _ (@DF.val _ _ _ _ (@df_split _ _ _ _ _ _ _ _ (@de_var _ _ 0 _ _ (by rfl) (by first | exact Or.inl rfl | exact Or.inr (Or.inl rfl) | exact Or.inr (Or.inr rfl)) (by decide) (by decide)) (@de_str _ _ _ _ _) (by rfl) (by rfl) (by rfl) (by rfl) (by rfl))) (@dg_seq _ _ _ _ [2, 3, 4] 3 C.calm (@pgs_cons _ _ _ _ _ (@pg_name _ _ (2) _ nd rfl (by first | exact Or.inl rfl | exact Or.inr rfl) (by first | exact .inl rfl | exact .inr rfl | assumption)) (@pgs_cons _ _ _ _ _ (@pg_name _ _ (3) _ nd rfl (by first | exact Or.inl rfl | exact Or.inr rfl) (by first | exact .inl rfl | exact .inr rfl | assumption)) (@pgs_cons _ _ _ _ _ (@pg_name _ _ (4) _ nd rfl (by first | exact Or.inl rfl | exact Or.inr rfl) (by first | exact .inl rfl | exact .inr rfl | assumption)) (@pgs_nil _) (by rfl)) (by rfl)) (by rfl)) (by rfl) (by rfl) (by rfl)) (by rfl) (by rfl) (by rfl) (by rfl)) (@dss_cons _ _ _ _ _ _ _ _ _ _ (@ds_set0 _ _ _ _ _ _ _ _ 5 nd (@de_ixS _ _ _ _ _ _ _ (@de_str _ _ _ _ _) (@de_mod _ _ _ _ _ _ _ (@de_ix _ _ _ _ _ _ _ (@de_var _ _ 1 _ _ (by rfl) (by first | exact Or.inl rfl | exact Or.inr (Or.inl rfl) | exact Or.inr (Or.inr rfl)) (by decide) (by decide)) (@de_int _ _ _ _ _) (by intro _ _ ; rfl)) (@de_int _ _ _ _ _)) (by intro _ _ ; rfl)) (by rfl) (by first | exact Or.inl rfl | exact Or.inr rfl) (by rfl) (by first | exact .inl rfl | exact .inr rfl | assumption)) (@dss_cons _ _ _ _ _ _ _ _ _ _ (@ds_set0 _ _ _ _ _ _ _ _ 6 nd (@DF.val _ _ _ _ (@df_lst _ _ _ _ _ (@da_cons _ _ _ _ _ _ (@de_str _ _ _ _ _) (@da_cons _ _ _ _ _ _ (@de_str _ _ _ _ _) (@da_cons _ _ _ _ _ _ (@de_var _ _ 2 _ _ (by rfl) (by first | exact Or.inl rfl | exact Or.inr (Or.inl rfl) | exact Or.inr (Or.inr rfl)) (by decide) (by decide)) (@da_cons _ _ _ _ _ _ (@de_add _ _ _ _ _ _ _ (@de_add _ _ _ _ _ _ _ (@de_var _ _ 2 _ _ (by rfl) (by first | exact Or.inl rfl | exact Or.inr (Or.inl rfl) | exact Or.inr (Or.inr rfl)) (by decide) (by decide)) (@de_str _ _ _ _ _)) (@de_var _ _ 3 _ _ (by rfl) (by first | exact Or.inl rfl | exact Or.inr (Or.inl rfl) | exact Or.inr (Or.inr rfl)) (by decide) (by decide))) (@da_cons _ _ _ _ _ _ (@de_add _ _ _ _ _ _ _ (@de_var _ _ 0 _ _ (by rfl) (by first | exact Or.inl rfl | exact Or.inr (Or.inl rfl) | exact Or.inr (Or.inr rfl)) (by decide) (by decide)) (@de_str _ _ _ _ _)) (@da_cons _ _ _ _ _ _ (@de_add _ _ _ _ _ _ _ (@de_add _ _ _ _ _ _ _ (@de_add _ _ _ _ _ _ _ (@de_str _ _ _ _ _) (@de_var _ _ 3 _ _ (by rfl) (by first | exact Or.inl rfl | exact Or.inr (Or.inl rfl) | exact Or.inr (Or.inr rfl)) (by decide) (by decide))) (@de_str _ _ _ _ _)) (@de_var _ _ 4 _ _ (by rfl) (by first | exact Or.inl rfl | exact Or.inr (Or.inl rfl) | exact Or.inr (Or.inr rfl)) (by decide) (by decide))) (@da_cons _ _ _ _ _ _ (@de_add _ _ _ _ _ _ _ (@de_add _ _ _ _ _ _ _ (@de_add _ _ _ _ _ _ _ (@de_str _ _ _ _ _) (@de_var _ _ 3 _ _ (by rfl) (by first | exact Or.inl rfl | exact Or.inr (Or.inl rfl) | exact Or.inr (Or.inr rfl)) (by decide) (by decide))) (@de_str _ _ _ _ _)) (@de_var _ _ 4 _ _ (by rfl) (by first | exact Or.inl rfl | exact Or.inr (Or.inl rfl) | exact Or.inr (Or.inr rfl)) (by decide) (by decide))) (@da_nil _ _) (by rfl)) (by rfl)) (by rfl)) (by rfl)) (by rfl)) (by rfl)) (by rfl)))) (by rfl) (by first | exact Or.inl rfl | exact Or.inr rfl) (by rfl) (by first | exact .inl rfl | exact .inr rfl | assumption)) (@dss_cons _ _ _ _ _ _ _ _ _ _ (@ds_set0 _ _ _ _ _ _ _ _ 6 nd (@de_add _ _ _ _ _ _ _ (@de_var _ _ 6 _ _ (by rfl) (by first | exact Or.inl rfl | exact Or.inr (Or.inl rfl) | exact Or.inr (Or.inr rfl)) (by decide) (by decide)) (@DF.val _ _ _ _ (@df_lst _ _ _ _ _ (@da_cons _ _ _ _ _ _ (@de_add _ _ _ _ _ _ _ (@de_add _ _ _ _ _ _ _ (@de_add _ _ _ _ _ _ _ (@de_add _ _ _ _ _ _ _ (@de_var _ _ 2 _ _ (by rfl) (by first | exact Or.inl rfl | exact Or.inr (Or.inl rfl) | exact Or.inr (Or.inr rfl)) (by decide) (by decide)) (@de_str _ _ _ _ _)) (@de_var _ _ 3 _ _ (by rfl) (by first | exact Or.inl rfl | exact Or.inr (Or.inl rfl) | exact Or.inr (Or.inr rfl)) (by decide) (by decide))) (@de_str _ _ _ _ _)) (@de_var _ _ 4 _ _ (by rfl) (by first | exact Or.inl rfl | exact Or.inr (Or.inl rfl) | exact Or.inr (Or.inr rfl)) (by decide) (by decide))) (@da_cons _ _ _ _ _ _ (@de_add _ _ _ _ _ _ _ (@de_add _ _ _ _ _ _ _ (@de_add _ _ _ _ _ _ _ (@de_add _ _ _ _ _ _ _ (@de_var _ _ 2 _ _ (by rfl) (by first | exact Or.inl rfl | exact Or.inr (Or.inl rfl) | exact Or.inr (Or.inr rfl)) (by decide) (by decide)) (@de_str _ _ _ _ _)) (@de_var _ _ 3 _ _ (by rfl) (by first | exact Or.inl rfl | exact Or.inr (Or.inl rfl) | exact Or.inr (Or.inr rfl)) (by decide) (by decide))) (@de_str _ _ _ _ _)) (@de_var _ _ 4 _ _ (by rfl) (by first | exact Or.inl rfl | exact Or.inr (Or.inl rfl) | exact Or.inr (Or.inr rfl)) (by decide) (by decide))) (@da_cons _ _ _ _ _ _ (@de_add _ _ _ _ _ _ _ (@de_add _ _ _ _ _ _ _ (@de_add _ _ _ _ _ _ _ (@de_add _ _ _ _ _ _ _ (@de_var _ _ 2 _ _ (by rfl) (by first | exact Or.inl rfl | exact Or.inr (Or.inl rfl) | exact Or.inr (Or.inr rfl)) (by decide) (by decide)) (@de_str _ _ _ _ _)) (@de_var _ _ 3 _ _ (by rfl) (by first | exact Or.inl rfl | exact Or.inr (Or.inl rfl) | exact Or.inr (Or.inr rfl)) (by decide) (by decide))) (@de_str _ _ _ _ _)) (@de_var _ _ 4 _ _ (by rfl) (by first | exact Or.inl rfl | exact Or.inr (Or.inl rfl) | exact Or.inr (Or.inr rfl)) (by decide) (by decide))) (@da_nil _ _) (by rfl)) (by rfl)) (by rfl))))) (by rfl) (by first | exact Or.inl rfl | exact Or.inr rfl) (by rfl) (by first | exact .inl rfl | exact .inr rfl | assumption)) (@dss_cons _ _ _ _ _ _ _ _ _ _ (@ds_set0 _ _ _ _ _ _ _ _ 6 nd (@de_add _ _ _ _ _ _ _ (@de_var _ _ 6 _ _ (by rfl) (by first | exact Or.inl rfl | exact Or.inr (Or.inl rfl) | exact Or.inr (Or.inr rfl)) (by decide) (by decide)) (@DF.val _ _ _ _ (@df_lst _ _ _ _ _ (@da_cons _ _ _ _ _ _ (@de_add _ _ _ _ _ _ _ (@de_add _ _ _ _ _ _ _ (@de_add _ _ _ _ _ _ _ (@de_add _ _ _ _ _ _ _ (@de_var _ _ 2 _ _ (by rfl) (by first | exact Or.inl rfl | exact Or.inr (Or.inl rfl) | exact Or.inr (Or.inr rfl)) (by decide) (by decide)) (@de_str _ _ _ _ _)) (@de_var _ _ 3 _ _ (by rfl) (by first | exact Or.inl rfl | exact Or.inr (Or.inl rfl) | exact Or.inr (Or.inr rfl)) (by decide) (by decide))) (@de_str _ _ _ _ _)) (@de_var _ _ 4 _ _ (by rfl) (by first | exact Or.inl rfl | exact Or.inr (Or.inl rfl) | exact Or.inr (Or.inr rfl)) (by decide) (by decide))) (@da_cons _ _ _ _ _ _ (@de_add _ _ _ _ _ _ _ (@de_str _ _ _ _ _) (@de_var _ _ 0 _ _ (by rfl) (by first | exact Or.inl rfl | exact Or.inr (Or.inl rfl) | exact Or.inr (Or.inr rfl)) (by decide) (by decide))) (@da_cons _ _ _ _ _ _ (@de_add _ _ _ _ _ _ _ (@de_var _ _ 0 _ _ (by rfl) (by first | exact Or.inl rfl | exact Or.inr (Or.inl rfl) | exact Or.inr (Or.inr rfl)) (by decide) (by decide)) (@de_str _ _ _ _ _)) (@da_cons _ _ _ _ _ _ (@de_add _ _ _ _ _ _ _ (@de_var _ _ 0 _ _ (by rfl) (by first | exact Or.inl rfl | exact Or.inr (Or.inl rfl) | exact Or.inr (Or.inr rfl)) (by decide) (by decide)) (@de_str _ _ _ _ _)) (@da_cons _ _ _ _ _ _ (@de_add _ _ _ _ _ _ _ (@de_add _ _ _ _ _ _ _ (@de_var _ _ 0 _ _ (by rfl) (by first | exact Or.inl rfl | exact Or.inr (Or.inl rfl) | exact Or.inr (Or.inr rfl)) (by decide) (by decide)) (@de_str _ _ _ _ _)) (@de_var _ _ 0 _ _ (by rfl) (by first | exact Or.inl rfl | exact Or.inr (Or.inl rfl) | exact Or.inr (Or.inr rfl)) (by decide) (by decide))) (@da_cons _ _ _ _ _ _ (@de_add _ _ _ _ _ _ _ (@de_var _ _ 0 _ _ (by rfl) (by first | exact Or.inl rfl | exact Or.inr (Or.inl rfl) | exact Or.inr (Or.inr rfl)) (by decide) (by decide)) (@de_str _ _ _ _ _)) (@da_nil _ _) (by rfl)) (by rfl)) (by rfl)) (by rfl)) (by rfl)) (by rfl))))) (by rfl) (by first | exact Or.inl rfl | exact Or.inr rfl) (by rfl) (by first | exact .inl rfl | exact .inr rfl | assumption)) (@dss_cons _ _ _ _ _ _ _ _ _ _ (@ds_set0 _ _ _ _ _ _ _ _ 6 nd (@de_add _ _ _ _ _ _ _ (@de_var _ _ 6 _ _ (by rfl) (by first | exact Or.inl rfl | exact Or.inr (Or.inl rfl) | exact Or.inr (Or.inr rfl)) (by decide) (by decide)) (@DF.val _ _ _ _ (@df_lst _ _ _ _ _ (@da_cons _ _ _ _ _ _ (@de_add _ _ _ _ _ _ _ (@de_add _ _ _ _ _ _ _ (@de_add _ _ _ _ _ _ _ (@de_add _ _ _ _ _ _ _ (@de_add _ _ _ _ _ _ _ (@de_var _ _ 2 _ _ (by rfl) (by first | exact Or.inl rfl | exact Or.inr (Or.inl rfl) | exact Or.inr (Or.inr rfl)) (by decide) (by decide)) (@de_str _ _ _ _ _)) (@de_var _ _ 3 _ _ (by rfl) (by first | exact Or.inl rfl | exact Or.inr (Or.inl rfl) | exact Or.inr (Or.inr rfl)) (by decide) (by decide))) (@de_var _ _ 5 _ _ (by rfl) (by first | exact Or.inl rfl | exact Or.inr (Or.inl rfl) | exact Or.inr (Or.inr rfl)) (by decide) (by decide))) (@de_str _ _ _ _ _)) (@de_var _ _ 4 _ _ (by rfl) (by first | exact Or.inl rfl | exact Or.inr (Or.inl rfl) | exact Or.inr (Or.inr rfl)) (by decide) (by decide))) (@da_cons _ _ _ _ _ _ (@de_add _ _ _ _ _ _ _ (@de_var _ _ 5 _ _ (by rfl) (by first | exact Or.inl rfl | exact Or.inr (Or.inl rfl) | exact Or.inr (Or.inr rfl)) (by decide) (by decide)) (@de_var _ _ 0 _ _ (by rfl) (by first | exact Or.inl rfl | exact Or.inr (Or.inl rfl) | exact Or.inr (Or.inr rfl)) (by decide) (by decide))) (@da_cons _ _ _ _ _ _ (@de_add _ _ _ _ _ _ _ (@de_var _ _ 0 _ _ (by rfl) (by first | exact Or.inl rfl | exact Or.inr (Or.inl rfl) | exact Or.inr (Or.inr rfl)) (by decide) (by decide)) (@de_var _ _ 5 _ _ (by rfl) (by first | exact Or.inl rfl | exact Or.inr (Or.inl rfl) | exact Or.inr (Or.inr rfl)) (by decide) (by decide))) (@da_cons _ _ _ _ _ _ (@de_add _ _ _ _ _ _ _ (@de_add _ _ _ _ _ _ _ (@de_add _ _ _ _ _ _ _ (@de_add _ _ _ _ _ _ _ (@de_var _ _ 3 _ _ (by rfl) (by first | exact Or.inl rfl | exact Or.inr (Or.inl rfl) | exact Or.inr (Or.inr rfl)) (by decide) (by decide)) (@de_str _ _ _ _ _)) (@de_var _ _ 2 _ _ (by rfl) (by first | exact Or.inl rfl | exact Or.inr (Or.inl rfl) | exact Or.inr (Or.inr rfl)) (by decide) (by decide))) (@de_str _ _ _ _ _)) (@de_var _ _ 4 _ _ (by rfl) (by first | exact Or.inl rfl | exact Or.inr (Or.inl rfl) | exact Or.inr (Or.inr rfl)) (by decide) (by decide))) (@da_nil _ _) (by rfl)) (by rfl)) (by rfl)) (by rfl))))) (by rfl) (by first | exact Or.inl rfl | exact Or.inr rfl) (by rfl) (by first | exact .inl rfl | exact .inr rfl | assumption)) (@dss_cons _ _ _ _ _ _ _ _ _ _ (@ds_set0 _ _ _ _ _ _ _ _ 6 nd (@de_add _ _ _ _ _ _ _ (@de_var _ _ 6 _ _ (by rfl) (by first | exact Or.inl rfl | exact Or.inr (Or.inl rfl) | exact Or.inr (Or.inr rfl)) (by decide) (by decide)) (@DF.val _ _ _ _ (@df_lst _ _ _ _ _ (@da_cons _ _ _ _ _ _ (@de_add _ _ _ _ _ _ _ (@de_add _ _ _ _ _ _ _ (@de_add _ _ _ _ _ _ _ (@de_add _ _ _ _ _ _ _ (@de_var _ _ 2 _ _ (by rfl) (by first | exact Or.inl rfl | exact Or.inr (Or.inl rfl) | exact Or.inr (Or.inr rfl)) (by decide) (by decide)) (@de_str _ _ _ _ _)) (@de_var _ _ 3 _ _ (by rfl) (by first | exact Or.inl rfl | exact Or.inr (Or.inl rfl) | exact Or.inr (Or.inr rfl)) (by decide) (by decide))) (@de_str _ _ _ _ _)) (@de_var _ _ 4 _ _ (by rfl) (by first | exact Or.inl rfl | exact Or.inr (Or.inl rfl) | exact Or.inr (Or.inr rfl)) (by decide) (by decide))) (@da_cons _ _ _ _ _ _ (@de_add _ _ _ _ _ _ _ (@de_var _ _ 0 _ _ (by rfl) (by first | exact Or.inl rfl | exact Or.inr (Or.inl rfl) | exact Or.inr (Or.inr rfl)) (by decide) (by decide)) (@de_str _ _ _ _ _)) (@da_cons _ _ _ _ _ _ (@de_add _ _ _ _ _ _ _ (@de_add _ _ _ _ _ _ _ (@de_add _ _ _ _ _ _ _ (@de_add _ _ _ _ _ _ _ (@de_var _ _ 2 _ _ (by rfl) (by first | exact Or.inl rfl | exact Or.inr (Or.inl rfl) | exact Or.inr (Or.inr rfl)) (by decide) (by decide)) (@de_str _ _ _ _ _)) (@de_var _ _ 3 _ _ (by rfl) (by first | exact Or.inl rfl | exact Or.inr (Or.inl rfl) | exact Or.inr (Or.inr rfl)) (by decide) (by decide))) (@de_str _ _ _ _ _)) (@de_var _ _ 4 _ _ (by rfl) (by first | exact Or.inl rfl | exact Or.inr (Or.inl rfl) | exact Or.inr (Or.inr rfl)) (by decide) (by decide))) (@da_nil _ _) (by rfl)) (by rfl)) (by rfl))))) (by rfl) (by first | exact Or.inl rfl | exact Or.inr rfl) (by rfl) (by first | exact .inl rfl | exact .inr rfl | assumption)) (@dss_cons _ _ _ _ _ _ _ _ _ _ (@ds_set0 _ _ _ _ _ _ _ _ 6 nd (@de_add _ _ _ _ _ _ _ (@de_var _ _ 6 _ _ (by rfl) (by first | exact Or.inl rfl | exact Or.inr (Or.inl rfl) | exact Or.inr (Or.inr rfl)) (by decide) (by decide)) (@DF.val _ _ _ _ (@df_lst _ _ _ _ _ (@da_cons _ _ _ _ _ _ (@de_add _ _ _ _ _ _ _ (@de_add _ _ _ _ _ _ _ (@de_add _ _ _ _ _ _ _ (@de_str _ _ _ _ _) (@de_var _ _ 3 _ _ (by rfl) (by first | exact Or.inl rfl | exact Or.inr (Or.inl rfl) | exact Or.inr (Or.inr rfl)) (by decide) (by decide))) (@de_str _ _ _ _ _)) (@de_var _ _ 4 _ _ (by rfl) (by first | exact Or.inl rfl | exact Or.inr (Or.inl rfl) | exact Or.inr (Or.inr rfl)) (by decide) (by decide))) (@da_cons _ _ _ _ _ _ (@de_add _ _ _ _ _ _ _ (@de_add _ _ _ _ _ _ _ (@de_add _ _ _ _ _ _ _ (@de_str _ _ _ _ _) (@de_var _ _ 3 _ _ (by rfl) (by first | exact Or.inl rfl | exact Or.inr (Or.inl rfl) | exact Or.inr (Or.inr rfl)) (by decide) (by decide))) (@de_str _ _ _ _ _)) (@de_var _ _ 4 _ _ (by rfl) (by first | exact Or.inl rfl | exact Or.inr (Or.inl rfl) | exact Or.inr (Or.inr rfl)) (by decide) (by decide))) (@da_cons _ _ _ _ _ _ (@de_add _ _ _ _ _ _ _ (@de_add _ _ _ _ _ _ _ (@de_add _ _ _ _ _ _ _ (@de_add _ _ _ _ _ _ _ (@de_slS _ _ _ _ _ _ _ _ _ _ (@de_var _ _ 2 _ _ (by rfl) (by first | exact Or.inl rfl | exact Or.inr (Or.inl rfl) | exact Or.inr (Or.inr rfl)) (by decide) (by decide)) (@do_some _ _ _ _ (@de_int _ _ _ _ _)) (@do_none _ _)) (@de_str _ _ _ _ _)) (@de_var _ _ 3 _ _ (by rfl) (by first | exact Or.inl rfl | exact Or.inr (Or.inl rfl) | exact Or.inr (Or.inr rfl)) (by decide) (by decide))) (@de_str _ _ _ _ _)) (@de_var _ _ 4 _ _ (by rfl) (by first | exact Or.inl rfl | exact Or.inr (Or.inl rfl) | exact Or.inr (Or.inr rfl)) (by decide) (by decide))) (@da_nil _ _) (by rfl)) (by rfl)) (by rfl))))) (by rfl) (by first | exact Or.inl rfl | exact Or.inr rfl) (by rfl) (by first | exact .inl rfl | exact .inr rfl | assumption)) (@dss_one _ _ _ _ _ _ _ (@ds_ret _ _ _ _ _ _ _ _ (@de_ix _ _ _ _ _ _ _ (@de_add _ _ _ _ _ _ _ (@de_var _ _ 6 _ _ (by rfl) (by first | exact Or.inl rfl | exact Or.inr (Or.inl rfl) | exact Or.inr (Or.inr rfl)) (by decide) (by decide)) (@DF.val _ _ _ _ (@df_lst _ _ _ _ _ (@da_cons _ _ _ _ _ _ (@de_add _ _ _ _ _ _ _ (@de_str _ _ _ _ _) (@de_var _ _ 0 _ _ (by rfl) (by first | exact Or.inl rfl | exact Or.inr (Or.inl rfl) | exact Or.inr (Or.inr rfl)) (by decide) (by decide))) (@da_cons _ _ _ _ _ _ (@de_add _ _ _ _ _ _ _ (@de_add _ _ _ _ _ _ _ (@de_add _ _ _ _ _ _ _ (@de_add _ _ _ _ _ _ _ (@de_var _ _ 2 _ _ (by rfl) (by first | exact Or.inl rfl | exact Or.inr (Or.inl rfl) | exact Or.inr (Or.inr rfl)) (by decide) (by decide)) (@de_str _ _ _ _ _)) (@de_var _ _ 3 _ _ (by rfl) (by first | exact Or.inl rfl | exact Or.inr (Or.inl rfl) | exact Or.inr (Or.inr rfl)) (by decide) (by decide))) (@de_str _ _ _ _ _)) (@de_var _ _ 4 _ _ (by rfl) (by first | exact Or.inl rfl | exact Or.inr (Or.inl rfl) | exact Or.inr (Or.inr rfl)) (by decide) (by decide))) (@da_nil _ _) (by rfl)) (by rfl))))) (@de_mod _ _ _ _ _ _ _ (@de_ix _ _ _ _ _ _ _ (@de_var _ _ 1 _ _ (by rfl) (by first | exact Or.inl rfl | exact Or.inr (Or.inl rfl) | exact Or.inr (Or.inr rfl)) (by decide) (by decide)) (@de_int _ _ _ _ _) (by intro _ _ ; rfl)) (@de_int _ _ _ _ _)) (by intro _ _ ; rfl))))))))))))
abbrev s_rows_of : Stmt := top 21
theorem sc_rows_of : FnScope ["text"] ["text"] (defScope s_rows_of) := ⟨rfl, rfl, rfl, by decide +kernel, rfl, by decide +kernel, by decide +kernel⟩
set_option maxHeartbeats 4000000 in
theorem ok_rows_of {P : Program} {w : World} {K : PySem.W.Frag} {mg : Str → Option Value} {base : Heap} {f : Addr} {fd : FuncData} {k : Nat} (F : Fun K "rows_of" "rows_of" s_rows_of f fd) (hm : mg "rows_of" = some (.ref f)) (hb : Binds K fd ["text"] []) {C_NoText : Addr} (c_NoText : mg "NoText" = some (.ref C_NoText)) (y_NoText : PySem.W.excIn K C_NoText [.type "ValueError", .type "Exception", .type "BaseException", .type "object"] "ValueError.__new__" = true) (x_NoText : XcOk K mg "NoText" C_NoText) (n_isinstance : mg "isinstance" = none) (n_str : mg "str" = none) : FnAt P w K mg base (k + 1) "rows_of" m_rows_of := by
  refine FnAt.mk' (own' := []) F sc_rows_of hm hb rfl rfl fun X E hX C L => ?_
  obtain ⟨cdv, A, outer, s, H, rfl⟩ := hX
  have nd := sc_rows_of.nd
  exact (@dss_cons _ _ _ _ _ _ _ _ _ _ (@ds_if _ _ _ _ _ _ _ _ _ _ _ _ (@dt_not _ _ _ _ _ (@dt_val _ _ _ _ (@de_isi _ _ _ _ _ _ _ n_isinstance (@da_cons _ _ _ _ _ _ (@de_var _ _ 0 _ _ (by rfl) (by first | exact Or.inl rfl | exact Or.inr (Or.inl rfl) | exact Or.inr (Or.inr rfl)) (by decide) (by decide)) (@da_cons _ _ _ _ _ _ (@de_ty _ _ _ _ _ n_str bt_str (by rfl) (by decide) (by decide)) (@da_nil _ _) (by rfl)) (by rfl)) (by rfl) (by rfl) (by rfl)) (by intro _ ; rfl))) (@dss_one _ _ _ _ _ _ _ (@ds_raise1 _ _ _ _ _ _ _ _ _ _ _ _ _ _ _ _ _ _ _ _ _ _ _ _ _ _ y_NoText x_NoText (by rfl) (by decide))) (@dss_nil _ _ _ _)) (@dss_one _ _ _ _ _ _ _ (@ds_ret _ _ _ _ _ _ _ _ (@DF.val _ _ _ _ (@df_lc _ _ _ _ _ _ _ _ _ _ _ _ _ _ _ C.calm (LC.of (k := 1) (NY := ["row", "text"]) (N := ["text"]) (sc0 := (defScope s_rows_of)) rfl rfl (by decide +kernel)) rfl (@di_seq _ _ _ _ _ (@DF.val _ _ _ _ (@df_split _ _ _ _ _ _ _ _ (@de_var _ _ 0 _ _ (by rfl) (by first | exact Or.inl rfl | exact Or.inr (Or.inl rfl) | exact Or.inr (Or.inr rfl)) (by decide) (by decide)) (@de_str _ _ _ _ _) (by rfl) (by rfl) (by rfl) (by rfl) (by rfl)))) (fun _ _ _ _ nd2 => ⟨(@dg_name _ _ 0 _ nd2 (by rfl) (by first | exact Or.inl rfl | exact Or.inr rfl) (by first | exact .inl rfl | exact .inr rfl | assumption)), (@dts_nil _ _), (@DF.val _ _ _ _ (@df_split _ _ _ _ _ _ _ _ (@de_var _ _ 0 _ _ (by rfl) (by first | exact Or.inl rfl | exact Or.inr (Or.inl rfl) | exact Or.inr (Or.inr rfl)) (by decide) (by decide)) (@de_str _ _ _ _ _) (by rfl) (by rfl) (by rfl) (by rfl) (by rfl)))⟩) (by intro _ ; rfl))))))
abbrev s_read_number : Stmt := top 23
theorem sc_read_number : FnScope ["word"] ["word"] (defScope s_read_number) := ⟨rfl, rfl, rfl, by decide +kernel, rfl, by decide +kernel, by decide +kernel⟩
set_option maxHeartbeats 4000000 in
theorem ok_read_number {P : Program} {w : World} {K : PySem.W.Frag} {mg : Str → Option Value} {base : Heap} {f : Addr} {fd : FuncData} {k : Nat} (F : Fun K "read_number" "read_number" s_read_number f fd) (hm : mg "read_number" = some (.ref f)) (hb : Binds K fd ["word"] []) {C_NoText : Addr} (c_NoText : mg "NoText" = some (.ref C_NoText)) (y_NoText : PySem.W.excIn K C_NoText [.type "ValueError", .type "Exception", .type "BaseException", .type "object"] "ValueError.__new__" = true) (x_NoText : XcOk K mg "NoText" C_NoText) (n_all : mg "all" = none) (n_int : mg "int" = none) (k_FIGURES_is : ∃ u v, mg "FIGURES" = some u ∧ RelV v u ∧ ∀ G, Rep K mg G k_FIGURES v) : FnAt P w K mg base (k + 1) "read_number" m_read_number := by
  refine FnAt.mk' (own' := []) F sc_read_number hm hb rfl rfl fun X E hX C L => ?_
  obtain ⟨cdv, A, outer, s, H, rfl⟩ := hX
  have nd := sc_read_number.nd
  exact (@dss_cons _ _ _ _ _ _ _ _ _ _ (@ds_if _ _ _ _ _ _ _ _ _ _ _ _ (@DW.dt _ _ _ _ (@dw_or _ _ _ _ _ _ _ _ (@dt_cmp1 _ _ _ _ _ _ _ _ _ (@cf_eq _ _ _ C) (@de_var _ _ 0 _ _ (by rfl) (by first | exact Or.inl rfl | exact Or.inr (Or.inl rfl) | exact Or.inr (Or.inr rfl)) (by decide) (by decide)) (@de_str _ _ _ _ _) (by first | exact nobehind _ (by decide) (by decide) | rfl)) (@dw_or1 _ _ _ _ _ (@dt_not _ _ _ _ _ (@dt_val _ _ _ _ (@de_all _ _ _ _ _ _ _ C.calm n_all (@da_cons _ _ _ _ _ _ (@DF.val _ _ _ _ (@df_lc _ _ _ _ _ _ _ _ _ _ _ _ _ _ _ C.calm (LC.of (k := 1) (NY := ["sign", "word"]) (N := ["word"]) (sc0 := (defScope s_read_number)) rfl rfl (by decide +kernel)) rfl (@di_text _ _ _ _ _ (@de_var _ _ 0 _ _ (by rfl) (by first | exact Or.inl rfl | exact Or.inr (Or.inl rfl) | exact Or.inr (Or.inr rfl)) (by decide) (by decide))) (fun _ _ _ _ nd2 => ⟨(@dg_name _ _ 0 _ nd2 (by rfl) (by first | exact Or.inl rfl | exact Or.inr rfl) (by first | exact .inl rfl | exact .inr rfl | assumption)), (@dts_nil _ _), (@de_cmp1 _ _ _ _ _ _ _ _ _ (@cf_in _ _ _ (C.lc _ _ _ _ _ _)) (@de_var _ _ 0 _ _ (by rfl) (by first | exact Or.inl rfl | exact Or.inr (Or.inl rfl) | exact Or.inr (Or.inr rfl)) (by decide) (by decide)) (@de_k _ _ _ _ _ k_FIGURES_is (by rfl) (by decide)) (by first | exact nobehind _ (by decide) (by decide) | rfl))⟩) (by intro _ ; rfl))) (@da_nil _ _) (by rfl)) (by rfl) (by rfl) (by rfl)) (by intro _ ; rfl)))))) (@dss_one _ _ _ _ _ _ _ (@ds_raise1 _ _ _ _ _ _ _ _ _ _ _ _ _ _ _ _ _ _ _ _ _ _ _ _ _ _ y_NoText x_NoText (by rfl) (by decide))) (@dss_nil _ _ _ _)) (@dss_cons _ _ _ _ _ _ _ _ _ _ (@ds_if _ _ _ _ _ _ _ _ _ _ _ _ (@DW.dt _ _ _ _ (@dw_and _ _ _ _ _ _ _ _ (@dt_cmp1 _ _ _ _ _ _ _ _ _ (@cf_eq _ _ _ C) (@de_ixS _ _ _ _ _ _ _ (@de_var _ _ 0 _ _ (by rfl) (by first | exact Or.inl rfl | exact Or.inr (Or.inl rfl) | exact Or.inr (Or.inr rfl)) (by decide) (by decide)) (@de_int _ _ _ _ _) (by intro _ _ ; rfl)) (@de_str _ _ _ _ _) (by first | exact nobehind _ (by decide) (by decide) | rfl)) (@dw_and1 _ _ _ _ _ (@dt_cmp1 _ _ _ _ _ _ _ _ _ (@cf_ne _ _ _ C) (@de_var _ _ 0 _ _ (by rfl) (by first | exact Or.inl rfl | exact Or.inr (Or.inl rfl) | exact Or.inr (Or.inr rfl)) (by decide) (by decide)) (@de_str _ _ _ _ _) (by first | exact nobehind _ (by decide) (by decide) | rfl))))) (@dss_one _ _ _ _ _ _ _ (@ds_raise1 _ _ _ _ _ _ _ _ _ _ _ _ _ _ _ _ _ _ _ _ _ _ _ _ _ _ y_NoText x_NoText (by rfl) (by decide))) (@dss_nil _ _ _ _)) (@dss_one _ _ _ _ _ _ _ (@ds_ret _ _ _ _ _ _ _ _ (@de_intT _ _ _ _ _ _ _ n_int (@da_cons _ _ _ _ _ _ (@de_var _ _ 0 _ _ (by rfl) (by first | exact Or.inl rfl | exact Or.inr (Or.inl rfl) | exact Or.inr (Or.inr rfl)) (by decide) (by decide)) (@da_nil _ _) (by rfl)) (by rfl) (by rfl) (by rfl))))))
abbrev s_read_deed : Stmt := top 22
theorem sc_read_deed : FnScope ["words"] ["words"] (defScope s_read_deed) := ⟨rfl, rfl, rfl, by decide +kernel, rfl, by decide +kernel, by decide +kernel⟩
set_option maxHeartbeats 4000000 in
theorem ok_read_deed {P : Program} {w : World} {K : PySem.W.Frag} {mg : Str → Option Value} {base : Heap} {f : Addr} {fd : FuncData} {k : Nat} (F : Fun K "read_deed" "read_deed" s_read_deed f fd) (hm : mg "read_deed" = some (.ref f)) (hb : Binds K fd ["words"] []) {C_NoText : Addr} (c_NoText : mg "NoText" = some (.ref C_NoText)) (y_NoText : PySem.W.excIn K C_NoText [.type "ValueError", .type "Exception", .type "BaseException", .type "object"] "ValueError.__new__" = true) (x_NoText : XcOk K mg "NoText" C_NoText) (n_len : mg "len" = none) (F_read_number : FnAt P w K mg base k "read_number" m_read_number) : FnAt P w K mg base (k + 1) "read_deed" m_read_deed := by
  refine FnAt.mk' (own' := []) F sc_read_deed hm hb rfl rfl fun X E hX C L => ?_
  obtain ⟨cdv, A, outer, s, H, rfl⟩ := hX
  have nd := sc_read_deed.nd
  exact (@dss_cons _ _ _ _ _ _ _ _ _ _ (@ds_if _ _ _ _ _ _ _ _ _ _ _ _ (@DW.dt _ _ _ _ (@dw_or _ _ _ _ _ _ _ _ (@dt_cmp1 _ _ _ _ _ _ _ _ _ (@cf_ne _ _ _ C) (@de_len _ _ _ _ _ _ _ n_len (@da_cons _ _ _ _ _ _ (@de_var _ _ 0 _ _ (by rfl) (by first | exact Or.inl rfl | exact Or.inr (Or.inl rfl) | exact Or.inr (Or.inr rfl)) (by decide) (by decide)) (@da_nil _ _) (by rfl)) (by rfl) (by rfl) (by rfl)) (@de_int _ _ _ _ _) (by first | exact nobehind _ (by decide) (by decide) | rfl)) (@dw_or1 _ _ _ _ _ (@dt_cmp1 _ _ _ _ _ _ _ _ _ (@cf_nin _ _ _ C) (@de_ix _ _ _ _ _ _ _ (@de_var _ _ 0 _ _ (by rfl) (by first | exact Or.inl rfl | exact Or.inr (Or.inl rfl) | exact Or.inr (Or.inr rfl)) (by decide) (by decide)) (@de_int _ _ _ _ _) (by intro _ _ ; rfl)) (@de_tup _ _ _ _ _ _ (@da_cons _ _ _ _ _ _ (@de_str _ _ _ _ _) (@da_cons _ _ _ _ _ _ (@de_str _ _ _ _ _) (@da_nil _ _) (by rfl)) (by rfl))) (by first | exact nobehind _ (by decide) (by decide) | rfl))))) (@dss_one _ _ _ _ _ _ _ (@ds_raise1 _ _ _ _ _ _ _ _ _ _ _ _ _ _ _ _ _ _ _ _ _ _ _ _ _ _ y_NoText x_NoText (by rfl) (by decide))) (@dss_nil _ _ _ _)) (@dss_one _ _ _ _ _ _ _ (@ds_ret _ _ _ _ _ _ _ _ (@de_tup _ _ _ _ _ _ (@da_cons _ _ _ _ _ _ (@de_ix _ _ _ _ _ _ _ (@de_var _ _ 0 _ _ (by rfl) (by first | exact Or.inl rfl | exact Or.inr (Or.inl rfl) | exact Or.inr (Or.inr rfl)) (by decide) (by decide)) (@de_int _ _ _ _ _) (by intro _ _ ; rfl)) (@da_cons _ _ _ _ _ _ (@de_call _ _ _ _ _ _ _ _ _ _ C F_read_number (@da_cons _ _ _ _ _ _ (@de_ix _ _ _ _ _ _ _ (@de_var _ _ 0 _ _ (by rfl) (by first | exact Or.inl rfl | exact Or.inr (Or.inl rfl) | exact Or.inr (Or.inr rfl)) (by decide) (by decide)) (@de_int _ _ _ _ _) (by intro _ _ ; rfl)) (@da_nil _ _) (by rfl)) (by rfl) (by decide) (by rfl) (by rfl)) (@da_cons _ _ _ _ _ _ (@de_call _ _ _ _ _ _ _ _ _ _ C F_read_number (@da_cons _ _ _ _ _ _ (@de_ix _ _ _ _ _ _ _ (@de_var _ _ 0 _ _ (by rfl) (by first | exact Or.inl rfl | exact Or.inr (Or.inl rfl) | exact Or.inr (Or.inr rfl)) (by decide) (by decide)) (@de_int _ _ _ _ _) (by intro _ _ ; rfl)) (@da_nil _ _) (by rfl)) (by rfl) (by decide) (by rfl) (by rfl)) (@da_nil _ _) (by rfl)) (by rfl)) (by rfl))))))
abbrev s_read : Stmt := top 20
theorem sc_read : FnScope ["text", "rows"] ["text"] (defScope s_read) := ⟨rfl, rfl, rfl, by decide +kernel, rfl, by decide +kernel, by decide +kernel⟩
set_option maxHeartbeats 4000000 in
theorem ok_read {P : Program} {w : World} {K : PySem.W.Frag} {mg : Str → Option Value} {base : Heap} {f : Addr} {fd : FuncData} {k : Nat} (F : Fun K "read" "read" s_read f fd) (hm : mg "read" = some (.ref f)) (hb : Binds K fd ["text"] []) (F_rows_of : FnAt P w K mg base k "rows_of" m_rows_of) (F_read_deed : FnAt P w K mg base k "read_deed" m_read_deed) : FnAt P w K mg base (k + 1) "read" m_read_v1 := by
  refine FnAt.mk' (own' := []) F sc_read hm hb rfl rfl fun X E hX C L => ?_
  obtain ⟨cdv, A, outer, s, H, rfl⟩ := hX
  have nd := sc_read.nd
  exact (@dss_cons _ _ _ _ _ _ _ _ _ _ (@ds_set0 _ _ _ _ _ _ _ _ 1 nd (@de_call _ _ _ _ _ _ _ _ _ _ C F_rows_of (@da_cons _ _ _ _ _ _ (@de_var _ _ 0 _ _ (by rfl) (by first | exact Or.inl rfl | exact Or.inr (Or.inl rfl) | exact Or.inr (Or.inr rfl)) (by decide) (by decide)) (@da_nil _ _) (by rfl)) (by rfl) (by decide) (by rfl) (by rfl)) (by rfl) (by first | exact Or.inl rfl | exact Or.inr rfl) (by rfl) (by first | exact .inl rfl | exact .inr rfl | assumption)) (@dss_cons _ _ _ _ _ _ _ _ _ _ (@ds_if _ _ _ _ _ _ _ _ _ _ _ _ (@dt_cmp1 _ _ _ _ _ _ _ _ _ (@cf_eq _ _ _ C) (@de_var _ _ 0 _ _ (by rfl) (by first | exact Or.inl rfl | exact Or.inr (Or.inl rfl) | exact Or.inr (Or.inr rfl)) (by decide) (by decide)) (@de_str _ _ _ _ _) (by first | exact nobehind _ (by decide) (by decide) | rfl)) (@dss_one _ _ _ _ _ _ _ (@ds_ret _ _ _ _ _ _ _ _ (@DF.val _ _ _ _ (@df_lst _ _ _ _ _ (@da_nil _ _))))) (@dss_nil _ _ _ _)) (@dss_one _ _ _ _ _ _ _ (@ds_ret _ _ _ _ _ _ _ _ (@DF.val _ _ _ _ (@df_lcX _ _ _ _ _ _ _ _ _ _ _ _ _ _ _ _ _ _ _ _ _ _ _ _ _ _ _ C (LC.of (k := 1) (NY := ["words", "text", "rows"]) (N := ["text", "rows"]) (sc0 := (defScope s_read)) rfl rfl (by decide +kernel)) rfl (@di_seq _ _ _ _ _ (@de_var _ _ 1 _ _ (by rfl) (by first | exact Or.inl rfl | exact Or.inr (Or.inl rfl) | exact Or.inr (Or.inr rfl)) (by decide) (by decide))) (fun _ _ _ _ nd2 => (@dg_name _ _ 0 _ nd2 (by rfl) (by first | exact Or.inl rfl | exact Or.inr rfl) (by first | exact .inl rfl | exact .inr rfl | assumption))) (fun _ _ _ _ _ nd2 C9 => (@de_call _ _ _ _ _ _ _ _ _ _ C9 F_read_deed (@da_cons _ _ _ _ _ _ (@de_var _ _ 0 _ _ (by rfl) (by first | exact Or.inl rfl | exact Or.inr (Or.inl rfl) | exact Or.inr (Or.inr rfl)) (by decide) (by decide)) (@da_nil _ _) (by rfl)) (by rfl) (by decide) (by rfl) (by rfl))) (by intro _ ; rfl)))))))
abbrev s_shown : Stmt := top 19
theorem sc_shown : FnScope ["plan"] ["plan"] (defScope s_shown) := ⟨rfl, rfl, rfl, by decide +kernel, rfl, by decide +kernel, by decide +kernel⟩
set_option maxHeartbeats 4000000 in
theorem ok_shown {P : Program} {w : World} {K : PySem.W.Frag} {mg : Str → Option Value} {base : Heap} {f : Addr} {fd : FuncData} {k : Nat} (F : Fun K "shown" "shown" s_shown f fd) (hm : mg "shown" = some (.ref f)) (hb : Binds K fd ["plan"] []) (n_str : mg "str" = none) : FnAt P w K mg base (k + 1) "shown" m_shown := by
  refine FnAt.mk' (own' := []) F sc_shown hm hb rfl rfl fun X E hX C L => ?_
  obtain ⟨cdv, A, outer, s, H, rfl⟩ := hX
  have nd := sc_shown.nd
  exact (@dss_one _ _ _ _ _ _ _ (@ds_ret _ _ _ _ _ _ _ _ (@de_join _ _ _ _ _ _ _ _ (@de_str _ _ _ _ _) (@DF.val _ _ _ _ (@df_lc _ _ _ _ _ _ _ _ _ _ _ _ _ _ _ C.calm (LC.of (k := 1) (NY := ["deed", "plan"]) (N := ["plan"]) (sc0 := (defScope s_shown)) rfl rfl (by decide +kernel)) rfl (@di_seq _ _ _ _ _ (@de_var _ _ 0 _ _ (by rfl) (by first | exact Or.inl rfl | exact Or.inr (Or.inl rfl) | exact Or.inr (Or.inr rfl)) (by decide) (by decide))) (fun _ _ _ _ nd2 => ⟨(@dg_name _ _ 0 _ nd2 (by rfl) (by first | exact Or.inl rfl | exact Or.inr rfl) (by first | exact .inl rfl | exact .inr rfl | assumption)), (@dts_nil _ _), (@de_join _ _ _ _ _ _ _ _ (@de_str _ _ _ _ _) (@DF.val _ _ _ _ (@df_lst _ _ _ _ _ (@da_cons _ _ _ _ _ _ (@de_ix _ _ _ _ _ _ _ (@de_var _ _ 0 _ _ (by rfl) (by first | exact Or.inl rfl | exact Or.inr (Or.inl rfl) | exact Or.inr (Or.inr rfl)) (by decide) (by decide)) (@de_int _ _ _ _ _) (by intro _ _ ; rfl)) (@da_cons _ _ _ _ _ _ (@de_strc _ _ _ _ _ _ _ n_str (@da_cons _ _ _ _ _ _ (@de_ix _ _ _ _ _ _ _ (@de_var _ _ 0 _ _ (by rfl) (by first | exact Or.inl rfl | exact Or.inr (Or.inl rfl) | exact Or.inr (Or.inr rfl)) (by decide) (by decide)) (@de_int _ _ _ _ _) (by intro _ _ ; rfl)) (@da_nil _ _) (by rfl)) (by rfl) (by rfl) (by rfl)) (@da_cons _ _ _ _ _ _ (@de_strc _ _ _ _ _ _ _ n_str (@da_cons _ _ _ _ _ _ (@de_ix _ _ _ _ _ _ _ (@de_var _ _ 0 _ _ (by rfl) (by first | exact Or.inl rfl | exact Or.inr (Or.inl rfl) | exact Or.inr (Or.inr rfl)) (by decide) (by decide)) (@de_int _ _ _ _ _) (by intro _ _ ; rfl)) (@da_nil _ _) (by rfl)) (by rfl) (by rfl) (by rfl)) (@da_nil _ _) (by rfl)) (by rfl)) (by rfl)))) (by rfl) (by rfl) (by rfl) (by rfl) (by rfl))⟩) (by intro _ ; rfl))) (by rfl) (by rfl) (by rfl) (by rfl) (by rfl))))
abbrev s__law_refused : Stmt := top 30
theorem sc__law_refused : FnScope ["_law_thing", "_law_told", "e"] ["_law_thing"] (defScope s__law_refused) := ⟨rfl, rfl, rfl, by decide +kernel, rfl, by decide +kernel, by decide +kernel⟩
set_option maxHeartbeats 4000000 in
theorem ok__law_refused {P : Program} {w : World} {K : PySem.W.Frag} {mg : Str → Option Value} {base : Heap} {f : Addr} {fd : FuncData} {k : Nat} (F : Fun K "_law_refused" "_law_refused" s__law_refused f fd) (hm : mg "_law_refused" = some (.ref f)) (hb : Binds K fd ["_law_thing"] []) {C_ChalkError : Addr} (c_ChalkError : mg "ChalkError" = some (.ref C_ChalkError)) {C_NoText : Addr} (c_NoText : mg "NoText" = some (.ref C_NoText)) {C_TooMany : Addr} (c_TooMany : mg "TooMany" = some (.ref C_TooMany)) {C_NoName : Addr} (c_NoName : mg "NoName" = some (.ref C_NoName)) {C_NoDeed : Addr} (c_NoDeed : mg "NoDeed" = some (.ref C_NoDeed)) {C_Endless : Addr} (c_Endless : mg "Endless" = some (.ref C_Endless)) {C_NoFloor : Addr} (c_NoFloor : mg "NoFloor" = some (.ref C_NoFloor)) {C_Same : Addr} (c_Same : mg "Same" = some (.ref C_Same)) {C_NoPlace : Addr} (c_NoPlace : mg "NoPlace" = some (.ref C_NoPlace)) {C_NoRow : Addr} (c_NoRow : mg "NoRow" = some (.ref C_NoRow)) {C_NoBow : Addr} (c_NoBow : mg "NoBow" = some (.ref C_NoBow)) {C_NoRatio : Addr} (c_NoRatio : mg "NoRatio" = some (.ref C_NoRatio)) {C_Unlike : Addr} (c_Unlike : mg "Unlike" = some (.ref C_Unlike)) {C_NoValue : Addr} (c_NoValue : mg "NoValue" = some (.ref C_NoValue)) {C_NoFrame : Addr} (c_NoFrame : mg "NoFrame" = some (.ref C_NoFrame)) {C_NoChange : Addr} (c_NoChange : mg "NoChange" = some (.ref C_NoChange)) (n_isinstance : mg "isinstance" = none) (n_ValueError : mg "ValueError" = none) (F_read : FnAt P w K mg base k "read" m_read_v1) : FnAt P w K mg base (k + 1) "_law_refused" m_law_refused_v10 := by
  refine FnAt.mk' (own' := []) F sc__law_refused hm hb rfl rfl fun X E hX C L => ?_
  obtain ⟨cdv, A, outer, s, H, rfl⟩ := hX
  have nd := sc__law_refused.nd
  exact (@dss_cons _ _ _ _ _ _ _ _ _ _ (@ds_set0 _ _ _ _ _ _ _ _ 1 nd (@de_non _ _ _ _) (by rfl) (by first | exact Or.inl rfl | exact Or.inr rfl) (by rfl) (by first | exact .inl rfl | exact .inr rfl | assumption)) (@dss_cons _ _ _ _ _ _ _ _ _ _ (@ds_try _ _ _ _ 2 _ _ _ _ _ _ _ _ _ rfl rfl nd c_ChalkError (@dsxs_one _ _ _ (@dsx_call _ _ _ _ _ _ _ _ _ _ C.room F_read (@da_cons _ _ _ _ _ _ (@de_var _ _ 0 _ _ (by rfl) (by first | exact Or.inl rfl | exact Or.inr (Or.inl rfl) | exact Or.inr (Or.inr rfl)) (by decide) (by decide)) (@da_nil _ _) (by rfl)) (by rfl) (by decide) (by rfl) (by rfl) (by rfl))) (fun _ => (@dss_one _ _ _ _ _ _ _ (@ds_set0 _ _ _ _ _ _ _ _ 1 nd (@de_var _ _ 2 _ _ (by rfl) (by first | exact Or.inl rfl | exact Or.inr (Or.inl rfl) | exact Or.inr (Or.inr rfl)) (by decide) (by decide)) (by rfl) (by first | exact Or.inl rfl | exact Or.inr rfl) (by rfl) (by first | exact .inl rfl | exact .inr rfl | assumption)))) (by rfl) (by rfl) (by rfl) (by decide)) (@dss_cons _ _ _ _ _ _ _ _ _ _ (@ds_if _ _ _ _ _ _ _ _ _ _ _ _ (@DW.dt _ _ _ _ (@dw_or _ _ _ _ _ _ _ _ (@dt_not _ _ _ _ _ (@dt_val _ _ _ _ (@de_isi _ _ _ _ _ _ _ n_isinstance (@da_cons _ _ _ _ _ _ (@de_var _ _ 1 _ _ (by rfl) (by first | exact Or.inl rfl | exact Or.inr (Or.inl rfl) | exact Or.inr (Or.inr rfl)) (by decide) (by decide)) (@da_cons _ _ _ _ _ _ (@de_cls _ _ _ _ _ c_NoText (by rfl) (by decide)) (@da_nil _ _) (by rfl)) (by rfl)) (by rfl) (by rfl) (by rfl)) (by intro _ ; rfl))) (@dw_or1 _ _ _ _ _ (@dt_not _ _ _ _ _ (@dt_val _ _ _ _ (@de_isi _ _ _ _ _ _ _ n_isinstance (@da_cons _ _ _ _ _ _ (@de_var _ _ 1 _ _ (by rfl) (by first | exact Or.inl rfl | exact Or.inr (Or.inl rfl) | exact Or.inr (Or.inr rfl)) (by decide) (by decide)) (@da_cons _ _ _ _ _ _ (@de_ty _ _ _ _ _ n_ValueError bt_ValueError (by rfl) (by decide) (by decide)) (@da_nil _ _) (by rfl)) (by rfl)) (by rfl) (by rfl) (by rfl)) (by intro _ ; rfl)))))) (@dss_one _ _ _ _ _ _ _ (@ds_ret _ _ _ _ _ _ _ _ (@de_bl _ _ _ _ _))) (@dss_nil _ _ _ _)) (@dss_cons _ _ _ _ _ _ _ _ _ _ (@ds_if _ _ _ _ _ _ _ _ _ _ _ _ (@dt_val _ _ _ _ (@de_isiC _ _ _ _ _ _ _ n_isinstance (@da_cons _ _ _ _ _ _ (@de_var _ _ 1 _ _ (by rfl) (by first | exact Or.inl rfl | exact Or.inr (Or.inl rfl) | exact Or.inr (Or.inr rfl)) (by decide) (by decide)) (@da_cons _ _ _ _ _ _ (@de_tup _ _ _ _ _ _ (@da_cons _ _ _ _ _ _ (@de_cls _ _ _ _ _ c_NoPlace (by rfl) (by decide)) (@da_cons _ _ _ _ _ _ (@de_cls _ _ _ _ _ c_Same (by rfl) (by decide)) (@da_cons _ _ _ _ _ _ (@de_cls _ _ _ _ _ c_NoFloor (by rfl) (by decide)) (@da_cons _ _ _ _ _ _ (@de_cls _ _ _ _ _ c_Endless (by rfl) (by decide)) (@da_cons _ _ _ _ _ _ (@de_cls _ _ _ _ _ c_NoDeed (by rfl) (by decide)) (@da_cons _ _ _ _ _ _ (@de_cls _ _ _ _ _ c_NoName (by rfl) (by decide)) (@da_cons _ _ _ _ _ _ (@de_cls _ _ _ _ _ c_TooMany (by rfl) (by decide)) (@da_nil _ _) (by rfl)) (by rfl)) (by rfl)) (by rfl)) (by rfl)) (by rfl)) (by rfl))) (@da_nil _ _) (by rfl)) (by rfl)) (by rfl) (by rfl) (by rfl)) (by intro _ ; rfl)) (@dss_one _ _ _ _ _ _ _ (@ds_ret _ _ _ _ _ _ _ _ (@de_bl _ _ _ _ _))) (@dss_nil _ _ _ _)) (@dss_one _ _ _ _ _ _ _ (@ds_ret _ _ _ _ _ _ _ _ (@de_not _ _ _ _ _ (@de_isiC _ _ _ _ _ _ _ n_isinstance (@da_cons _ _ _ _ _ _ (@de_var _ _ 1 _ _ (by rfl) (by first | exact Or.inl rfl | exact Or.inr (Or.inl rfl) | exact Or.inr (Or.inr rfl)) (by decide) (by decide)) (@da_cons _ _ _ _ _ _ (@de_tup _ _ _ _ _ _ (@da_cons _ _ _ _ _ _ (@de_cls _ _ _ _ _ c_NoChange (by rfl) (by decide)) (@da_cons _ _ _ _ _ _ (@de_cls _ _ _ _ _ c_NoFrame (by rfl) (by decide)) (@da_cons _ _ _ _ _ _ (@de_cls _ _ _ _ _ c_NoValue (by rfl) (by decide)) (@da_cons _ _ _ _ _ _ (@de_cls _ _ _ _ _ c_Unlike (by rfl) (by decide)) (@da_cons _ _ _ _ _ _ (@de_cls _ _ _ _ _ c_NoRatio (by rfl) (by decide)) (@da_cons _ _ _ _ _ _ (@de_cls _ _ _ _ _ c_NoBow (by rfl) (by decide)) (@da_cons _ _ _ _ _ _ (@de_cls _ _ _ _ _ c_NoRow (by rfl) (by decide)) (@da_nil _ _) (by rfl)) (by rfl)) (by rfl)) (by rfl)) (by rfl)) (by rfl)) (by rfl))) (@da_nil _ _) (by rfl)) (by rfl)) (by rfl) (by rfl) (by rfl)))))))))
abbrev s_law : Stmt := top 31
theorem sc_law : FnScope ["_law_script", "_law_plan", "_law_rows", "_law_cell_here", "_law_d", "_law_at", "_law_bad_here"] ["_law_script"] (defScope s_law) := ⟨rfl, rfl, rfl, by decide +kernel, rfl, by decide +kernel, by decide +kernel⟩
set_option maxHeartbeats 4000000 in
theorem ok_law {P : Program} {w : World} {K : PySem.W.Frag} {mg : Str → Option Value} {base : Heap} {f : Addr} {fd : FuncData} {k : Nat} (F : Fun K "law" "law" s_law f fd) (n_int : mg "int" = none) (n_len : mg "len" = none) (F__law_deeds : FnAt P w K mg base k "_law_deeds" m_law_deeds) (F_shown : FnAt P w K mg base k "shown" m_shown) (F__law_digits : FnAt P w K mg base k "_law_digits" m_law_digits_v1) (F__law_bad : FnAt P w K mg base k "_law_bad" m_law_bad_v1) (F__law_refused : FnAt P w K mg base k "_law_refused" m_law_refused_v10) (F_read : FnAt P w K mg base k "read" m_read_v1) : FnOk P w K mg base (CXe P w) (k + 1) f fd ["_law_script"] (spD K mg m_law_v30) := by
  refine fnOk_mk (own' := []) F sc_law rfl rfl fun X E hX C L => ?_
  obtain ⟨cdv, A, outer, s, H, rfl⟩ := hX
  have nd := sc_law.nd
  exact (@dss_cons _ _ _ _ _ _ _ _ _ _ (@ds_set0 _ _ _ _ _ _ _ _ 1 nd (@de_call _ _ _ _ _ _ _ _ _ _ C F__law_deeds (@da_cons _ _ _ _ _ _ (@de_add _ _ _ _ _ _ _ (@de_sl _ _ _ _ _ _ _ _ _ _ (@de_var _ _ 0 _ _ (by rfl) (by first | exact Or.inl rfl | exact Or.inr (Or.inl rfl) | exact Or.inr (Or.inr rfl)) (by decide) (by decide)) (@do_none _ _) (@do_some _ _ _ _ (@de_int _ _ _ _ _))) (@DF.val _ _ _ _ (@df_rep _ _ _ _ _ _ _ (@df_lst _ _ _ _ _ (@da_cons _ _ _ _ _ _ (@de_int _ _ _ _ _) (@da_nil _ _) (by rfl))) (@de_intc _ _ _ _ _ _ _ n_int (@da_cons _ _ _ _ _ _ (@de_cmp1 _ _ _ _ _ _ _ _ _ (@cf_eq _ _ _ C) (@de_var _ _ 0 _ _ (by rfl) (by first | exact Or.inl rfl | exact Or.inr (Or.inl rfl) | exact Or.inr (Or.inr rfl)) (by decide) (by decide)) (@DF.val _ _ _ _ (@df_lst _ _ _ _ _ (@da_nil _ _))) (by first | exact nobehind _ (by decide) (by decide) | rfl)) (@da_nil _ _) (by rfl)) (by rfl) (by rfl) (by rfl))))) (@da_nil _ _) (by rfl)) (by rfl) (by decide) (by rfl) (by rfl)) (by rfl) (by first | exact Or.inl rfl | exact Or.inr rfl) (by rfl) (by first | exact .inl rfl | exact .inr rfl | assumption)) (@dss_cons _ _ _ _ _ _ _ _ _ _ (@ds_set0 _ _ _ _ _ _ _ _ 2 nd (@DF.val _ _ _ _ (@df_split _ _ _ _ _ _ _ _ (@de_call _ _ _ _ _ _ _ _ _ _ C F_shown (@da_cons _ _ _ _ _ _ (@de_var _ _ 1 _ _ (by rfl) (by first | exact Or.inl rfl | exact Or.inr (Or.inl rfl) | exact Or.inr (Or.inr rfl)) (by decide) (by decide)) (@da_nil _ _) (by rfl)) (by rfl) (by decide) (by rfl) (by rfl)) (@de_str _ _ _ _ _) (by rfl) (by rfl) (by rfl) (by rfl) (by rfl))) (by rfl) (by first | exact Or.inl rfl | exact Or.inr rfl) (by rfl) (by first | exact .inl rfl | exact .inr rfl | assumption)) (@dss_cons _ _ _ _ _ _ _ _ _ _ (@ds_for _ _ _ _ _ _ _ _ _ _ _ _ L C.calm (@di_seq _ _ _ _ _ (@de_add _ _ _ _ _ _ _ (@de_sl _ _ _ _ _ _ _ _ _ _ (@de_var _ _ 0 _ _ (by rfl) (by first | exact Or.inl rfl | exact Or.inr (Or.inl rfl) | exact Or.inr (Or.inr rfl)) (by decide) (by decide)) (@do_some _ _ _ _ (@de_int _ _ _ _ _)) (@do_some _ _ _ _ (@de_int _ _ _ _ _))) (@DF.val _ _ _ _ (@df_lst _ _ _ _ _ (@da_cons _ _ _ _ _ _ (@de_len _ _ _ _ _ _ _ n_len (@da_cons _ _ _ _ _ _ (@de_var _ _ 0 _ _ (by rfl) (by first | exact Or.inl rfl | exact Or.inr (Or.inl rfl) | exact Or.inr (Or.inr rfl)) (by decide) (by decide)) (@da_nil _ _) (by rfl)) (by rfl) (by rfl) (by rfl)) (@da_cons _ _ _ _ _ _ (@de_add _ _ _ _ _ _ _ (@de_len _ _ _ _ _ _ _ n_len (@da_cons _ _ _ _ _ _ (@de_var _ _ 0 _ _ (by rfl) (by first | exact Or.inl rfl | exact Or.inr (Or.inl rfl) | exact Or.inr (Or.inr rfl)) (by decide) (by decide)) (@da_nil _ _) (by rfl)) (by rfl) (by rfl) (by rfl)) (@de_int _ _ _ _ _)) (@da_nil _ _) (by rfl)) (by rfl)))))) (@dg_name _ _ 3 _ nd (by rfl) (by first | exact Or.inl rfl | exact Or.inr rfl) (by first | exact .inl rfl | exact .inr rfl | assumption)) (@dss_cons _ _ _ _ _ _ _ _ _ _ (@ds_set0 _ _ _ _ _ _ _ _ 4 nd (@de_call _ _ _ _ _ _ _ _ _ _ C F__law_digits (@da_cons _ _ _ _ _ _ (@de_var _ _ 3 _ _ (by rfl) (by first | exact Or.inl rfl | exact Or.inr (Or.inl rfl) | exact Or.inr (Or.inr rfl)) (by decide) (by decide)) (@da_cons _ _ _ _ _ _ (@de_int _ _ _ _ _) (@da_cons _ _ _ _ _ _ (@de_int _ _ _ _ _) (@da_nil _ _) (by rfl)) (by rfl)) (by rfl)) (by rfl) (by decide) (by rfl) (by rfl)) (by rfl) (by first | exact Or.inl rfl | exact Or.inr rfl) (by rfl) (by first | exact .inl rfl | exact .inr rfl | assumption)) (@dss_cons _ _ _ _ _ _ _ _ _ _ (@ds_set0 _ _ _ _ _ _ _ _ 5 nd (@de_mod _ _ _ _ _ _ _ (@de_ix _ _ _ _ _ _ _ (@de_var _ _ 4 _ _ (by rfl) (by first | exact Or.inl rfl | exact Or.inr (Or.inl rfl) | exact Or.inr (Or.inr rfl)) (by decide) (by decide)) (@de_int _ _ _ _ _) (by intro _ _ ; rfl)) (@de_len _ _ _ _ _ _ _ n_len (@da_cons _ _ _ _ _ _ (@de_var _ _ 2 _ _ (by rfl) (by first | exact Or.inl rfl | exact Or.inr (Or.inl rfl) | exact Or.inr (Or.inr rfl)) (by decide) (by decide)) (@da_nil _ _) (by rfl)) (by rfl) (by rfl) (by rfl))) (by rfl) (by first | exact Or.inl rfl | exact Or.inr rfl) (by rfl) (by first | exact .inl rfl | exact .inr rfl | assumption)) (@dss_cons _ _ _ _ _ _ _ _ _ _ (@ds_set0 _ _ _ _ _ _ _ _ 6 nd (@de_call _ _ _ _ _ _ _ _ _ _ C F__law_bad (@da_cons _ _ _ _ _ _ (@de_ix _ _ _ _ _ _ _ (@de_var _ _ 2 _ _ (by rfl) (by first | exact Or.inl rfl | exact Or.inr (Or.inl rfl) | exact Or.inr (Or.inr rfl)) (by decide) (by decide)) (@de_var _ _ 5 _ _ (by rfl) (by first | exact Or.inl rfl | exact Or.inr (Or.inl rfl) | exact Or.inr (Or.inr rfl)) (by decide) (by decide)) (by intro _ _ ; rfl)) (@da_cons _ _ _ _ _ _ (@de_var _ _ 4 _ _ (by rfl) (by first | exact Or.inl rfl | exact Or.inr (Or.inl rfl) | exact Or.inr (Or.inr rfl)) (by decide) (by decide)) (@da_nil _ _) (by rfl)) (by rfl)) (by rfl) (by decide) (by rfl) (by rfl)) (by rfl) (by first | exact Or.inl rfl | exact Or.inr rfl) (by rfl) (by first | exact .inl rfl | exact .inr rfl | assumption)) (@dss_cons _ _ _ _ _ _ _ _ _ _ (@ds_if _ _ _ _ _ _ _ _ _ _ _ _ (@DW.dt _ _ _ _ (@dw_and _ _ _ _ _ _ _ _ (@dt_cmp1 _ _ _ _ _ _ _ _ _ (@cf_eq _ _ _ C) (@de_len _ _ _ _ _ _ _ n_len (@da_cons _ _ _ _ _ _ (@de_var _ _ 2 _ _ (by rfl) (by first | exact Or.inl rfl | exact Or.inr (Or.inl rfl) | exact Or.inr (Or.inr rfl)) (by decide) (by decide)) (@da_nil _ _) (by rfl)) (by rfl) (by rfl) (by rfl)) (@de_int _ _ _ _ _) (by first | exact nobehind _ (by decide) (by decide) | rfl)) (@dw_and1 _ _ _ _ _ (@dt_cmp1 _ _ _ _ _ _ _ _ _ (@cf_eq _ _ _ C) (@de_var _ _ 6 _ _ (by rfl) (by first | exact Or.inl rfl | exact Or.inr (Or.inl rfl) | exact Or.inr (Or.inr rfl)) (by decide) (by decide)) (@de_str _ _ _ _ _) (by first | exact nobehind _ (by decide) (by decide) | rfl))))) (@dss_one _ _ _ _ _ _ _ (@ds_set0 _ _ _ _ _ _ _ _ 6 nd (@de_str _ _ _ _ _) (by rfl) (by first | exact Or.inl rfl | exact Or.inr rfl) (by rfl) (by first | exact .inl rfl | exact .inr rfl | assumption))) (@dss_nil _ _ _ _)) (@dss_cons _ _ _ _ _ _ _ _ _ _ (@ds_if _ _ _ _ _ _ _ _ _ _ _ _ (@dt_not _ _ _ _ _ (@dt_val _ _ _ _ (@de_call _ _ _ _ _ _ _ _ _ _ C F__law_refused (@da_cons _ _ _ _ _ _ (@de_join _ _ _ _ _ _ _ _ (@de_str _ _ _ _ _) (@de_add _ _ _ _ _ _ _ (@de_add _ _ _ _ _ _ _ (@de_sl _ _ _ _ _ _ _ _ _ _ (@de_var _ _ 2 _ _ (by rfl) (by first | exact Or.inl rfl | exact Or.inr (Or.inl rfl) | exact Or.inr (Or.inr rfl)) (by decide) (by decide)) (@do_none _ _) (@do_some _ _ _ _ (@de_var _ _ 5 _ _ (by rfl) (by first | exact Or.inl rfl | exact Or.inr (Or.inl rfl) | exact Or.inr (Or.inr rfl)) (by decide) (by decide)))) (@DF.val _ _ _ _ (@df_lst _ _ _ _ _ (@da_cons _ _ _ _ _ _ (@de_var _ _ 6 _ _ (by rfl) (by first | exact Or.inl rfl | exact Or.inr (Or.inl rfl) | exact Or.inr (Or.inr rfl)) (by decide) (by decide)) (@da_nil _ _) (by rfl))))) (@de_sl _ _ _ _ _ _ _ _ _ _ (@de_var _ _ 2 _ _ (by rfl) (by first | exact Or.inl rfl | exact Or.inr (Or.inl rfl) | exact Or.inr (Or.inr rfl)) (by decide) (by decide)) (@do_some _ _ _ _ (@de_add _ _ _ _ _ _ _ (@de_var _ _ 5 _ _ (by rfl) (by first | exact Or.inl rfl | exact Or.inr (Or.inl rfl) | exact Or.inr (Or.inr rfl)) (by decide) (by decide)) (@de_int _ _ _ _ _))) (@do_none _ _))) (by rfl) (by rfl) (by rfl) (by rfl) (by rfl)) (@da_nil _ _) (by rfl)) (by rfl) (by decide) (by rfl) (by rfl)) (by intro _ ; rfl))) (@dss_one _ _ _ _ _ _ _ (@ds_ret _ _ _ _ _ _ _ _ (@de_bl _ _ _ _ _))) (@dss_nil _ _ _ _)) (@dss_one _ _ _ _ _ _ _ (@ds_if _ _ _ _ _ _ _ _ _ _ _ _ (@dt_not _ _ _ _ _ (@dt_val _ _ _ _ (@de_call _ _ _ _ _ _ _ _ _ _ C F__law_refused (@da_cons _ _ _ _ _ _ (@de_ix _ _ _ _ _ _ _ (@DF.val _ _ _ _ (@df_lst _ _ _ _ _ (@da_cons _ _ _ _ _ _ (@de_non _ _ _ _) (@da_cons _ _ _ _ _ _ (@de_int _ _ _ _ _) (@da_cons _ _ _ _ _ _ (@de_bl _ _ _ _ _) (@da_cons _ _ _ _ _ _ (@de_var _ _ 1 _ _ (by rfl) (by first | exact Or.inl rfl | exact Or.inr (Or.inl rfl) | exact Or.inr (Or.inr rfl)) (by decide) (by decide)) (@da_cons _ _ _ _ _ _ (@de_tup _ _ _ _ _ _ (@da_cons _ _ _ _ _ _ (@de_str _ _ _ _ _) (@da_nil _ _) (by rfl))) (@da_cons _ _ _ _ _ _ (@de_d0 _ _ _) (@da_nil _ _) (by rfl)) (by rfl)) (by rfl)) (by rfl)) (by rfl)) (by rfl)))) (@de_mod _ _ _ _ _ _ _ (@de_ix _ _ _ _ _ _ _ (@de_var _ _ 4 _ _ (by rfl) (by first | exact Or.inl rfl | exact Or.inr (Or.inl rfl) | exact Or.inr (Or.inr rfl)) (by decide) (by decide)) (@de_int _ _ _ _ _) (by intro _ _ ; rfl)) (@de_int _ _ _ _ _)) (by intro _ _ ; rfl)) (@da_nil _ _) (by rfl)) (by rfl) (by decide) (by rfl) (by rfl)) (by intro _ ; rfl))) (@dss_one _ _ _ _ _ _ _ (@ds_ret _ _ _ _ _ _ _ _ (@de_bl _ _ _ _ _))) (@dss_nil _ _ _ _)))))))) (by rfl) (by intro _ ; rfl)) (@dss_one _ _ _ _ _ _ _ (@ds_ret _ _ _ _ _ _ _ _ (@de_cmp1 _ _ _ _ _ _ _ _ _ (@cf_eq _ _ _ C) (@de_call _ _ _ _ _ _ _ _ _ _ C F_read (@da_cons _ _ _ _ _ _ (@de_join _ _ _ _ _ _ _ _ (@de_str _ _ _ _ _) (@de_var _ _ 2 _ _ (by rfl) (by first | exact Or.inl rfl | exact Or.inr (Or.inl rfl) | exact Or.inr (Or.inr rfl)) (by decide) (by decide)) (by rfl) (by rfl) (by rfl) (by rfl) (by rfl)) (@da_nil _ _) (by rfl)) (by rfl) (by decide) (by rfl) (by rfl)) (@de_var _ _ 1 _ _ (by rfl) (by first | exact Or.inl rfl | exact Or.inr (Or.inl rfl) | exact Or.inr (Or.inr rfl)) (by decide) (by decide)) (by first | exact nobehind _ (by decide) (by decide) | rfl)))))))
set_option maxHeartbeats 4000000 in
theorem all_mk {l : PySem.W.OpenLaw} {w : World} {K : PySem.W.Frag} {h : Heap} {mg : Str → Option Value} {fa f0 f1 f2 f3 f4 f5 f6 f7 f8 f9 f10 : Addr} (X : K.In h) (G : h.Ns mainGlobals mg) (hfa : mg "law" = some (.ref fa))
    {od0 an0 od1 an1 od2 an2 od3 an3 od4 an4 od5 an5 od6 an6 od7 an7 od8 an8 od9 an9 od10 an10 : Option Addr} {sl0 sl1 sl2 sl3 sl4 sl5 sl6 sl7 sl8 sl9 sl10 : Array (Option Value)} {oc0 kV0 dc0 pm0 cd0 ct0 oc1 kV1 dc1 pm1 cd1 ct1 oc2 kV2 dc2 pm2 cd2 ct2 oc3 kV3 dc3 pm3 cd3 ct3 oc4 kV4 dc4 pm4 cd4 ct4 oc5 kV5 dc5 pm5 cd5 ct5 oc6 kV6 dc6 pm6 cd6 ct6 oc7 kV7 dc7 pm7 cd7 ct7 oc8 kV8 dc8 pm8 cd8 ct8 oc9 kV9 dc9 pm9 cd9 ct9 oc10 kV10 dc10 pm10 cd10 ct10 : Value}
    {C_ChalkError C_NoPlace C_Same C_NoFloor C_Endless C_NoDeed C_NoText C_NoName C_TooMany C_NoChange C_NoFrame C_NoValue C_Unlike C_NoRatio C_NoBow C_NoRow : Addr}
    (a0 : PySem.W.nsIn K mainGlobals "_law_digits" = some (some (.ref f0))) (l0 : K.lookup f0 = some ⟨oc0, od0, .func (PySem.W.fnOf "_law_digits" "_law_digits" (defArgs s__law_digits) (defBody s__law_digits) (defScope s__law_digits) .none kV0 dc0 pm0 an0 cd0 ct0), sl0⟩) (c0 : PySem.W.codeIn K cd0 "_law_digits" = true) (k0 : PySem.W.keepIn K (.ref f0) = true)
    (a1 : PySem.W.nsIn K mainGlobals "_law_number" = some (some (.ref f1))) (l1 : K.lookup f1 = some ⟨oc1, od1, .func (PySem.W.fnOf "_law_number" "_law_number" (defArgs s__law_number) (defBody s__law_number) (defScope s__law_number) .none kV1 dc1 pm1 an1 cd1 ct1), sl1⟩) (c1 : PySem.W.codeIn K cd1 "_law_number" = true) (k1 : PySem.W.keepIn K (.ref f1) = true)
    (a2 : PySem.W.nsIn K mainGlobals "_law_deeds" = some (some (.ref f2))) (l2 : K.lookup f2 = some ⟨oc2, od2, .func (PySem.W.fnOf "_law_deeds" "_law_deeds" (defArgs s__law_deeds) (defBody s__law_deeds) (defScope s__law_deeds) .none kV2 dc2 pm2 an2 cd2 ct2), sl2⟩) (c2 : PySem.W.codeIn K cd2 "_law_deeds" = true) (k2 : PySem.W.keepIn K (.ref f2) = true)
    (a3 : PySem.W.nsIn K mainGlobals "_law_bad" = some (some (.ref f3))) (l3 : K.lookup f3 = some ⟨oc3, od3, .func (PySem.W.fnOf "_law_bad" "_law_bad" (defArgs s__law_bad) (defBody s__law_bad) (defScope s__law_bad) .none kV3 dc3 pm3 an3 cd3 ct3), sl3⟩) (c3 : PySem.W.codeIn K cd3 "_law_bad" = true) (k3 : PySem.W.keepIn K (.ref f3) = true)
    (a4 : PySem.W.nsIn K mainGlobals "rows_of" = some (some (.ref f4))) (l4 : K.lookup f4 = some ⟨oc4, od4, .func (PySem.W.fnOf "rows_of" "rows_of" (defArgs s_rows_of) (defBody s_rows_of) (defScope s_rows_of) .none kV4 dc4 pm4 an4 cd4 ct4), sl4⟩) (c4 : PySem.W.codeIn K cd4 "rows_of" = true) (k4 : PySem.W.keepIn K (.ref f4) = true)
    (a5 : PySem.W.nsIn K mainGlobals "read_number" = some (some (.ref f5))) (l5 : K.lookup f5 = some ⟨oc5, od5, .func (PySem.W.fnOf "read_number" "read_number" (defArgs s_read_number) (defBody s_read_number) (defScope s_read_number) .none kV5 dc5 pm5 an5 cd5 ct5), sl5⟩) (c5 : PySem.W.codeIn K cd5 "read_number" = true) (k5 : PySem.W.keepIn K (.ref f5) = true)
    (a6 : PySem.W.nsIn K mainGlobals "read_deed" = some (some (.ref f6))) (l6 : K.lookup f6 = some ⟨oc6, od6, .func (PySem.W.fnOf "read_deed" "read_deed" (defArgs s_read_deed) (defBody s_read_deed) (defScope s_read_deed) .none kV6 dc6 pm6 an6 cd6 ct6), sl6⟩) (c6 : PySem.W.codeIn K cd6 "read_deed" = true) (k6 : PySem.W.keepIn K (.ref f6) = true)
    (a7 : PySem.W.nsIn K mainGlobals "read" = some (some (.ref f7))) (l7 : K.lookup f7 = some ⟨oc7, od7, .func (PySem.W.fnOf "read" "read" (defArgs s_read) (defBody s_read) (defScope s_read) .none kV7 dc7 pm7 an7 cd7 ct7), sl7⟩) (c7 : PySem.W.codeIn K cd7 "read" = true) (k7 : PySem.W.keepIn K (.ref f7) = true)
    (a8 : PySem.W.nsIn K mainGlobals "shown" = some (some (.ref f8))) (l8 : K.lookup f8 = some ⟨oc8, od8, .func (PySem.W.fnOf "shown" "shown" (defArgs s_shown) (defBody s_shown) (defScope s_shown) .none kV8 dc8 pm8 an8 cd8 ct8), sl8⟩) (c8 : PySem.W.codeIn K cd8 "shown" = true) (k8 : PySem.W.keepIn K (.ref f8) = true)
    (a9 : PySem.W.nsIn K mainGlobals "_law_refused" = some (some (.ref f9))) (l9 : K.lookup f9 = some ⟨oc9, od9, .func (PySem.W.fnOf "_law_refused" "_law_refused" (defArgs s__law_refused) (defBody s__law_refused) (defScope s__law_refused) .none kV9 dc9 pm9 an9 cd9 ct9), sl9⟩) (c9 : PySem.W.codeIn K cd9 "_law_refused" = true) (k9 : PySem.W.keepIn K (.ref f9) = true)
    (a10 : PySem.W.nsIn K mainGlobals "law" = some (some (.ref f10))) (l10 : K.lookup f10 = some ⟨oc10, od10, .func (PySem.W.fnOf "law" "law" (defArgs s_law) (defBody s_law) (defScope s_law) .none kV10 dc10 pm10 an10 cd10 ct10), sl10⟩) (c10 : PySem.W.codeIn K cd10 "law" = true) (k10 : PySem.W.keepIn K (.ref f10) = true)
    (z_abs : PySem.W.nsIn K mainGlobals "abs" = some none)
    (z_int : PySem.W.nsIn K mainGlobals "int" = some none)
    (z_len : PySem.W.nsIn K mainGlobals "len" = some none)
    (z_range : PySem.W.nsIn K mainGlobals "range" = some none)
    (z_isinstance : PySem.W.nsIn K mainGlobals "isinstance" = some none)
    (z_str : PySem.W.nsIn K mainGlobals "str" = some none)
    (z_all : PySem.W.nsIn K mainGlobals "all" = some none)
    (z_ValueError : PySem.W.nsIn K mainGlobals "ValueError" = some none)
    (e_ChalkError : PySem.W.nsIn K mainGlobals "ChalkError" = some (some (.ref C_ChalkError)))
    (e_NoPlace : PySem.W.nsIn K mainGlobals "NoPlace" = some (some (.ref C_NoPlace)))
    (e_Same : PySem.W.nsIn K mainGlobals "Same" = some (some (.ref C_Same)))
    (e_NoFloor : PySem.W.nsIn K mainGlobals "NoFloor" = some (some (.ref C_NoFloor)))
    (e_Endless : PySem.W.nsIn K mainGlobals "Endless" = some (some (.ref C_Endless)))
    (e_NoDeed : PySem.W.nsIn K mainGlobals "NoDeed" = some (some (.ref C_NoDeed)))
    (e_NoText : PySem.W.nsIn K mainGlobals "NoText" = some (some (.ref C_NoText)))
    (e_NoName : PySem.W.nsIn K mainGlobals "NoName" = some (some (.ref C_NoName)))
    (e_TooMany : PySem.W.nsIn K mainGlobals "TooMany" = some (some (.ref C_TooMany)))
    (e_NoChange : PySem.W.nsIn K mainGlobals "NoChange" = some (some (.ref C_NoChange)))
    (e_NoFrame : PySem.W.nsIn K mainGlobals "NoFrame" = some (some (.ref C_NoFrame)))
    (e_NoValue : PySem.W.nsIn K mainGlobals "NoValue" = some (some (.ref C_NoValue)))
    (e_Unlike : PySem.W.nsIn K mainGlobals "Unlike" = some (some (.ref C_Unlike)))
    (e_NoRatio : PySem.W.nsIn K mainGlobals "NoRatio" = some (some (.ref C_NoRatio)))
    (e_NoBow : PySem.W.nsIn K mainGlobals "NoBow" = some (some (.ref C_NoBow)))
    (e_NoRow : PySem.W.nsIn K mainGlobals "NoRow" = some (some (.ref C_NoRow)))
    (y_NoText : PySem.W.excIn K C_NoText [.type "ValueError", .type "Exception", .type "BaseException", .type "object"] "ValueError.__new__" = true)
    (xga_NoText : PySem.W.findIn K (.ref C_NoText) "__getattribute__" = some (some (.builtin "BaseException.__getattribute__")))
    (xgh_NoText : PySem.W.findIn K (.ref C_NoText) "__getattr__" = some none)
    (xbs_NoText : PySem.W.mroIn K C_NoText (.type "BaseException") = some true)
    (xob_NoText : PySem.W.mroIn K C_NoText (.type "object") = some true)
    (xca_NoText : PySem.W.findIn K (.ref C_NoText) "__class__" = some (some (.builtin "object.__class__")))
    (xvv_NoText : PySem.W.kitOne K (.ref C_NoText) (.type "ValueError") = some true)
    (t_NoText_ChalkError : PySem.W.kitOne K (.ref C_NoText) (.ref C_ChalkError) = some true)
    (u_NoText_ChalkError : PySem.W.exmOne K (.ref C_NoText) (.ref C_ChalkError) = some true)
    (t_NoText_NoPlace : PySem.W.kitOne K (.ref C_NoText) (.ref C_NoPlace) = some false)
    (t_NoText_Same : PySem.W.kitOne K (.ref C_NoText) (.ref C_Same) = some false)
    (t_NoText_NoFloor : PySem.W.kitOne K (.ref C_NoText) (.ref C_NoFloor) = some false)
    (t_NoText_Endless : PySem.W.kitOne K (.ref C_NoText) (.ref C_Endless) = some false)
    (t_NoText_NoDeed : PySem.W.kitOne K (.ref C_NoText) (.ref C_NoDeed) = some false)
    (t_NoText_NoText : PySem.W.kitOne K (.ref C_NoText) (.ref C_NoText) = some true)
    (u_NoText_NoText : PySem.W.exmOne K (.ref C_NoText) (.ref C_NoText) = some true)
    (t_NoText_NoName : PySem.W.kitOne K (.ref C_NoText) (.ref C_NoName) = some false)
    (t_NoText_TooMany : PySem.W.kitOne K (.ref C_NoText) (.ref C_TooMany) = some false)
    (t_NoText_NoChange : PySem.W.kitOne K (.ref C_NoText) (.ref C_NoChange) = some false)
    (t_NoText_NoFrame : PySem.W.kitOne K (.ref C_NoText) (.ref C_NoFrame) = some false)
    (t_NoText_NoValue : PySem.W.kitOne K (.ref C_NoText) (.ref C_NoValue) = some false)
    (t_NoText_Unlike : PySem.W.kitOne K (.ref C_NoText) (.ref C_Unlike) = some false)
    (t_NoText_NoRatio : PySem.W.kitOne K (.ref C_NoText) (.ref C_NoRatio) = some false)
    (t_NoText_NoBow : PySem.W.kitOne K (.ref C_NoText) (.ref C_NoBow) = some false)
    (t_NoText_NoRow : PySem.W.kitOne K (.ref C_NoText) (.ref C_NoRow) = some false)
    (xcg : PySem.W.specialIn K (.builtin "object.__class__") "__get__" = some (some (.builtin "getset_descriptor.__get__"))) (xct : PySem.W.takesIn K (.builtin "object.__class__") = some true)
    {t_FIGURES : Tok} (q_FIGURES : PySem.W.nsIn K mainGlobals "FIGURES" = some (some (.str "0123456789" t_FIGURES)))
    (hlaw : ∀ ns : List Int, ns.length ≤ 63 → m_law_v30 [.lst (ns.map .int)] = .ok (.bl true))
    : ∃ fd : FuncData, (∀ (s : Shared) (v : Value), BindsTo s fd ⟨[v], []⟩ [("_law_script", v)]) ∧ ∀ base : Heap, K.In base → base.Ns mainGlobals mg → FnOk l.prog w K mg base (CXe l.prog w) 5 fa fd ["_law_script"] (spLaw K) := by
  have e := hfa.symm.trans (PySem.W.mg_of X G a10)
  cases e
  have F0 := fun_mk (st := s__law_digits) l0 c0 k0
  have b0 := F0.binds (ps := ["_law_cell_here", "_law_k", "_law_many"]) fun _ _ _ _ _ _ us hl => match us, hl with | [_, _, _], _ => rfl
  have m0 := PySem.W.mg_of X G a0
  have F1 := fun_mk (st := s__law_number) l1 c1 k1
  have b1 := F1.binds (ps := ["_law_d"]) fun _ _ _ _ _ _ us hl => match us, hl with | [_], _ => rfl
  have m1 := PySem.W.mg_of X G a1
  have F2 := fun_mk (st := s__law_deeds) l2 c2 k2
  have b2 := F2.binds (ps := ["_law_cells"]) fun _ _ _ _ _ _ us hl => match us, hl with | [_], _ => rfl
  have m2 := PySem.W.mg_of X G a2
  have F3 := fun_mk (st := s__law_bad) l3 c3 k3
  have b3 := F3.binds (ps := ["_law_row", "_law_d"]) fun _ _ _ _ _ _ us hl => match us, hl with | [_, _], _ => rfl
  have m3 := PySem.W.mg_of X G a3
  have F4 := fun_mk (st := s_rows_of) l4 c4 k4
  have b4 := F4.binds (ps := ["text"]) fun _ _ _ _ _ _ us hl => match us, hl with | [_], _ => rfl
  have m4 := PySem.W.mg_of X G a4
  have F5 := fun_mk (st := s_read_number) l5 c5 k5
  have b5 := F5.binds (ps := ["word"]) fun _ _ _ _ _ _ us hl => match us, hl with | [_], _ => rfl
  have m5 := PySem.W.mg_of X G a5
  have F6 := fun_mk (st := s_read_deed) l6 c6 k6
  have b6 := F6.binds (ps := ["words"]) fun _ _ _ _ _ _ us hl => match us, hl with | [_], _ => rfl
  have m6 := PySem.W.mg_of X G a6
  have F7 := fun_mk (st := s_read) l7 c7 k7
  have b7 := F7.binds (ps := ["text"]) fun _ _ _ _ _ _ us hl => match us, hl with | [_], _ => rfl
  have m7 := PySem.W.mg_of X G a7
  have F8 := fun_mk (st := s_shown) l8 c8 k8
  have b8 := F8.binds (ps := ["plan"]) fun _ _ _ _ _ _ us hl => match us, hl with | [_], _ => rfl
  have m8 := PySem.W.mg_of X G a8
  have F9 := fun_mk (st := s__law_refused) l9 c9 k9
  have b9 := F9.binds (ps := ["_law_thing"]) fun _ _ _ _ _ _ us hl => match us, hl with | [_], _ => rfl
  have m9 := PySem.W.mg_of X G a9
  have F10 := fun_mk (st := s_law) l10 c10 k10
  have m10 := PySem.W.mg_of X G a10
  have n_abs := PySem.W.mg_none_of X G z_abs
  have n_int := PySem.W.mg_none_of X G z_int
  have n_len := PySem.W.mg_none_of X G z_len
  have n_range := PySem.W.mg_none_of X G z_range
  have n_isinstance := PySem.W.mg_none_of X G z_isinstance
  have n_str := PySem.W.mg_none_of X G z_str
  have n_all := PySem.W.mg_none_of X G z_all
  have n_ValueError := PySem.W.mg_none_of X G z_ValueError
  have c_ChalkError := PySem.W.mg_of X G e_ChalkError
  have c_NoPlace := PySem.W.mg_of X G e_NoPlace
  have c_Same := PySem.W.mg_of X G e_Same
  have c_NoFloor := PySem.W.mg_of X G e_NoFloor
  have c_Endless := PySem.W.mg_of X G e_Endless
  have c_NoDeed := PySem.W.mg_of X G e_NoDeed
  have c_NoText := PySem.W.mg_of X G e_NoText
  have c_NoName := PySem.W.mg_of X G e_NoName
  have c_TooMany := PySem.W.mg_of X G e_TooMany
  have c_NoChange := PySem.W.mg_of X G e_NoChange
  have c_NoFrame := PySem.W.mg_of X G e_NoFrame
  have c_NoValue := PySem.W.mg_of X G e_NoValue
  have c_Unlike := PySem.W.mg_of X G e_Unlike
  have c_NoRatio := PySem.W.mg_of X G e_NoRatio
  have c_NoBow := PySem.W.mg_of X G e_NoBow
  have c_NoRow := PySem.W.mg_of X G e_NoRow
  have x_NoText : XcOk K mg "NoText" C_NoText := XcOk.mk' c_NoText ⟨by (obtain ⟨_, hc, _⟩ := PySem.W.kw_along xga_NoText; rw [hc]; rfl), xga_NoText, xgh_NoText, xbs_NoText, xob_NoText, xca_NoText, xcg, xct⟩ xvv_NoText (xcRows (XcRow.of (b := true) c_ChalkError t_NoText_ChalkError (fun _ => u_NoText_ChalkError)) (XcRow.of (b := false) c_NoPlace t_NoText_NoPlace (fun z => nomatch z)) (XcRow.of (b := false) c_Same t_NoText_Same (fun z => nomatch z)) (XcRow.of (b := false) c_NoFloor t_NoText_NoFloor (fun z => nomatch z)) (XcRow.of (b := false) c_Endless t_NoText_Endless (fun z => nomatch z)) (XcRow.of (b := false) c_NoDeed t_NoText_NoDeed (fun z => nomatch z)) (XcRow.of (b := true) c_NoText t_NoText_NoText (fun _ => u_NoText_NoText)) (XcRow.of (b := false) c_NoName t_NoText_NoName (fun z => nomatch z)) (XcRow.of (b := false) c_TooMany t_NoText_TooMany (fun z => nomatch z)) (XcRow.of (b := false) c_NoChange t_NoText_NoChange (fun z => nomatch z)) (XcRow.of (b := false) c_NoFrame t_NoText_NoFrame (fun z => nomatch z)) (XcRow.of (b := false) c_NoValue t_NoText_NoValue (fun z => nomatch z)) (XcRow.of (b := false) c_Unlike t_NoText_Unlike (fun z => nomatch z)) (XcRow.of (b := false) c_NoRatio t_NoText_NoRatio (fun z => nomatch z)) (XcRow.of (b := false) c_NoBow t_NoText_NoBow (fun z => nomatch z)) (XcRow.of (b := false) c_NoRow t_NoText_NoRow (fun z => nomatch z)))
  refine ⟨PySem.W.fnOf "law" "law" (defArgs s_law) (defBody s_law) (defScope s_law) .none kV10 dc10 pm10 an10 cd10 ct10, fun s v => .of_eq rfl, fun base _ _ => ?_⟩
  have k_FIGURES_is : ∃ u v, mg "FIGURES" = some u ∧ RelV v u ∧ ∀ G, Rep K mg G k_FIGURES v := ⟨_, .str "0123456789", PySem.W.mg_of X G q_FIGURES, ⟨_, rfl⟩, fun _ => rfl⟩
  have G0 : FnAt l.prog w K mg base 1 "_law_digits" m_law_digits_v1 := ok__law_digits (k := 0) F0 m0 b0 n_abs n_int n_len n_range
  have G1 : FnAt l.prog w K mg base 1 "_law_number" m_law_number := ok__law_number (k := 0) F1 m1 b1
  have G2 : FnAt l.prog w K mg base 2 "_law_deeds" m_law_deeds := ok__law_deeds (k := 1) F2 m2 b2 n_range n_len G0 G1
  have G3 : FnAt l.prog w K mg base 1 "_law_bad" m_law_bad_v1 := ok__law_bad (k := 0) F3 m3 b3
  have G4 : FnAt l.prog w K mg base 1 "rows_of" m_rows_of := ok_rows_of (k := 0) F4 m4 b4 c_NoText y_NoText x_NoText n_isinstance n_str
  have G5 : FnAt l.prog w K mg base 1 "read_number" m_read_number := ok_read_number (k := 0) F5 m5 b5 c_NoText y_NoText x_NoText n_all n_int k_FIGURES_is
  have G6 : FnAt l.prog w K mg base 2 "read_deed" m_read_deed := ok_read_deed (k := 1) F6 m6 b6 c_NoText y_NoText x_NoText n_len G5
  have G7 : FnAt l.prog w K mg base 3 "read" m_read_v1 := ok_read (k := 2) F7 m7 b7 (G4.mono (by decide : 1 ≤ 2)) G6
  have G8 : FnAt l.prog w K mg base 1 "shown" m_shown := ok_shown (k := 0) F8 m8 b8 n_str
  have G9 : FnAt l.prog w K mg base 4 "_law_refused" m_law_refused_v10 := ok__law_refused (k := 3) F9 m9 b9 c_ChalkError c_NoText c_TooMany c_NoName c_NoDeed c_Endless c_NoFloor c_Same c_NoPlace c_NoRow c_NoBow c_NoRatio c_Unlike c_NoValue c_NoFrame c_NoChange n_isinstance n_ValueError G7
  exact law_of (ok_law (P := l.prog) (w := w) (base := base) (k := 4) F10 n_int n_len (G2.mono (by decide : 2 ≤ 4)) (G8.mono (by decide : 1 ≤ 4)) (G0.mono (by decide : 1 ≤ 4)) (G3.mono (by decide : 1 ≤ 4)) G9 (G7.mono (by decide : 3 ≤ 4))) hlaw
end Kx
def PySem.W.Fast.tw13647469356888271200 := 0
def PySem.W.Fast.tw9267477396351409792 := 0
def PySem.W.Fast.tw15425648808180685664 := 0
def PySem.W.Fast.tw14139518224303878080 := 0
def PySem.W.Fast.tw17908827419775807169 := 0
def PySem.W.Fast.tw9528017381653201346 := 0
def PySem.W.Fast.tw7087619582629881956 := 0
def PySem.W.Fast.tw9988228454461005415 := 0
def PySem.W.Fast.tw2966651997302988551 := 0
def PySem.W.Fast.tw11546771994330356424 := 0
def PySem.W.Fast.tw14386209953764465418 := 0
def PySem.W.Fast.tw13481980416899837900 := 0
def PySem.W.Fast.tw9876610307677176270 := 0
def PySem.W.Fast.tw12553603441897083598 := 0
def PySem.W.Fast.tw181894950259072591 := 0
def PySem.W.Fast.tw18013082761282778160 := 0
def PySem.W.Fast.tw8322003875368367152 := 0
def PySem.W.Fast.tw5515269922028657616 := 0
def PySem.W.Fast.tw16596881884658803025 := 0
def PySem.W.Fast.tw9135854603762137521 := 0
def PySem.W.Fast.tw2419607376992926322 := 0
def PySem.W.Fast.tw14696391173460753459 := 0
def PySem.W.Fast.tw9865695222455606195 := 0
def PySem.W.Fast.tw15440300378719468531 := 0
def PySem.W.Fast.tw669833689877421140 := 0
def PySem.W.Fast.tw16290655362038787093 := 0
def PySem.W.Fast.tw3727686674109970741 := 0
def PySem.W.Fast.tw5314853619534698165 := 0
def PySem.W.Fast.tw16902543965901337365 := 0
def PySem.W.Fast.tw16145771817027446679 := 0
def PySem.W.Fast.tw12429077613189663897 := 0
def PySem.W.Fast.tw16444495522589812249 := 0
def PySem.W.Fast.tw5050281359094089882 := 0
def PySem.W.Fast.tw7837522729419577338 := 0
def PySem.W.Fast.tw2993851036888031357 := 0
def PySem.W.Fast.tw540101294661890430 := 0
def PySem.W.Fast.tw3651233735950036350 := 0
def PySem.W.Fast.tw8590273046413110975 := 0
def PySem.W.Fast.tw13694889006136955775 := 0
open PySem PySem.W PyProof.Rows
set_option maxRecDepth 100000 in
set_option maxHeartbeats 0 in
theorem PySem.Challenge.cw_chalkline_k25_no_plan_holds : PySem.Challenge.rw_chalkline_k25_no_plan.Holds := by
  w_on; o_law; k_head; (case hw => w_witness2)
  k_fill
  refine DL.walkD (l := PySem.Challenge.rw_chalkline_k25_no_plan) 5 ⟨rfl, by decide, by decide⟩ rfl rfl (fun w h Y => PySem.W.kIn_of Y) ?F
  case F =>
    intro w mg fa h KX G hmg
    refine' Kx.all_mk KX G hmg ?a0 ?l0 ?c0 ?k0 ?a1 ?l1 ?c1 ?k1 ?a2 ?l2 ?c2 ?k2 ?a3 ?l3 ?c3 ?k3 ?a4 ?l4 ?c4 ?k4 ?a5 ?l5 ?c5 ?k5 ?a6 ?l6 ?c6 ?k6 ?a7 ?l7 ?c7 ?k7 ?a8 ?l8 ?c8 ?k8 ?a9 ?l9 ?c9 ?k9 ?a10 ?l10 ?c10 ?k10 ?z_abs ?z_int ?z_len ?z_range ?z_isinstance ?z_str ?z_all ?z_ValueError ?e_ChalkError ?e_NoPlace ?e_Same ?e_NoFloor ?e_Endless ?e_NoDeed ?e_NoText ?e_NoName ?e_TooMany ?e_NoChange ?e_NoFrame ?e_NoValue ?e_Unlike ?e_NoRatio ?e_NoBow ?e_NoRow ?y_NoText ?xga_NoText ?xgh_NoText ?xbs_NoText ?xob_NoText ?xca_NoText ?xvv_NoText ?t_NoText_ChalkError ?u_NoText_ChalkError ?t_NoText_NoPlace ?t_NoText_Same ?t_NoText_NoFloor ?t_NoText_Endless ?t_NoText_NoDeed ?t_NoText_NoText ?u_NoText_NoText ?t_NoText_NoName ?t_NoText_TooMany ?t_NoText_NoChange ?t_NoText_NoFrame ?t_NoText_NoValue ?t_NoText_Unlike ?t_NoText_NoRatio ?t_NoText_NoBow ?t_NoText_NoRow ?xcg ?xct ?q_FIGURES ?hlaw
    (case a0 => k_is)
    (case l0 => k_is)
    (case c0 => k_is)
    (case k0 => k_is)
    (case a1 => k_is)
    (case l1 => k_is)
    (case c1 => k_is)
    (case k1 => k_is)
    (case a2 => k_is)
    (case l2 => k_is)
    (case c2 => k_is)
    (case k2 => k_is)
    (case a3 => k_is)
    (case l3 => k_is)
    (case c3 => k_is)
    (case k3 => k_is)
    (case a4 => k_is)
    (case l4 => k_is)
    (case c4 => k_is)
    (case k4 => k_is)
    (case a5 => k_is)
    (case l5 => k_is)
    (case c5 => k_is)
    (case k5 => k_is)
    (case a6 => k_is)
    (case l6 => k_is)
    (case c6 => k_is)
    (case k6 => k_is)
    (case a7 => k_is)
    (case l7 => k_is)
    (case c7 => k_is)
    (case k7 => k_is)
    (case a8 => k_is)
    (case l8 => k_is)
    (case c8 => k_is)
    (case k8 => k_is)
    (case a9 => k_is)
    (case l9 => k_is)
    (case c9 => k_is)
    (case k9 => k_is)
    (case a10 => k_is)
    (case l10 => k_is)
    (case c10 => k_is)
    (case k10 => k_is)
    (case z_abs => k_is)
    (case z_int => k_is)
    (case z_len => k_is)
    (case z_range => k_is)
    (case z_isinstance => k_is)
    (case z_str => k_is)
    (case z_all => k_is)
    (case z_ValueError => k_is)
    (case e_ChalkError => k_is)
    (case e_NoPlace => k_is)
    (case e_Same => k_is)
    (case e_NoFloor => k_is)
    (case e_Endless => k_is)
    (case e_NoDeed => k_is)
    (case e_NoText => k_is)
    (case e_NoName => k_is)
    (case e_TooMany => k_is)
    (case e_NoChange => k_is)
    (case e_NoFrame => k_is)
    (case e_NoValue => k_is)
    (case e_Unlike => k_is)
    (case e_NoRatio => k_is)
    (case e_NoBow => k_is)
    (case e_NoRow => k_is)
    (case y_NoText => k_exc)
    (case xga_NoText => k_is)
    (case xgh_NoText => k_is)
    (case xbs_NoText => k_is)
    (case xob_NoText => k_is)
    (case xca_NoText => k_is)
    (case xvv_NoText => kit_is)
    (case t_NoText_ChalkError => kit_is)
    (case u_NoText_ChalkError => kts_exm)
    (case t_NoText_NoPlace => kit_is)
    (case t_NoText_Same => kit_is)
    (case t_NoText_NoFloor => kit_is)
    (case t_NoText_Endless => kit_is)
    (case t_NoText_NoDeed => kit_is)
    (case t_NoText_NoText => kit_is)
    (case u_NoText_NoText => kts_exm)
    (case t_NoText_NoName => kit_is)
    (case t_NoText_TooMany => kit_is)
    (case t_NoText_NoChange => kit_is)
    (case t_NoText_NoFrame => kit_is)
    (case t_NoText_NoValue => kit_is)
    (case t_NoText_Unlike => kit_is)
    (case t_NoText_NoRatio => kit_is)
    (case t_NoText_NoBow => kit_is)
    (case t_NoText_NoRow => kit_is)
    (case xcg => k_is)
    (case xct => k_is)
    (case q_FIGURES => k_is)
    (case hlaw => exact Lk25.law_ok)
end