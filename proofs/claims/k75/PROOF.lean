import PyProof.Rows.All
import Wide.All
import OpenK.AllK
import Wide.FinOn
import Lean
import PyProof.EqAt
import PyProof.EqKinds
import PyProof.TupleCall
import PyProof.NeKinds
import KE.KTryMore
import PyProof.NsDelKeeps
import PySem.SetTable
import PyProof.StrLawsChain
import PyProof.StrBlockL
import KE.KIntText
import PyProof.DictTable
import PyProof.SliceStr2
import PyProof.MeetsStr
import PyProof.StrWalks
import PyProof.TupleKey
import PyProof.SetKind
import PyProof.Rows.SetFrom
import PyProof.ZipIter
import PyProof.Rows.ZipGen
import PyProof.LayNew
import PyProof.ExcInit
import PyProof.ExcClass3
import PyProof.EnumFor
import PyProof.EnumMake
import PyProof.EnumStmt
import PyProof.Rows.StrNews
import KE.KDictSum
import KE.KSortTup
import PySem.Challenge.RW_chalkline_k75_ratios
set_option Elab.async false
set_option linter.all false
set_option maxRecDepth 100000
set_option maxHeartbeats 1000000
section
open PySem PyProof.Rows
abbrev xFg := PySem.W.Frag
abbrev xaa := @Heap.get?_push_of_some
abbrev xab := @List.mem_cons_of_mem
abbrev xad := @PySem.W.mg_of
abbrev xae := @List.mem_cons_self
abbrev xaf := @List.mem_cons
abbrev xag := @List.size_toArray
abbrev xah := @List.getElem?_eq_some_iff
abbrev xai := @Heap.lt_size
abbrev xaj := @Nat.le_refl
abbrev xak := @Nat.lt_of_lt_of_le
abbrev xal := @List.length_map
abbrev xam := @List.getElem?_set_ne
abbrev xan := @Array.length_toList
abbrev xao := @List.getElem?_eq_getElem
abbrev xap := @List.length_cons
abbrev xaq := @Array.getElem?_toList
abbrev xar := @Array.getD_eq_getD_getElem?
abbrev xas := @List.not_mem_nil
abbrev xat := @List.map_cons
abbrev xau := @Heap.get?_push_size
abbrev xav := @Bool.and_eq_true
abbrev xaw := @Classical.byContradiction
abbrev xax := @Prod.ext
abbrev xay := @List.all_eq_true
abbrev xaz := @Array.getElem?_eq_some_iff
abbrev xa0 := @Nat.ne_of_lt
abbrev xa1 := @Bool.false_ne_true
abbrev xa2 := @List.mem_range
abbrev xa3 := @Ne.symm
abbrev xa4 := @Array.getElem?_eq_getElem
abbrev xa5 := @List.getElem?_set_self
abbrev xa6 := @Int.mul_eq_zero
abbrev xa7 := @List.filterMap_cons_some
abbrev xa8 := @PySem.W.mg_none_of
abbrev xa9 := @List.mem_append_right
abbrev xba := @Nat.le_trans
abbrev xbb := @List.mem_map
abbrev xbc := @Option.isSome_iff_exists
abbrev xbd := @List.length_take
abbrev xbe := @List.filterMap_cons_none
abbrev xbf := @List.mem_of_getElem?
abbrev xbg := @Heap.get?_update_other
abbrev xbh := @Nat.lt_irrefl
abbrev xbi := @List.getElem_of_mem
abbrev xbj := @List.pairwise_cons
abbrev xbk := @Bool.false_eq_true
abbrev xbl := @List.getElem?_map
abbrev xbm := @List.mem_filter
abbrev xbn := @List.nodup_cons
abbrev xbo := @Nat.zero_add
abbrev xbp := @List.mem_filterMap
abbrev xbq := @Nat.lt_of_le_of_lt
abbrev xbr := @List.mem_singleton
abbrev xbt := @Nat.zero_le
abbrev xbu := @Int.emod_nonneg
abbrev xbv := @List.length_drop
abbrev xbw := @List.lookup_cons
abbrev xbx := @List.getElem_mem
abbrev xby := @List.length_append
abbrev xbz := @List.map_nil
abbrev xb0 := @Int.emod_lt_of_pos
abbrev xb1 := @List.mem_append
abbrev xb2 := @List.getElem?_toArray
abbrev xb3 := @List.getD_eq_getElem?_getD
abbrev xb4 := @List.getElem?_append_left
abbrev xb5 := @List.pairwise_iff_getElem
abbrev xb6 := @Bool.not_false
abbrev xb7 := @Int.mul_zero
abbrev xb8 := @Bool.not_true
abbrev xb9 := @List.append_nil
abbrev xcb := @Nat.mod_lt
abbrev xcc := @Heap.get?_update_self
abbrev xcd := @Int.natAbs_mul
abbrev xcf := @List.getElem?_append_right
abbrev xch := @List.filterMap_cons
abbrev xci := @List.mem_map_of_mem
abbrev xcj := @List.toList_toArray
abbrev xck := @List.of_mem_zip
abbrev xcl := @Int.eq_of_mul_eq_mul_left
abbrev xcm := @List.foldl_cons
abbrev xcn := @List.drop_eq_getElem_cons
abbrev xco := @List.map_append
abbrev xcp := @Nat.le_of_lt
abbrev xcq := @Int.natAbs_natCast
abbrev xcr := @List.getElem?_replicate
abbrev xcs := @Nat.eq_zero_of_zero_dvd
abbrev xcu := @List.getElem?_cons_succ
abbrev xcv := @Array.getElem?_eq_none
abbrev xcw := @Option.map_eq_some_iff
abbrev xcx := @Array.toList_filterMap
abbrev xcy := @List.drop_of_length_le
abbrev xcz := @Nat.gcd_dvd_left
abbrev xc0 := @Nat.lt_succ_self
abbrev xc1 := @List.length_replicate
abbrev xc2 := @Int.natAbs_dvd_natAbs
abbrev xc3 := @List.take_append_drop
abbrev xc4 := @Nat.ne_of_gt
abbrev xc5 := @Bool.eq_iff_iff
abbrev xc6 := @List.length_zip
abbrev xc7 := @Heap.get?_update_ne
abbrev xc8 := @Heap.size_push
end
open PySem
section
namespace L2
open PySem.Spec PyProof.Rows
abbrev Key := Sum Int Str
def zs9 : Key -> Value -> Bool
 | .inl k, v => Value.isInt k v
 | .inr x, v => Value.isStrOf x v
def keyH (w : World) : Key -> Int
 | .inl k => hashInt k
 | .inr x => hashStr w x
theorem za5 : ∀ {k : Key} {v : Value}, zs9 k v = true -> (∃ i t, k = Sum.inl i /\ v = Value.int i t) \/ (∃ x t, k = Sum.inr x /\ v = Value.str x t)
 | .inl i, v, h => by
  obtain ⟨t, e⟩ := Value.isInt_shape (k := i) (v := v) h
  exact .inl ⟨i, t, rfl, e⟩
 | .inr x, v, h => by
  obtain ⟨t, e⟩ := Value.isStrOf_shape (x := x) (v := v) h
  exact .inr ⟨x, t, rfl, e⟩
theorem zta (a b : Int) : decide ((Sum.inl a : Key) = Sum.inl b) = (a == b) := by
 by_cases e : a = b
 ·subst e; simp
 ·have h : ¬ (Sum.inl a : Key) = Sum.inl b := fun q => e (Sum.inl.inj q)
  rw [decide_eq_false h]
  exact (beq_eq_false_iff_ne.mpr e).symm
theorem ztb (a b : Str) : decide ((Sum.inr a : Key) = Sum.inr b) = decide (a = b) := by
 by_cases e : a = b
 ·subst e; simp
 ·have h : ¬ (Sum.inr a : Key) = Sum.inr b := fun q => e (Sum.inr.inj q)
  rw [decide_eq_false h, decide_eq_false e]
theorem ztc (a : Int) (b : Str) : decide ((Sum.inl a : Key) = Sum.inr b) = false := decide_eq_false (fun q => nomatch q)
theorem ztd (a : Str) (b : Int) : decide ((Sum.inr a : Key) = Sum.inl b) = false := decide_eq_false (fun q => nomatch q)
def zm1 (prog : Program) (w : World) : PySem.KeyKind prog w Key where
 is := zs9
 hash := keyH w
 inj := fun v a b ha hb => by
  rcases za5 ha with ⟨i, t, rfl, rfl⟩ | ⟨x, t, rfl, rfl⟩
  ·rcases za5 hb with ⟨j, u, rfl, e⟩ | ⟨y, u, rfl, e⟩
   ·injection e with e1 _; rw [e1]
   ·exact nomatch e
  ·rcases za5 hb with ⟨j, u, rfl, e⟩ | ⟨y, u, rfl, e⟩
   ·exact nomatch e
   ·injection e with e1 _; rw [e1]
 byValue := fun k v h => by
  rcases za5 h with ⟨i, t, rfl, rfl⟩ | ⟨x, t, rfl, rfl⟩ <;> rfl
 pyHash := fun hv h => by
  rcases za5 hv with ⟨i, t, rfl, rfl⟩ | ⟨x, t, rfl, rfl⟩
  ·exact wpAny_pyHash_int h
  ·exact wpAny_pyHash_str h
 eqBool := fun hu hv h => by
  rcases za5 hu with ⟨i, t, rfl, rfl⟩ | ⟨x, t, rfl, rfl⟩
  ·rcases za5 hv with ⟨j, u, rfl, rfl⟩ | ⟨y, u, rfl, rfl⟩
   ·rw [zta] at h; exact wpAny_eqBool_int h
   ·rw [ztc] at h; exact SeqAt.EqAt.int_str i t y u _ _ _ _ h
  ·rcases za5 hv with ⟨j, u, rfl, rfl⟩ | ⟨y, u, rfl, rfl⟩
   ·rw [ztd] at h; exact SeqAt.EqAt.str_int x t j u _ _ _ _ h
   ·rw [ztb] at h; exact wpAny_eqBool_str h
 «strs» := fun k x t v h => by
  rcases za5 h with ⟨i, u, rfl, e⟩ | ⟨y, u, rfl, e⟩
  ·exact nomatch e
  ·injection e with e1 _
   subst e1
   cases v <;> rfl
end L2
namespace L2
open PySem.Spec PyProof.Rows
inductive V where
 | non | bl (b : Bool) | int (i : Int) | str (x : Str) | byt (b : Array UInt8) | flt (b : UInt64) | ref (a : Addr) | ty (n : String)
 deriving DecidableEq
def RelV : V -> Value -> Prop
 | .non, u => u = Value.none
 | .bl b, u => u = Value.bool b
 | .int i, u => ∃ t, u = Value.int i t
 | .str x, u => ∃ t, u = Value.str x t
 | .byt b, u => ∃ t, u = Value.bytes b t
 | .flt b, u => ∃ t, u = Value.float b t
 | .ref a, u => u = Value.ref a
 | .ty n, u => u = Value.type n
abbrev zbf : List V -> List Value -> Prop := Paired RelV
theorem zbf.length {xs : List V} {us : List Value} (r : zbf xs us) : xs.length = us.length := Paired.length r
theorem zbf.get : ∀ {xs : List V} {us : List Value} {i : Nat} {x : V}, zbf xs us -> xs[i]? = some x -> ∃ u, us[i]? = some u /\ RelV x u
 | _, _, _, _, .nil, e => by simp at e
 | _, _, 0, _, .cons r _, e => by simp at e; subst e; exact ⟨_, rfl, r⟩
 | _, _, i + 1, x, .cons _ t, e => by
  obtain ⟨u, h1, h2⟩ := zbf.get (i := i) (x := x) t (by simpa using e)
  exact ⟨u, by simpa using h1, h2⟩
theorem zbf.set {x : V} {u : Value} (r : RelV x u) : ∀ {xs : List V} {us : List Value} (i : Nat), zbf xs us -> zbf (xs.set i x) (us.set i u)
 | _, _, _, .nil => .nil
 | _, _, 0, .cons _ t => .cons r t
 | _, _, i + 1, .cons q t => .cons q (zbf.set r i t)
theorem zbf.append : ∀ {xs ys : List V} {us ws : List Value}, zbf xs us -> zbf ys ws -> zbf (xs ++ ys) (us ++ ws)
 | _, _, _, _, .nil, s => s
 | _, _, _, _, .cons r t, s => .cons r (zbf.append t s)
theorem zbf.take : ∀ {xs : List V} {us : List Value} (n : Nat), zbf xs us -> zbf (xs.take n) (us.take n)
 | _, _, 0, _ => .nil
 | _, _, _ + 1, .nil => .nil
 | _, _, n + 1, .cons r t => .cons r (zbf.take n t)
theorem zbf.drop : ∀ {xs : List V} {us : List Value} (n : Nat), zbf xs us -> zbf (xs.drop n) (us.drop n)
 | _, _, 0, r => r
 | _, _, _ + 1, .nil => .nil
 | _, _, n + 1, .cons _ t => zbf.drop n t
def RelO : Option V -> Option Value -> Prop
 | some v, some u => RelV v u
 | none, none => True
 | _, _ => False
def KV {κ : Type} : List (κ × V) -> List (κ × Value) -> Prop := Paired fun (p : κ × V) (q : κ × Value) => p.1 = q.1 /\ RelV p.2 q.2
def kV : Key -> V
 | .inl i => .int i
 | .inr x => .str x
inductive HO where
 | lst (xs : List V)
 | tup (xs : List V)
 | dK (kvs : List (Key × V)) | dT (kvs : List (List Key × V))
 | set (S : Int -> Bool) (n : Nat)
 | ins (C dx : Addr) (fs : List (Str × V))
 | own (x : Addr)
 | xd (fs : List (Str × V))
 | met (f x : Addr)
 | rng (lo hi : Int)
 | frz (o : Obj) (u : HO)
 | tbl (ps : Array Value)
 | ext (φ : Heap -> Prop)
abbrev Hp := Addr -> Option HO
def upd (H : Hp) (a : Addr) (o : HO) : Hp := fun b => if b = a then some o else H b
theorem zav {H : Hp} {a : Addr} {o : HO} : upd H a o a = some o := by unfold upd; rw [if_pos rfl]
theorem zap {H : Hp} {a b : Addr} {o : HO} (h : b ≠ a) : upd H a o b = H b := by unfold upd; rw [if_neg h]
theorem zal {H : Hp} {a b : Addr} {o : HO} (h : H a = some o) (h' : H b = none) : a ≠ b := by
 intro e; subst e; rw [h] at h'; cases h'
section
variable (P : Program) (w : World)
def zdc (H : Hp) (h : Heap) (a : Addr) : HO -> Prop
 | .lst xs => xs.length <= sizeLine /\ ∃ (its : List Value) (n : Nat), zbf xs its /\ h.get? a = some { cls := .type "list", data := .seq its.toArray n }
 | .tup xs => xs.length <= sizeLine /\ ∃ its : List Value, zbf xs its /\ IsTup h a its.toArray
 | .dK kvs => kvs.length <= sizeLine /\ (a == sysModules) = false /\ ∃ vs, KV kvs vs /\ h.DictOf (zm1 P w) a vs
 | .dT kvs => kvs.length <= sizeLine /\ (a == sysModules) = false /\ ∃ xs : List (List Key × Addr × Value),
   Paired (fun (p : List Key × V) (q : List Key × Addr × Value) => p.1 = q.1 /\ H q.2.1 = some (.tup (p.1.map kV)) /\ RelV p.2 q.2.2) kvs xs /\
   ∃ o es ep, h.get? a = some o /\ o.ExactDict /\ o.data = .dict es ep /\ es.toList = xs.map (entryOfKey (tupleKind (zm1 P w))) /\ (xs.map (·.1)).Nodup
 | .set S n => h.SetOf (intKind P w) a S n
 | .ins C dx fs => H dx = some (.own a) /\ fs.length <= 1000 /\ dx ≠ a /\ h.get? a = some (PySem.W.instObj C dx) /\
   ∃ mA, h.Ns1 dx mA /\ (∀ f, RelO (fs.lookup f) (mA f)) /\ PySem.Within mA (fs.map (·.1))
 | .own _ => ∃ o, h.get? a = some o
 | .xd fs => ∃ mA, h.Ns1 a mA /\ ∀ f, RelO (fs.lookup f) (mA f)
 | .rng lo hi => ∃ t u v, h.get? a = some { cls := .type "range", data := .fields #[.int lo t, .int hi u, .int 1 v] }
 | .frz o u => h.get? a = some o /\ zdc H h a u
 | .tbl ps => h.get? a = some { cls := .none, data := .fields ps }
 | .met f x => h.get? a = some (PySem.W.methodObj (.ref f) (.ref x))
 | .ext φ => φ h /\ (∃ o, h.get? a = some o) /\ ∀ h1 h2 : Heap, φ h1 -> (∀ o, h1.get? a = some o -> h2.get? a = some o) -> φ h2
def HOk (H : Hp) (h : Heap) : Prop := ∀ a o, H a = some o -> zdc P w H h a o
end
section
variable {P : Program} {w : World} {H H' : Hp} {h h' : Heap} {a : Addr} {o : HO}
theorem zdc.lt (x : zdc P w H h a o) : a < h.objs.size := by
 cases o with
 | lst xs => obtain ⟨_, _, _, _, e⟩ := x; exact xai e
 | tup xs => obtain ⟨_, _, _, p⟩ := x; exact p.lt
 | dK kvs => obtain ⟨_, _, _, _, o, _, _, e, _⟩ := x; exact xai e
 | dT kvs => obtain ⟨_, _, _, _, o, _, _, e, _⟩ := x; exact xai e
 | set S n => obtain ⟨o, _, _, _, e, _⟩ := x; exact xai e
 | ins C dx fs => obtain ⟨_, _, _, e, _⟩ := x; exact xai e
 | own y => obtain ⟨_, e⟩ := x; exact xai e
 | xd fs => obtain ⟨_, ⟨_, _, _, e, _⟩, _⟩ := x; exact xai e
 | rng lo hi => obtain ⟨_, _, _, e⟩ := x; exact xai e
 | frz ob u => obtain ⟨e, _⟩ := x; exact xai e
 | tbl ps => exact xai (show h.get? a = some _ from x)
 | met f y => exact xai (show h.get? a = some _ from x)
 | ext φ => obtain ⟨_, ⟨_, e⟩, _⟩ := x; exact xai e
theorem Paired.mapP {α β : Type} {F G : α -> β -> Prop} : ∀ {l₁ : List α} {l₂ : List β}, Paired F l₁ l₂ -> (∀ a b, F a b -> G a b) -> Paired G l₁ l₂
 | _, _, .nil, _ => .nil
 | _, _, .cons r t, f => .cons (f _ _ r) (Paired.mapP t f)
theorem zdc.stay (x : zdc P w H h a o) (k : ∀ b u, (b = a \/ H b = some (.own a)) -> h.get? b = some u -> h'.get? b = some u)
  (ho : ∀ b, H b = some (.own a) -> H' b = some (.own a)) (ht : ∀ b xs, H b = some (.tup xs) -> H' b = some (.tup xs)) : zdc P w H' h' a o := by
 induction o with
 | lst xs => obtain ⟨z, its, n, r, e⟩ := x; exact ⟨z, its, n, r, k _ _ (.inl rfl) e⟩
 | tup xs => obtain ⟨z, its, r, ob, e, c⟩ := x; exact ⟨z, its, r, ob, k _ _ (.inl rfl) e, c⟩
 | dK kvs => obtain ⟨z, y, vs, r, ob, es, ep, e, c⟩ := x; exact ⟨z, y, vs, r, ob, es, ep, k _ _ (.inl rfl) e, c⟩
 | dT kvs =>
  obtain ⟨z, y, xs, r, ob, es, ep, e, c⟩ := x
  exact ⟨z, y, xs, Paired.mapP r fun p q z => ⟨z.1, ht _ _ z.2.1, z.2.2⟩, ob, es, ep, k _ _ (.inl rfl) e, c⟩
 | set S n => obtain ⟨ob, es, ep, t, e, c⟩ := x; exact ⟨ob, es, ep, t, k _ _ (.inl rfl) e, c⟩
 | ins C dx fs =>
  obtain ⟨d, z, ne, e, mA, ⟨od, es, ep, e2, c⟩, r⟩ := x
  exact ⟨ho _ d, z, ne, k _ _ (.inl rfl) e, mA, ⟨od, es, ep, k _ _ (.inr d) e2, c⟩, r⟩
 | own y => obtain ⟨ob, e⟩ := x; exact ⟨ob, k _ _ (.inl rfl) e⟩
 | xd fs => obtain ⟨mA, ⟨od, es, ep, e, c⟩, r⟩ := x; exact ⟨mA, ⟨od, es, ep, k _ _ (.inl rfl) e, c⟩, r⟩
 | rng lo hi => obtain ⟨t, u, v, e⟩ := x; exact ⟨t, u, v, k _ _ (.inl rfl) e⟩
 | frz ob u ih => obtain ⟨e, q⟩ := x; exact ⟨k _ _ (.inl rfl) e, ih q⟩
 | tbl ps =>
  have e : h.get? a = some { cls := .none, data := .fields ps } := x
  show h'.get? a = some { cls := .none, data := .fields ps }
  exact k a _ (.inl rfl) e
 | met f y =>
  have e : h.get? a = some (PySem.W.methodObj (.ref f) (.ref y)) := x
  show h'.get? a = some (PySem.W.methodObj (.ref f) (.ref y))
  exact k a _ (.inl rfl) e
 | ext φ => obtain ⟨p, ⟨o, e⟩, st⟩ := x; exact ⟨st _ _ p fun o q => k _ _ (.inl rfl) q, ⟨o, k _ _ (.inl rfl) e⟩, st⟩
theorem HOk.lt (x : HOk P w H h) (e : H a = some o) : a < h.objs.size := (x a o e).lt
theorem HOk.fresh (x : HOk P w H h) (e : h.objs.size <= a) : H a = none := by
 cases q : H a with
 | none => rfl
 | some u => exact absurd (xak (x.lt q) e) (xbh _)
theorem HOk.kept (x : HOk P w H h) (k : ∀ b u, h.get? b = some u -> h'.get? b = some u) : HOk P w H h' := fun a o e =>
 (x a o e).stay (fun b u _ q => k b u q) (fun _ q => q) fun _ _ q => q
theorem HOk.laid (x : HOk P w H h) (k : ∀ b u, h.get? b = some u -> h'.get? b = some u) (hp : h.objs.size <= a) (new : zdc P w (upd H a o) h' a o) : HOk P w (upd H a o) h' := fun b u e => by
 have hn := x.fresh hp
 by_cases hb : b = a
 ·subst hb; rw [zav] at e; cases e; exact new
 ·rw [zap hb] at e
  exact (x b u e).stay (fun c v _ q => k c v q) (fun c q => by rw [zap (zal q hn)]; exact q) fun c xs q => by rw [zap (zal q hn)]; exact q
end
def Rd (H : Hp) (a : Addr) (u : HO) : Prop := H a = some u \/ ∃ o, H a = some (.frz o u)
theorem Rd.ok {P : Program} {w : World} {H : Hp} {h : Heap} {a : Addr} {u : HO} (r : Rd H a u) (x : HOk P w H h) : zdc P w H h a u := by
 rcases r with r | ⟨o, r⟩
 ·exact x a u r
 ·obtain ⟨_, q⟩ := x a _ r
  exact q
def Mut : Option HO -> Prop
 | some (.lst _) => True
 | some (.dK _) => True
 | some (.dT _) => True
 | some (.set _ _) => True
 | some (.ins _ _ _) => True
 | some (.ext _) => True
 | _ => False
section
variable {P : Program} {w : World} {H : Hp} {h h' : Heap} {x e : Addr} {o' : HO}
theorem HOk.write (ok : HOk P w H h) (mu : Mut (H x)) (he : e = x \/ H e = some (.own x)) (k : ∀ b u, b ≠ e -> h.get? b = some u -> h'.get? b = some u) (heo : ∃ u, h'.get? e = some u)
  (new : zdc P w (upd H x o') h' x o') : HOk P w (upd H x o') h' := fun b u q => by
 have nown : ∀ c y, H c = some (.own y) -> c ≠ x := fun c y r z => by subst z; rw [r] at mu; exact mu
 have ntup : ∀ c xs, H c = some (.tup xs) -> c ≠ x := fun c xs r z => by subst z; rw [r] at mu; exact mu
 by_cases hb : b = x
 ·subst hb; rw [zav] at q; cases q; exact new
 ·rw [zap hb] at q
  by_cases hbe : b = e
  ·have q' : H b = some (.own x) := by
    rcases he with z | z
    ·exact absurd (hbe.trans z) hb
    ·rw [hbe]; exact z
   rw [q] at q'; cases q'
   obtain ⟨v, hv⟩ := heo
   exact ⟨v, by rw [hbe]; exact hv⟩
  ·refine (ok b u q).stay (fun c v hc r => k c v ?_ r) (fun c r => by rw [zap (nown c b r)]; exact r) fun c xs r => by rw [zap (ntup c xs r)]; exact r
   rcases hc with rfl | hc
   ·exact hbe
   ·rintro rfl
    rcases he with z | z
    ·exact nown c b hc z
    ·rw [hc] at z; cases z; exact hb rfl
end
structure Un (fs ex : List Addr) (H H' : Hp) (h h' : Heap) : Prop where
 keep : ∀ b o, h.get? b = some o -> H b = none -> b ∉ fs -> b ∉ ex -> h'.get? b = some o
 slot : ∀ b o, h.get? b = some o -> H b = none -> b ∈ fs -> b ∉ ex -> ∃ sl, h'.get? b = some { o with slots := sl }
 free : ∀ b o, h.get? b = some o -> H b = none -> b ∉ ex -> H' b = none
 there : ∀ b o, h.get? b = some o -> b ∉ ex -> ∃ o', h'.get? b = some o'
 tups : ∀ b xs, H b = some (.tup xs) -> H' b = some (.tup xs)
 frzs : ∀ b o u, H b = some (.frz o u) -> H' b = some (.frz o u)
 tbls : ∀ b ps, H b = some (.tbl ps) -> ∃ more, H' b = some (.tbl (ps ++ more))
section
variable {fs fs' ex ex' : List Addr} {H H1 H2 : Hp} {h h1 h2 h' : Heap} {a x e : Addr} {o : HO}
theorem Un.any (u : Un fs ex H H1 h h1) {b : Addr} {ob : Obj} (q : h.get? b = some ob) (n : H b = none) (hx : b ∉ ex) : ∃ sl, h1.get? b = some { ob with slots := sl } := by
 by_cases hb : b ∈ fs
 ·exact u.slot b ob q n hb hx
 ·exact ⟨ob.slots, u.keep b ob q n hb hx⟩
theorem Un.kept (k : ∀ b u, h.get? b = some u -> h'.get? b = some u) : Un fs ex H H h h' :=
 ⟨fun b ob q _ _ _ => k b ob q, fun b ob q _ _ _ => ⟨ob.slots, k b ob q⟩, fun _ _ _ n _ => n, fun b ob q _ => ⟨ob, k b ob q⟩, fun _ _ q => q, fun _ _ _ q => q, fun _ ps q => ⟨#[], by rw [q]; simp⟩⟩
theorem Un.refl : Un fs ex H H h h := Un.kept fun _ _ q => q
theorem Un.laid (k : ∀ b u, h.get? b = some u -> h'.get? b = some u) (hp : h.objs.size <= a) (hn : H a = none) : Un fs ex H (upd H a o) h h' where
 keep := fun b u q _ _ _ => k b u q
 slot := fun b u q _ _ _ => ⟨u.slots, k b u q⟩
 free := fun b u q n _ => by rw [zap (xa0 (xak (xai q) hp))]; exact n
 there := fun b u q _ => ⟨u, k b u q⟩
 tups := fun b xs q => by rw [zap (zal q hn)]; exact q
 frzs := fun b u xs q => by rw [zap (zal q hn)]; exact q
 tbls := fun b ps q => ⟨#[], by rw [zap (zal q hn), q]; simp⟩
theorem Un.write (mu : Mut (H x)) (he : e = x \/ H e = some (.own x)) (k : ∀ b u, b ≠ e -> h.get? b = some u -> h'.get? b = some u) (heo : ∃ u, h'.get? e = some u) : Un fs ex H (upd H x o) h h' := by
 have hx : ∀ b, H b = none -> b ≠ x := fun b n z => by subst z; rw [n] at mu; exact mu
 have hb : ∀ b, H b = none -> b ≠ e := fun b n z => by
  subst z
  rcases he with r | r
  ·exact hx b n r
  ·rw [n] at r; cases r
 have hm : ∀ b u, H b = some u -> ¬ Mut (some u) -> b ≠ x := fun b u q nm z => by subst z; rw [q] at mu; exact nm mu
 refine ⟨fun b u q n _ _ => k b u (hb b n) q, fun b u q n _ _ => ⟨u.slots, k b u (hb b n) q⟩, fun b u q n _ => by rw [zap (hx b n)]; exact n, fun b u q _ => ?_,
  fun b xs q => by rw [zap (hm b _ q fun z => z)]; exact q, fun b u xs q => by rw [zap (hm b _ q fun z => z)]; exact q, fun b ps q => ⟨#[], by rw [zap (hm b _ q fun z => z), q]; simp⟩⟩
 by_cases hbe : b = e
 ·subst hbe; exact heo
 ·exact ⟨u, k b u hbe q⟩
end
def trk (h : Heap) (H : Hp) : List Addr := (List.range h.objs.size).filter fun a => (H a).isSome
def zpl (h : Heap) (H : Hp) : Heap := PySem.W.hideAll h (trk h H)
theorem zm2 (h : Heap) (H : Hp) : (zpl h H).objs.size = h.objs.size := PySem.W.hideAll_size _ _
theorem zpm {h : Heap} {H : Hp} {b : Addr} {o : Obj} (e : h.get? b = some o) (n : H b = none) : (zpl h H).get? b = some o :=
 PySem.W.hideAll_get _ e fun hm => by
  have q : (H b).isSome = true := (xbm.mp hm).2
  rw [n] at q; simp at q
theorem zrG {h : Heap} {H : Hp} {b : Addr} {o : Obj} (e : (zpl h H).get? b = some o) : h.get? b = some o /\ H b = none := by
 have e' : h.get? b = some o := PySem.W.of_hideAll (trk h H) e
 refine ⟨e', ?_⟩
 cases q : H b with
 | none => rfl
 | some x =>
  have hm : b ∈ trk h H := xbm.mpr ⟨xa2.mpr (xai e'), by simp [q]⟩
  have z : (zpl h H).get? b = none := PySem.W.hideAll_none (trk h H) hm
  rw [z] at e; cases e
def zrH (g h : Heap) (L : Addr) : List (Addr × Obj) := (List.range h.objs.size).filterMap fun a => if a = L \/ (g.get? a).isSome = true then none else (h.get? a).map fun o => (a, o)
def zch (g h : Heap) (L d : Addr) : List (Addr × Obj) := (zrH g h L).filter fun p => decide (p.1 ≠ d)
end L2
namespace L2
open PySem.Spec PyProof.Rows
structure Mod (K : xFg) (mg : Str -> Option Value) (base : Heap) : Prop where
 kin : K.In base
 glob : base.Ns mainGlobals mg
 blt : ∃ mb, base.Ns builtinsNs mb /\ ∀ x : Str, x ≠ "__name__" -> mb x = bootBuiltins x
 nolimit : base.NoLimit
structure Cx where
 prog : Program
 w : World
 K : xFg
 mg : Str -> Option Value
 base : Heap
 A : Around
 N : List Str
 s₀ : Shared
 H₀ : Hp
 env : Env
 outer : List Env
 stack : List Env
 ex : List Addr
 fn : Str -> Bool
 calm : Bool
 pn : List (Addr × Obj)
 xe : Value -> Shared -> Prop
def frs (l : List Env) : List Addr := l.filterMap (·.frame)
abbrev Cx.fs (X : Cx) : List Addr := frs X.outer
def Vis (sc : Scope) (x : Str) : Prop := sc.names.lookup x = some .local \/ sc.names.lookup x = some .cell \/ sc.names.lookup x = some .free
def Loc (sc : Scope) (x : Str) : Prop := sc.names.lookup x = some .local \/ sc.names.lookup x = some .cell
def Look (env : Env) (h : Heap) (m : Str -> Option Value) (x : Str) (u : Value) : Prop :=
 (env.kindOf x = some .local /\ m x = some u) \/ ((env.kindOf x = some .cell \/ env.kindOf x = some .free) /\ ∃ c, env.cells.lookup x = some c /\ h.IsCell c (some u))
structure Cx.Ok (X : Cx) : Prop where
 mod : Mod X.K X.mg X.base
 kind : X.env.scope.kind = .function
 glob : X.env.globals = mainGlobals
 blt : X.env.builtins = builtinsNs
 above : X.s₀.heap.objs.size <= X.env.locals
 inj : ∀ x y c, X.env.cells.lookup x = some c -> X.env.cells.lookup y = some c -> x = y
 has : ∀ x, (X.env.kindOf x = some .cell \/ X.env.kindOf x = some .free) -> ∃ c, X.env.cells.lookup x = some c
 cab : ∀ x c, X.fn x = true -> X.env.cells.lookup x = some c -> X.s₀.heap.objs.size <= c
 hd : X.calm = true -> X.A.handled = none
 frames : X.A.frames = some X.stack
 stk : X.stack = X.outer \/ (X.stack = X.env :: X.outer /\ X.env.frame = some X.env.locals)
 exf : ∀ b ∈ X.ex, b ≠ X.env.locals /\ ∀ x c, X.env.cells.lookup x = some c -> c ≠ b
 bs : ∀ b o, X.base.get? b = some o -> X.s₀.heap.get? b = some o /\ X.H₀ b = none
 bsz : X.base.objs.size <= X.s₀.heap.objs.size
 noex : ∀ b o, X.base.get? b = some o -> b ∉ X.ex
 exfs : ∀ b ∈ X.ex, b ∉ X.fs
 funs : X.s₀.heap.FunFrames X.base X.outer
 frf : ∀ b ∈ X.fs, X.H₀ b = none
structure Inv (X : Cx) (pins : List (Addr × Obj)) (Z : List (Option V)) (H : Hp) (s : Shared) : Prop where
 ok : X.Ok
 os : s.os = X.s₀.os
 bare : AllBare s.gens
 base : Un X.fs X.ex X.H₀ H X.s₀.heap s.heap
 loc : ∃ m, s.heap.Ns X.env.locals m /\ ∀ (i : Nat) (x : Str) (v : V), X.N[i]? = some x -> Z[i]? = some (some v) -> Vis X.env.scope x -> ∃ u, RelV v u /\ Look X.env s.heap m x u
 cell : ∀ x c, X.env.cells.lookup x = some c -> ∃ v, s.heap.IsCell c v
 free : H X.env.locals = none
 freeC : ∀ x c, X.env.cells.lookup x = some c -> H c = none
 pin : ∀ p ∈ X.pn ++ pins, s.heap.get? p.1 = some p.2 /\ H p.1 = none /\ p.1 ≠ X.env.locals /\ p.1 ∉ X.fs /\ ∀ v, p.2.data ≠ .cell v
 hok : HOk X.prog X.w H s.heap
 len : Z.length = X.N.length
section
variable {X : Cx} {pins : List (Addr × Obj)} {Z : List (Option V)} {H H' : Hp} {s : Shared} {h' : Heap}
theorem Cx.Ok.nofr (ok : X.Ok) {b : Addr} {o : Obj} (e : X.base.get? b = some o) : b ∉ X.fs := fun hb => by
 have := (ok.funs.mem hb).1
 rw [e] at this; cases this
theorem Inv.bs (I : Inv X pins Z H s) : ∀ b o, X.base.get? b = some o -> s.heap.get? b = some o /\ H b = none := fun b o e =>
 ⟨I.base.keep b o (I.ok.bs b o e).1 (I.ok.bs b o e).2 (I.ok.nofr e) (I.ok.noex b o e), I.base.free b o (I.ok.bs b o e).1 (I.ok.bs b o e).2 (I.ok.noex b o e)⟩
theorem Inv.bk (I : Inv X pins Z H s) : ∀ b o, X.base.get? b = some o -> s.heap.get? b = some o := fun b o e => (I.bs b o e).1
theorem Inv.mod (I : Inv X pins Z H s) : Mod X.K X.mg X.base := I.ok.mod
theorem Inv.kIn (I : Inv X pins Z H s) : X.K.In s.heap := I.ok.mod.kin.keeps I.bk
theorem Inv.fr (I : Inv X pins Z H s) : ∃ m, Fr X.base X.env.locals s.heap m :=
 let ⟨m, hn, _⟩ := I.loc
 ⟨m, hn, I.bk, xba I.ok.bsz I.ok.above⟩
theorem Inv.lt (I : Inv X pins Z H s) : X.env.locals < s.heap.objs.size := let ⟨_, hn, _⟩ := I.loc; hn.lt
theorem Inv.sz (I : Inv X pins Z H s) : X.s₀.heap.objs.size <= s.heap.objs.size := xba I.ok.above (xcp I.lt)
theorem Inv.nofs (I : Inv X pins Z H s) {a : Addr} (h : s.heap.objs.size <= a) : a ∉ X.fs := fun hb => by
 obtain ⟨_, o, ho, _⟩ := I.ok.funs.mem hb
 exact absurd (xak (xai ho) (xba I.sz h)) (xbh _)
theorem Inv.cne (I : Inv X pins Z H s) : ∀ x c, X.env.cells.lookup x = some c -> c ≠ X.env.locals := fun x c e z => by
 obtain ⟨v, o, ho, hd⟩ := I.cell x c e
 obtain ⟨m, ⟨o', es, ep, ho', hd', _⟩, _⟩ := I.loc
 rw [z, ho'] at ho; cases ho; rw [hd'] at hd; cases hd
theorem Inv.funs (I : Inv X pins Z H s) : s.heap.FunFrames X.base X.outer := by
 have all : ∀ (l : List Env), (∀ b ∈ frs l, b ∈ X.fs) -> X.s₀.heap.FunFrames X.base l -> s.heap.FunFrames X.base l := by
  intro l
  induction l with
  | nil => intro _ _; trivial
  | cons env r ih =>
   intro hs hl
   obtain ⟨hk, ⟨L, o, hf, hn, ho, hd⟩, hr⟩ := hl
   have hL : L ∈ X.fs := hs L (by unfold frs; rw [xch, hf]; exact xae)
   obtain ⟨sl, e⟩ := I.base.slot L o ho (I.ok.frf L hL) hL fun z => I.ok.exfs L z hL
   exact ⟨hk, ⟨L, _, hf, hn, e, hd⟩, ih (fun b hb => hs b (by unfold frs; rw [xch, hf]; exact xab _ hb)) hr⟩
 exact all X.outer (fun _ hb => hb) I.ok.funs
theorem Inv.stack (I : Inv X pins Z H s) : s.heap.FunFrames X.base X.stack := by
 rcases I.ok.stk with e | ⟨e, hf⟩
 ·rw [e]; exact I.funs
 ·rw [e]
  obtain ⟨m, hn, _⟩ := I.loc
  refine .cons (by rw [I.ok.kind]; decide) hf hn ?_ I.funs
  exact Heap.get?_none_of_le (xba I.ok.bsz I.ok.above)
theorem Inv.stkSub (I : Inv X pins Z H s) : ∀ b ∈ frs X.stack, b ∈ X.env.locals :: X.fs := fun b hb => by
 rcases I.ok.stk with e | ⟨e, hf⟩
 ·rw [e] at hb; exact xab _ hb
 ·rw [e] at hb
  unfold frs at hb
  rw [xch, hf] at hb
  exact hb
theorem Inv.stkFree (I : Inv X pins Z H s) : ∀ b ∈ frs X.stack, H b = none := fun b hb => by
 rcases xaf.mp (I.stkSub b hb) with e | hb
 ·rw [e]; exact I.free
 ·obtain ⟨_, o, ho, _⟩ := I.ok.funs.mem hb
  exact I.base.free b o ho (I.ok.frf b hb) fun z => I.ok.exfs b z hb
theorem Inv.step {g' : Array GenState} {t' : Nat} {d' : Drawn} {ch : List Addr} (I : Inv X pins Z H s)
  (hch : ∀ b ∈ ch, (b ∈ X.ex \/ X.s₀.heap.objs.size <= b) /\ b ≠ X.env.locals /\ (∀ x c, X.env.cells.lookup x = some c -> c ≠ b) /\ ∀ p ∈ X.pn ++ pins, p.1 ≠ b)
  (keep : ∀ b o, b ≠ X.env.locals -> b ∉ X.fs -> b ∉ ch -> s.heap.get? b = some o -> H b = none -> h'.get? b = some o)
  (slot : ∀ b o, b ≠ X.env.locals -> b ∈ X.fs -> b ∉ ch -> s.heap.get? b = some o -> H b = none -> ∃ sl, h'.get? b = some { o with slots := sl }) (free : ∀ b o, b ∉ ch -> s.heap.get? b = some o -> H b = none -> H' b = none)
  (there : ∀ b o, b ∉ ch -> s.heap.get? b = some o -> ∃ o', h'.get? b = some o')
  (tups : ∀ b xs, H b = some (.tup xs) -> H' b = some (.tup xs)) (frzs : ∀ b o u, H b = some (.frz o u) -> H' b = some (.frz o u)) (tbls : ∀ b ps, H b = some (.tbl ps) -> ∃ more, H' b = some (.tbl (ps ++ more)))
  (ns : ∀ m, s.heap.Ns X.env.locals m -> h'.Ns X.env.locals m) (hok : HOk X.prog X.w H' h') (hg : AllBare g') :
  Inv X pins Z H' { s with heap := h', gens := g', drawn := d', toks := t' } := by
 have neL : ∀ b o, X.s₀.heap.get? b = some o -> b ≠ X.env.locals := fun b o e => xa0 (xak (xai e) I.ok.above)
 have neC : ∀ b o, X.s₀.heap.get? b = some o -> b ∉ X.ex -> b ∉ ch := fun b o e hx hb => by
  rcases (hch b hb).1 with z | z
  ·exact hx z
  ·exact absurd (xak (xai e) z) (xbh _)
 have cellK : ∀ x c, X.env.cells.lookup x = some c -> ∀ v, s.heap.IsCell c v -> h'.IsCell c v := fun x c e v ⟨o, ho, hd⟩ => by
  have nch : c ∉ ch := fun z => (hch c z).2.2.1 x c e rfl
  by_cases hc : c ∈ X.fs
  ·obtain ⟨sl, q⟩ := slot c o (I.cne x c e) hc nch ho (I.freeC x c e)
   exact ⟨_, q, hd⟩
  ·exact ⟨o, keep c o (I.cne x c e) hc nch ho (I.freeC x c e), hd⟩
 refine ⟨I.ok, I.os, hg, ⟨fun b o e n hb hx => ?_, fun b o e n hb hx => ?_, fun b o e n hx => ?_, fun b o e hx => ?_, fun b xs e => tups b xs (I.base.tups b xs e), fun b o xs e => frzs b o xs (I.base.frzs b o xs e), fun b ps e => ?_⟩, ?_, fun x c e => ?_, ?_, fun x c e => ?_, fun p hp => ?_, hok, I.len⟩
 ·exact keep b o (neL b o e) hb (neC b o e hx) (I.base.keep b o e n hb hx) (I.base.free b o e n hx)
 ·obtain ⟨sl, e1⟩ := I.base.slot b o e n hb hx
  obtain ⟨sl', e2⟩ := slot b _ (neL b o e) hb (neC b o e hx) e1 (I.base.free b o e n hx)
  exact ⟨sl', e2⟩
 ·obtain ⟨o', e1⟩ := I.base.there b o e hx
  exact free b o' (neC b o e hx) e1 (I.base.free b o e n hx)
 ·obtain ⟨o', e1⟩ := I.base.there b o e hx
  exact there b o' (neC b o e hx) e1
 ·obtain ⟨m1, e1⟩ := I.base.tbls b ps e
  obtain ⟨m2, e2⟩ := tbls b _ e1
  exact ⟨m1 ++ m2, by rw [e2, Array.append_assoc]⟩
 ·obtain ⟨m, hn, hl⟩ := I.loc
  refine ⟨m, ns m hn, fun i x v e1 e2 e3 => ?_⟩
  obtain ⟨u, r, l⟩ := hl i x v e1 e2 e3
  refine ⟨u, r, ?_⟩
  rcases l with l | ⟨k, c, e, z⟩
  ·exact .inl l
  ·exact .inr ⟨k, c, e, cellK x c e _ z⟩
 ·obtain ⟨v, z⟩ := I.cell x c e
  exact ⟨v, cellK x c e v z⟩
 ·obtain ⟨m, ⟨o, _, _, ho, _⟩, _⟩ := I.loc
  exact free _ o (fun z => (hch _ z).2.1 rfl) ho I.free
 ·obtain ⟨v, o, ho, hd⟩ := I.cell x c e
  exact free c o (fun z => (hch c z).2.2.1 x c e rfl) ho (I.freeC x c e)
 ·obtain ⟨e, n, ne, nf, d⟩ := I.pin p hp
  have nch : p.1 ∉ ch := fun z => (hch p.1 z).2.2.2 p hp rfl
  exact ⟨keep p.1 p.2 ne nf nch e n, free p.1 p.2 nch e n, ne, nf, d⟩
theorem Inv.un {t' : Nat} (I : Inv X pins Z H s) (u : Un X.fs [] H H' s.heap h') (hok : HOk X.prog X.w H' h') : Inv X pins Z H' { s with heap := h', toks := t' } := by
 obtain ⟨m, ⟨o, es, ep, ho, r⟩, _⟩ := id I.loc
 obtain ⟨sl, hL⟩ := u.any ho I.free (by simp)
 exact I.step (g' := s.gens) (d' := s.drawn) (ch := []) (fun _ z => nomatch z) (fun b o _ hb _ e n => u.keep b o e n hb (by simp)) (fun b o _ hb _ e n => u.slot b o e n hb (by simp)) (fun b o _ e n => u.free b o e n (by simp)) (fun b o _ e => u.there b o e (by simp)) u.tups u.frzs u.tbls (fun m' hm => by
  obtain ⟨o', es', ep', ho', r'⟩ := hm
  rw [ho] at ho'; cases ho'
  exact ⟨_, es', ep', hL, r'⟩) hok I.bare
theorem Inv.call {g' : Array GenState} {t' : Nat} {d' : Drawn} {ch : List Addr} (I : Inv X pins Z H s) (u : Un (frs X.stack) ch H H' s.heap h') (hok : HOk X.prog X.w H' h') (hg : AllBare g')
  (hch : ∀ b ∈ ch, (b ∈ X.ex \/ X.s₀.heap.objs.size <= b) /\ b ≠ X.env.locals /\ (∀ x c, X.env.cells.lookup x = some c -> c ≠ b) /\ ∀ p ∈ X.pn ++ pins, p.1 ≠ b) :
  Inv X pins Z H' { s with heap := h', gens := g', drawn := d', toks := t' } := by
 obtain ⟨m, ⟨o, es, ep, ho, r⟩, _⟩ := id I.loc
 obtain ⟨sl, hL⟩ := u.any ho I.free fun z => (hch _ z).2.1 rfl
 exact I.step (ch := ch) hch (fun b o hL hb hc e n => u.keep b o e n (fun z => (xaf.mp (I.stkSub b z)).elim hL hb) hc) (fun b o _ _ hc e n => u.any e n hc) (fun b o hc e n => u.free b o e n hc) (fun b o hc e => u.there b o e hc) u.tups u.frzs u.tbls (fun m' hm => by
  obtain ⟨o', es', ep', ho', r'⟩ := hm
  rw [ho] at ho'; cases ho'
  exact ⟨_, es', ep', hL, r'⟩) hok hg
theorem Inv.turned {t' : Nat} {it : Addr} (I : Inv X pins Z H s) (k : ∀ b o, b ≠ it -> s.heap.get? b = some o -> h'.get? b = some o) (hn : H it = none) (hL : it ≠ X.env.locals)
  (h1 : it ∈ X.ex \/ X.s₀.heap.objs.size <= it) (h2 : ∀ x c, X.env.cells.lookup x = some c -> c ≠ it) (h3 : ∀ p ∈ X.pn ++ pins, p.1 ≠ it) : Inv X pins Z H { s with heap := h', toks := t' } := by
 have nit : ∀ b u, H b = some u -> b ≠ it := fun b u e z => by rw [z, hn] at e; cases e
 refine I.step (g' := s.gens) (d' := s.drawn) (ch := [it]) (fun b hb => ?_) (fun b o _ _ hc e _ => k b o (fun z => hc (by simp [z])) e) (fun b o _ _ hc e _ => ⟨o.slots, k b o (fun z => hc (by simp [z])) e⟩) (fun _ _ _ _ n => n)
  (fun b o hc e => ⟨o, k b o (fun z => hc (by simp [z])) e⟩) (fun _ _ e => e) (fun _ _ _ e => e) (fun b ps e => ⟨#[], by rw [e]; simp⟩) (fun m hm => ?_) (fun b u e => ?_) I.bare
 ·have e : b = it := by simpa using hb
  subst e
  exact ⟨h1, hL, h2, h3⟩
 ·obtain ⟨o, es, ep, ho, r⟩ := hm
  exact ⟨o, es, ep, k _ o (xa3 hL) ho, r⟩
 ·refine (I.hok b u e).stay (fun c v hc q => k c v ?_ q) (fun _ q => q) fun _ _ q => q
  rcases hc with z | z
  ·rw [z]; exact nit b u e
  ·exact nit c _ z
theorem Inv.tok (I : Inv X pins Z H s) (t : Nat) : Inv X pins Z H { s with toks := t } := I.un (h' := s.heap) (t' := t) Un.refl I.hok
theorem Inv.kept {t' : Nat} (I : Inv X pins Z H s) (k : ∀ b u, s.heap.get? b = some u -> h'.get? b = some u) : Inv X pins Z H { s with heap := h', toks := t' } := I.un (Un.kept k) (I.hok.kept k)
theorem Inv.laid {a : Addr} {o : HO} {t' : Nat} (I : Inv X pins Z H s) (k : ∀ b u, s.heap.get? b = some u -> h'.get? b = some u) (hp : s.heap.objs.size <= a) (new : zdc X.prog X.w (upd H a o) h' a o) :
  Inv X pins Z (upd H a o) { s with heap := h', toks := t' } := I.un (Un.laid k hp (I.hok.fresh hp)) (I.hok.laid k hp new)
theorem Inv.write {x e : Addr} {o : HO} {t' : Nat} (I : Inv X pins Z H s) (mu : Mut (H x)) (he : e = x \/ H e = some (.own x)) (k : ∀ b u, b ≠ e -> s.heap.get? b = some u -> h'.get? b = some u) (heo : ∃ u, h'.get? e = some u)
  (new : zdc X.prog X.w (upd H x o) h' x o) : Inv X pins Z (upd H x o) { s with heap := h', toks := t' } := I.un (Un.write mu he k heo) (I.hok.write mu he k heo new)
theorem Inv.weak {Z' : List (Option V)} (I : Inv X pins Z H s) (hl : Z'.length = Z.length) (w : ∀ (i : Nat) v, Z'[i]? = some (some v) -> Z[i]? = some (some v)) : Inv X pins Z' H s :=
 ⟨I.ok, I.os, I.bare, I.base, let ⟨m, hn, hl'⟩ := I.loc; ⟨m, hn, fun i x v e1 e2 e3 => hl' i x v e1 (w i v e2) e3⟩, I.cell, I.free, I.freeC, I.pin, I.hok, hl.trans I.len⟩
theorem Inv.pins_of {pins' : List (Addr × Obj)} (I : Inv X pins Z H s) (h : ∀ p ∈ pins', s.heap.get? p.1 = some p.2 /\ H p.1 = none /\ p.1 ≠ X.env.locals /\ p.1 ∉ X.fs /\ ∀ v, p.2.data ≠ .cell v) : Inv X pins' Z H s :=
 ⟨I.ok, I.os, I.bare, I.base, I.loc, I.cell, I.free, I.freeC, fun p hp => (xb1.mp hp).elim (fun z => I.pin p (List.mem_append_left _ z)) (h p), I.hok, I.len⟩
theorem zhE {N : List Str} (hN : N.Nodup) {i j : Nat} {x : Str} (a : N[i]? = some x) (b : N[j]? = some x) : i = j := by
 obtain ⟨h1, e1⟩ := xah.mp a
 obtain ⟨h2, e2⟩ := xah.mp b
 exact (List.getElem_inj hN).mp (e1.trans e2.symm)
theorem zm3 {M : Model} {A : Around} {E : Value -> Shared -> Prop} {i : Nat} {x : Str} {v : V} {u : Value} {Q : Unit -> Shared -> Prop} (I : Inv X pins Z H s) (hN : X.N.Nodup) (hi : X.N[i]? = some x) (hx : Loc X.env.scope x) (r : RelV v u)
  (h : ∀ s', Inv X pins (Z.set i (some v)) H s' -> (∃ a, Heap.SameBut a s.heap s'.heap /\ (a = X.env.locals \/ X.env.cells.lookup x = some a)) -> Q () s') (hf : X.fn x = true \/ X.env.scope.names.lookup x = some .local := by first | exact .inl rfl | exact .inr rfl | assumption) : wpAny M A (storeName X.env x u) Q E s := by
 obtain ⟨m, hn, hl⟩ := id I.loc
 have hcls : (X.env.scope.kind == .class || (X.env.scope.kind == .module && X.env.locals != X.env.globals)) = false := by rw [I.ok.kind]; rfl
 have hiZ : i < Z.length := by rw [I.len]; exact (xah.mp hi).1
 have cne := I.cne
 have tracked : ∀ {a : Addr} {h' : Heap}, (∃ o, s.heap.get? a = some o /\ H a = none) -> Heap.SameBut a s.heap h' -> HOk X.prog X.w H h' := fun {a h'} ha hs b ob e => by
  obtain ⟨_, _, hfree⟩ := ha
  refine (I.hok b ob e).stay (fun c w' hc q => (hs.2 c ?_).trans q) (fun _ q => q) fun _ _ q => q
  rintro rfl
  rcases hc with rfl | hc
  ·rw [hfree] at e; cases e
  ·rw [hfree] at hc; cases hc
 rcases hx with hk | hk
 ·refine wpAny_storeName_local hk hn (fun h' hn' hs => ?_) hcls
  obtain ⟨oL, _, _, hoL, _⟩ := id hn
  refine h _ ⟨I.ok, I.os, I.bare, ⟨fun b o e n hb hx => ?_, fun b o e n hb hx => ?_, I.base.free, fun b o e hx => ?_, I.base.tups, I.base.frzs, I.base.tbls⟩, ⟨_, hn', fun j y v' e1 e2 e3 => ?_⟩, fun y c e => ?_, I.free, I.freeC, fun p hp => ?_, tracked ⟨oL, hoL, I.free⟩ hs, by simpa using I.len⟩ ⟨_, hs, .inl rfl⟩
  ·exact (hs.2 b (xa0 (xak (xai e) I.ok.above))).trans (I.base.keep b o e n hb hx)
  ·obtain ⟨sl, e1⟩ := I.base.slot b o e n hb hx
   exact ⟨sl, (hs.2 b (xa0 (xak (xai e) I.ok.above))).trans e1⟩
  ·obtain ⟨o', e1⟩ := I.base.there b o e hx
   exact ⟨o', (hs.2 b (xa0 (xak (xai e) I.ok.above))).trans e1⟩
  ·by_cases hj : j = i
   ·subst hj
    rw [hi] at e1; cases e1
    rw [xa5 hiZ] at e2
    cases e2
    exact ⟨u, r, .inl ⟨hk, by simp⟩⟩
   ·rw [xam (xa3 hj)] at e2
    obtain ⟨u', r', q⟩ := hl j y v' e1 e2 e3
    refine ⟨u', r', ?_⟩
    rcases q with ⟨k, e⟩ | ⟨k, c, e, z⟩
    ·refine .inl ⟨k, ?_⟩
     have : y ≠ x := fun e => hj (zhE hN e1 (e ▸ hi))
     simp [this, e]
    ·exact .inr ⟨k, c, e, z.sameBut hs (cne y c e)⟩
  ·obtain ⟨w', z⟩ := I.cell y c e
   exact ⟨w', z.sameBut hs (cne y c e)⟩
  ·obtain ⟨e, n, ne, nf, d⟩ := I.pin p hp
   exact ⟨(hs.2 p.1 ne).trans e, n, ne, nf, d⟩
 ·have hfn : X.fn x = true := by
   rcases hf with z | z
   ·exact z
   ·rw [z] at hk; cases hk
  obtain ⟨c, hc⟩ := I.ok.has x (.inl hk)
  obtain ⟨w', z⟩ := I.cell x c hc
  refine wpAny_storeName_cell I.ok.kind hk hc z (fun h' hc' hs => ?_)
  obtain ⟨oc, hoc, hocd⟩ := id z
  refine h { s with heap := h' } ⟨I.ok, I.os, I.bare, ⟨fun b o e n hb hx => ?_, fun b o e n hb hx => ?_, I.base.free, fun b o e hx => ?_, I.base.tups, I.base.frzs, I.base.tbls⟩, ⟨m, hn.sameBut hs (xa3 (cne x c hc)), fun j y v' e1 e2 e3 => ?_⟩, fun y c' e => ?_, I.free, I.freeC, fun p hp => ?_, tracked ⟨oc, hoc, I.freeC x c hc⟩ hs, by simpa using I.len⟩ ⟨c, hs, .inr hc⟩
  ·exact (hs.2 b (xa0 (xak (xai e) (I.ok.cab x c hfn hc)))).trans (I.base.keep b o e n hb hx)
  ·obtain ⟨sl, e1⟩ := I.base.slot b o e n hb hx
   exact ⟨sl, (hs.2 b (xa0 (xak (xai e) (I.ok.cab x c hfn hc)))).trans e1⟩
  ·obtain ⟨o', e1⟩ := I.base.there b o e hx
   exact ⟨o', (hs.2 b (xa0 (xak (xai e) (I.ok.cab x c hfn hc)))).trans e1⟩
  ·by_cases hj : j = i
   ·subst hj
    rw [hi] at e1; cases e1
    rw [xa5 hiZ] at e2
    cases e2
    exact ⟨u, r, .inr ⟨.inl hk, c, hc, hc'⟩⟩
   ·rw [xam (xa3 hj)] at e2
    obtain ⟨u', r', q⟩ := hl j y v' e1 e2 e3
    refine ⟨u', r', ?_⟩
    rcases q with q | ⟨k, c', e, z'⟩
    ·exact .inl q
    ·refine .inr ⟨k, c', e, z'.sameBut hs ?_⟩
     rintro rfl
     exact hj (zhE hN e1 (I.ok.inj _ _ _ e hc ▸ hi))
  ·by_cases hcc : c' = c
   ·subst hcc; exact ⟨_, hc'⟩
   ·obtain ⟨w2, z2⟩ := I.cell y c' e
    exact ⟨w2, z2.sameBut hs hcc⟩
  ·obtain ⟨e, n, ne, nf, d⟩ := I.pin p hp
   refine ⟨(hs.2 p.1 ?_).trans e, n, ne, nf, d⟩
   intro q
   rw [q, hoc] at e
   have q' : oc = p.2 := Option.some.inj e
   exact d w' (by rw [<- q']; exact hocd)
theorem zd6 {M : Model} {A : Around} {E : Value -> Shared -> Prop} {i : Nat} {x : Str} {v : V} {u : Value} {Q : Unit -> Shared -> Prop} (I : Inv X pins Z H s) (hN : X.N.Nodup) (hi : X.N[i]? = some x) (hx : Loc X.env.scope x) (r : RelV v u)
  (h : ∀ s', Inv X pins (Z.set i (some v)) H s' -> Q () s') (hf : X.fn x = true \/ X.env.scope.names.lookup x = some .local := by first | exact .inl rfl | exact .inr rfl | assumption) : wpAny M A (storeName X.env x u) Q E s :=
 zm3 I hN hi hx r (fun s' I' _ => h s' I') hf
theorem Inv.call' {s' : Shared} {ch : List Addr} (I : Inv X pins Z H s) (ho : s'.os = s.os) (u : Un (frs X.stack) ch H H' s.heap s'.heap) (hok : HOk X.prog X.w H' s'.heap) (hg : AllBare s'.gens)
  (hch : ∀ b ∈ ch, (b ∈ X.ex \/ X.s₀.heap.objs.size <= b) /\ b ≠ X.env.locals /\ (∀ x c, X.env.cells.lookup x = some c -> c ≠ b) /\ ∀ p ∈ X.pn ++ pins, p.1 ≠ b) : Inv X pins Z H' s' := by
 obtain ⟨h', g', d', t', o'⟩ := s'
 have e : o' = s.os := ho
 subst e
 exact I.call (g' := g') (t' := t') (d' := d') u hok hg hch
end
abbrev XK := Value -> Option Addr -> Hp -> Prop
abbrev St := List (Option V)
abbrev VK := V -> Hp -> Prop
abbrev TE := St -> Hp -> VK -> Prop
abbrev TT := St -> Hp -> (Bool -> Hp -> Prop) -> Prop
abbrev TA := St -> Hp -> (List V -> Hp -> Prop) -> Prop
structure zmV where
 nx : St -> Hp -> Prop
 rt : VK
 bk : St -> Hp -> Prop := fun _ _ => False
 ct : St -> Hp -> Prop := fun _ _ => False
abbrev TS := zmV -> St -> Hp -> Prop
def EP (X : Cx) (pins : List (Addr × Obj)) (Z : St) (Q : VK) (u : Value) (s' : Shared) : Prop := ∃ v H', Inv X pins Z H' s' /\ RelV v u /\ Q v H'
def TP (X : Cx) (pins : List (Addr × Obj)) (Z : St) (Q : Bool -> Hp -> Prop) (b : Bool) (s' : Shared) : Prop := ∃ H', Inv X pins Z H' s' /\ Q b H'
def AP (X : Cx) (pins : List (Addr × Obj)) (Z : St) (Q : List V -> Hp -> Prop) (us : List Value) (s' : Shared) : Prop := ∃ vs H', Inv X pins Z H' s' /\ zbf vs us /\ Q vs H'
def SP (X : Cx) (pins : List (Addr × Obj)) (D : zmV) (f : Flow) (s' : Shared) : Prop :=
 match f with
 | .next => ∃ Z' H', Inv X pins Z' H' s' /\ D.nx Z' H'
 | .brk => ∃ Z' H', Inv X pins Z' H' s' /\ D.bk Z' H'
 | .cont => ∃ Z' H', Inv X pins Z' H' s' /\ D.ct Z' H'
 | .ret u => ∃ v Z' H', Inv X pins Z' H' s' /\ RelV v u /\ D.rt v H'
def PE (X : Cx) (e : Expr) (t : TE) : Prop :=
 ∀ (pins : List (Addr × Obj)) (s : Shared) (Z : St) (H : Hp) (Q : VK), Inv X pins Z H s -> t Z H Q -> wpAny (model X.prog X.w) X.A (eval e X.env) (EP X pins Z Q) X.xe s
def PT (X : Cx) (e : Expr) (t : TT) : Prop :=
 ∀ (pins : List (Addr × Obj)) (s : Shared) (Z : St) (H : Hp) (Q : Bool -> Hp -> Prop), Inv X pins Z H s -> t Z H Q -> wpAny (model X.prog X.w) X.A (isTrue e X.env (eval e X.env)) (TP X pins Z Q) X.xe s
def PW (X : Cx) (e : Expr) (t : TT) : Prop :=
 ∀ (whole : Sem Value) (pins : List (Addr × Obj)) (s : Shared) (Z : St) (H : Hp) (Q : Bool -> Hp -> Prop), Inv X pins Z H s -> t Z H Q -> wpAny (model X.prog X.w) X.A (isTrue e X.env whole) (TP X pins Z Q) X.xe s
def PA (X : Cx) (es : List Expr) (t : TA) : Prop :=
 ∀ (pos : Pos) (pins : List (Addr × Obj)) (s : Shared) (Z : St) (H : Hp) (Q : List V -> Hp -> Prop), Inv X pins Z H s -> t Z H Q -> wpAny (model X.prog X.w) X.A (spliced (backTo pos (starEach es X.env))) (AP X pins Z Q) X.xe s
def PS (X : Cx) (st : Stmt) (t : TS) : Prop :=
 ∀ (pins : List (Addr × Obj)) (s : Shared) (Z : St) (H : Hp) (D : zmV), Inv X pins Z H s -> t D Z H -> wpAny (model X.prog X.w) X.A (exec st X.env) (SP X pins D) X.xe s
def PSs (X : Cx) (st : List Stmt) (t : TS) : Prop :=
 ∀ (pins : List (Addr × Obj)) (s : Shared) (Z : St) (H : Hp) (D : zmV), Inv X pins Z H s -> t D Z H -> wpAny (model X.prog X.w) X.A (execs st X.env) (SP X pins D) X.xe s
theorem thn {α : Type} {t : Sem α} {Q Q' : α -> Shared -> Prop} {M : Model} {A : Around} {E : Value -> Shared -> Prop} {s : Shared} (h : wpAny M A t Q E s) (hQ : ∀ a s, Q a s -> Q' a s) : wpAny M A t Q' E s := wpAny_mono h hQ fun _ _ x => x
end L2
namespace L2
open PySem.Spec PyProof.Rows
section
variable {X : Cx}
theorem bin {a b : Expr} {ta tb : TE} (ha : PE X a ta) (hb : PE X b tb) {pins : List (Addr × Obj)} {s : Shared} {Z : St} {H : Hp} {R : V -> V -> Hp -> Prop} (I : Inv X pins Z H s) (h : ta Z H fun x H1 => tb Z H1 fun y H2 => R x y H2)
  {α : Type} {Q : α -> Shared -> Prop} {f : Value -> Value -> Sem α}
  (hf : ∀ v u s2 x y H2, Inv X pins Z H2 s2 -> RelV x v -> RelV y u -> R x y H2 -> wpAny (model X.prog X.w) X.A (f v u) Q X.xe s2) :
  wpAny (model X.prog X.w) X.A (eval a X.env) (fun v s₁ => wpAny (model X.prog X.w) X.A (eval b X.env) (fun u s₂ => wpAny (model X.prog X.w) X.A (f v u) Q X.xe s₂) X.xe s₁) X.xe s := by
 refine thn (ha pins s Z H _ I h) fun v s1 ⟨x, H1, I1, r1, q1⟩ => ?_
 refine thn (hb pins s1 Z H1 _ I1 q1) fun u s2 ⟨y, H2, I2, r2, q2⟩ => ?_
 exact hf v u s2 x y H2 I2 r1 r2 q2
def tVar (i : Nat) : TE := fun Z H Q => ∃ v, Z[i]? = some (some v) /\ Q v H
def tC (v : V) : TE := fun _ H Q => Q v H
theorem zte {i : Nat} {x : Str} {pos : Pos} (hN : X.N[i]? = some x) (hv : Vis X.env.scope x) (hd : (x == ("__debug__" : Str)) = false := by decide) (hcd : (x == ("__classdict__" : Str)) = false := by decide) : PE X (.Name x pos) (tVar i) := by
 intro pins s Z H Q I h
 obtain ⟨v, e, h⟩ := h
 obtain ⟨m, hn, hl⟩ := I.loc
 obtain ⟨u, r, l⟩ := hl i x v hN e hv
 have fin : EP X pins Z Q u s := ⟨v, H, I, r, h⟩
 rcases l with ⟨hk, hm⟩ | ⟨hk, c, hc, hcell⟩
 ·exact wpAny_Name (wpAny_loadName_local I.ok.kind hk hn hm fin) hd
 ·rcases hk with hk | hk
  ·exact wpAny_Name (wpAny_loadName_cell I.ok.kind hk hc hcell fin) hd
  ·exact wpAny_Name (wpAny_loadName_free I.ok.kind hk hc hcell fin hcd) hd
theorem ztf {i j pos} : PE X (.Constant (.int i) j pos) (tC (.int i)) := fun _ _ _ H _ I h => wpAny_Constant_int ⟨.int i, H, I.tok _, ⟨_, rfl⟩, h⟩
theorem zvl {b j pos} : PE X (.Constant (.bool b) j pos) (tC (.bl b)) := fun _ _ _ H _ I h => Constant_bool ⟨.bl b, H, I, rfl, h⟩
theorem ztg {j pos} : PE X (.Constant .none j pos) (tC .non) := fun _ _ _ H _ I h => Constant_none ⟨.non, H, I, rfl, h⟩
theorem zth {x j pos} : PE X (.Constant (.str x) j pos) (tC (.str x)) := fun _ _ _ H _ I h => Calls.Constant_str ⟨.str x, H, I.tok _, ⟨_, rfl⟩, h⟩
def Gl (X : Cx) (x : Str) : Prop := X.env.kindOf x = some .globalImplicit
theorem zf2 {E : Value -> Shared -> Prop} {pins : List (Addr × Obj)} {s : Shared} {Z : St} {H : Hp} {x : Str} {u : Value} {pos : Pos} {Q : Value -> Shared -> Prop} (I : Inv X pins Z H s) (hg : Gl X x) (hm : X.mg x = some u) (h : Q u s)
  (hd : (x == ("__debug__" : Str)) = false := by decide) : wpAny (model X.prog X.w) X.A (eval (.Name x pos) X.env) Q E s :=
 Calls.Name_function_global I.ok.kind hg (Calls.loadGlobal_global (by rw [I.ok.glob]; exact I.mod.glob.keeps I.bk) hm h) hd
theorem zkH {E : Value -> Shared -> Prop} {pins : List (Addr × Obj)} {s : Shared} {Z : St} {H : Hp} {x : Str} {u : Value} {pos : Pos} {Q : Value -> Shared -> Prop} (I : Inv X pins Z H s) (hg : Gl X x) (hm : X.mg x = none) (hv : bootBuiltins x = some u) (h : Q u s)
  (hn : x ≠ "__name__" := by decide) (hd : (x == ("__debug__" : Str)) = false := by decide) : wpAny (model X.prog X.w) X.A (eval (.Name x pos) X.env) Q E s := by
 obtain ⟨mb, h1, h2⟩ := I.mod.blt
 exact Calls.Name_function_global I.ok.kind hg (Calls.loadGlobal_builtin (by rw [I.ok.glob]; exact I.mod.glob.keeps I.bk) hm (by rw [I.ok.blt]; exact h1.keeps I.bk) ((h2 x hn).trans hv) h) hd
theorem zrI {x : Str} {v : V} {u : Value} {pos : Pos} (hg : Gl X x) (hm : X.mg x = some u) (r : RelV v u) (hd : (x == ("__debug__" : Str)) = false := by decide) : PE X (.Name x pos) (tC v) :=
 fun _ _ _ H _ I h => zf2 I hg hm ⟨v, H, I, r, h⟩ hd
theorem zrJ {x : Str} {v : V} {u : Value} {pos : Pos} (hg : Gl X x) (hm : X.mg x = none) (hv : bootBuiltins x = some u) (r : RelV v u) (hn : x ≠ "__name__" := by decide) (hd : (x == ("__debug__" : Str)) = false := by decide) : PE X (.Name x pos) (tC v) :=
 fun _ _ _ H _ I h => zkH I hg hm hv ⟨v, H, I, r, h⟩ hn hd
variable {a b : Expr} {ta tb : TE} {pos : Pos}
def PC (X : Cx) (op : CmpOp) (a b : Expr) (t : TE) : Prop :=
 ∀ (pins : List (Addr × Obj)) (s : Shared) (Z : St) (H : Hp) (Q : VK), Inv X pins Z H s -> t Z H Q ->
  wpAny (model X.prog X.w) X.A (eval a X.env) (fun v s₁ => wpAny (model X.prog X.w) X.A (eval b X.env) (fun u s₂ => wpAny (model X.prog X.w) X.A (compareOp op v u) (EP X pins Z Q) X.xe s₂) X.xe s₁) X.xe s
theorem zak (b : Expr) {op : CmpOp} (h : op ≠ .In) (h2 : op ≠ .NotIn) : behindInMarks op b = false := by
 have e1 : (op == CmpOp.In) = false := by cases op <;> first | rfl | exact absurd rfl h
 have e2 : (op == CmpOp.NotIn) = false := by cases op <;> first | rfl | exact absurd rfl h2
 cases b <;> simp [behindInMarks, e1, e2]
def tB (t : TE) : TT := fun Z H Q => t Z H fun x H1 => ∃ c, x = .bl c /\ Q c H1
theorem pt_cmp {op : CmpOp} {t : TE} (h : PC X op a b t) (h1 : behindInMarks op b = false := by first | exact zak _ (by decide) (by decide) | rfl) : PT X (.Compare a [op] [b] pos) (tB t) := by
 intro pins s Z H Q I hw
 refine wpAny_isTrue_Compare1 (thn (h pins s Z H _ I hw) fun v s1 h1 => thn h1 fun u s2 h2 => thn h2 fun c s3 ⟨x, H1, I1, r1, q1⟩ => ?_) h1
 obtain ⟨d, rfl, q⟩ := q1
 cases r1
 exact wpAny_truthy_bool ⟨H1, I1, q⟩
theorem zti {e : Expr} {t : TE} (h : PE X e t) (he : ∀ whole, isTrue e X.env whole = (do let v <- whole; standAt e.pos; holding [v] (truthy v)) := by intro _; rfl) : PT X e (tB t) := by
 intro pins s Z H Q I hw
 refine isTrue_plain (thn (h pins s Z H _ I hw) fun v s1 ⟨x, H1, I1, r1, q1⟩ => ?_) (he _)
 obtain ⟨d, rfl, q⟩ := q1
 cases r1
 exact wpAny_truthy_bool ⟨H1, I1, q⟩
variable {tA tB' : TT} {zch : List Expr}
def tAnd (t u : TT) : TT := fun Z H Q => t Z H fun c H1 => if c = true then u Z H1 Q else Q false H1
def tOr (t u : TT) : TT := fun Z H Q => t Z H fun c H1 => if c = true then Q true H1 else u Z H1 Q
def tNot (t : TT) : TT := fun Z H Q => t Z H fun c H1 => Q (!c) H1
theorem zrK (ha : PT X a tA) : PW X (.BoolOp .And [a] pos) tA := by
 intro wh pins s Z H Q I h
 refine isTrue_and (thn (ha pins s Z H Q I h) fun c s1 e => ?_)
 cases c with
 | true => exact isTrue_and_nil e
 | false => exact e
theorem ztj (ha : PT X a tA) : PW X (.BoolOp .Or [a] pos) tA := by
 intro wh pins s Z H Q I h
 refine isTrue_or (thn (ha pins s Z H Q I h) fun c s1 e => ?_)
 cases c with
 | false => exact isTrue_or_nil e
 | true => exact e
theorem ztk (ha : PT X a tA) (hb : PW X (.BoolOp .And (b :: zch) pos) tB') : PW X (.BoolOp .And (a :: b :: zch) pos) (tAnd tA tB') := by
 intro wh pins s Z H Q I h
 refine isTrue_and (thn (ha pins s Z H _ I h) fun c s1 ⟨H1, I1, q1⟩ => ?_)
 cases c with
 | true => exact hb wh pins s1 Z H1 Q I1 q1
 | false => exact ⟨H1, I1, q1⟩
theorem zvm (ha : PT X a tA) (hb : PW X (.BoolOp .Or (b :: zch) pos) tB') : PW X (.BoolOp .Or (a :: b :: zch) pos) (tOr tA tB') := by
 intro wh pins s Z H Q I h
 refine isTrue_or (thn (ha pins s Z H _ I h) fun c s1 ⟨H1, I1, q1⟩ => ?_)
 cases c with
 | true => exact ⟨H1, I1, q1⟩
 | false => exact hb wh pins s1 Z H1 Q I1 q1
theorem ztl (ha : PT X a tA) : PT X (.UnaryOp .Not a pos) (tNot tA) := by
 intro pins s Z H Q I h
 exact isTrue_not (ha pins s Z H (fun c H1 => Q (!c) H1) I h)
def zvn (ta tb : TE) : TE := fun Z H Q => ta Z H fun x H1 => ∃ c, x = .bl c /\ if c = true then tb Z H1 Q else Q (.bl false) H1
def zvo (ta : TE) : TE := fun Z H Q => ta Z H fun x H1 => ∃ c, x = .bl c /\ Q (.bl (!c)) H1
theorem ztm {op} {t : TE} (h : PE X a t) : PE X (.BoolOp op [a] pos) t := fun pins s Z H Q I hw => BoolOp_one (h pins s Z H Q I hw)
theorem ztn (ha : PE X a ta) (hb : PE X (.BoolOp .And (b :: zch) pos) tb) : PE X (.BoolOp .And (a :: b :: zch) pos) (zvn ta tb) := by
 intro pins s Z H Q I h
 refine BoolOp_and (thn (ha pins s Z H _ I h) fun v s1 ⟨x, H1, I1, r1, q1⟩ => ?_)
 obtain ⟨c, rfl, q1⟩ := q1
 cases r1
 refine wpAny_truthy_bool ?_
 cases c with
 | true => exact hb pins s1 Z H1 Q I1 q1
 | false => exact ⟨.bl false, H1, I1, rfl, q1⟩
theorem zto (ha : PE X a ta) : PE X (.UnaryOp .Not a pos) (zvo ta) := by
 intro pins s Z H Q I h
 refine UnaryOp_ (thn (ha pins s Z H _ I h) fun v s1 ⟨x, H1, I1, r1, q1⟩ => ?_)
 obtain ⟨c, rfl, q1⟩ := q1
 cases r1
 exact not_of (wpAny_truthy_bool ⟨.bl (!c), H1, I1, rfl, q1⟩)
end
end L2
namespace L2
open PySem.Spec PyProof.Rows
def SqL (K : xFg) (H : Hp) (a : Addr) (xs : List V) : Prop :=
 Rd H a (.lst xs) \/
  ∃ (o : Obj) (its : Array Value) (n : Nat), K.lookup a = some o /\ o.cls = .type "list" /\ o.dict = none /\ o.data = .seq its n /\ its.size <= sizeLine /\ zbf xs its.toList
def SqT (K : xFg) (H : Hp) (a : Addr) (xs : List V) : Prop :=
 Rd H a (.tup xs) \/
  ∃ (o : Obj) (its : Array Value) (n : Nat), K.lookup a = some o /\ o.cls = .type "tuple" /\ o.data = .seq its n /\ its.size <= sizeLine /\ zbf xs its.toList
def absV : Value -> Option V
 | .none => some .non
 | .bool b => some (.bl b)
 | .int i _ => some (.int i)
 | .str x _ => some (.str x)
 | .bytes b _ => some (.byt b)
 | .float b _ => some (.flt b)
 | .ref a => some (.ref a)
 | .type n => some (.ty n)
 | _ => none
theorem RelV.abs {x : V} {u : Value} (r : RelV x u) : absV u = some x := by
 cases x with
 | non => cases r; rfl
 | bl _ => cases r; rfl
 | int _ => obtain ⟨t, rfl⟩ := r; rfl
 | str _ => obtain ⟨t, rfl⟩ := r; rfl
 | byt _ => obtain ⟨t, rfl⟩ := r; rfl
 | flt _ => obtain ⟨t, rfl⟩ := r; rfl
 | ref _ => cases r; rfl
 | ty _ => cases r; rfl
theorem RelV.inj {x y : V} {u : Value} (r : RelV x u) (q : RelV y u) : x = y := Option.some.inj (r.abs.symm.trans q.abs)
theorem zbf.inj : ∀ {xs ys : List V} {us : List Value}, zbf xs us -> zbf ys us -> xs = ys
 | _, _, _, .nil, .nil => rfl
 | _, _, _, .cons r t, .cons r' t' => by rw [r.inj r', zbf.inj t t']
section
variable {X : Cx} {pins : List (Addr × Obj)} {Z : St} {H : Hp} {s : Shared} {a : Addr} {xs ys : List V}
theorem SqL.of {K : xFg} (h : H a = some (.lst xs)) : SqL K H a xs := .inl (.inl h)
theorem SqT.of {K : xFg} (h : H a = some (.tup xs)) : SqT K H a xs := .inl (.inl h)
theorem Inv.list (I : Inv X pins Z H s) (h : SqL X.K H a xs) : ∃ its : List Value, zbf xs its /\ PlainL s.heap a its.toArray /\ xs.length <= sizeLine := by
 rcases h with h | ⟨o, its, n, hk, hc, hd, hs, hz, r⟩
 ·obtain ⟨z, its, n, r, e⟩ := h.ok I.hok
  exact ⟨its, r, ⟨_, n, e, rfl, rfl, rfl⟩, z⟩
 ·refine ⟨its.toList, r, ⟨o, n, I.kIn a o hk, hc, hd, by simpa using hs⟩, ?_⟩
  have e := r.length
  simp only [xan] at e
  omega
theorem Inv.tuple (I : Inv X pins Z H s) (h : SqT X.K H a xs) : ∃ its : List Value, zbf xs its /\ IsTup s.heap a its.toArray /\ xs.length <= sizeLine := by
 rcases h with h | ⟨o, its, n, hk, hc, hs, hz, r⟩
 ·obtain ⟨z, its, r, p⟩ := h.ok I.hok
  exact ⟨its, r, p, z⟩
 ·refine ⟨its.toList, r, ⟨o, I.kIn a o hk, hc, n, by simpa using hs⟩, ?_⟩
  have e := r.length
  simp only [xan] at e
  omega
theorem Inv.list_inj (I : Inv X pins Z H s) (h : SqL X.K H a xs) (h' : SqL X.K H a ys) : xs = ys := by
 obtain ⟨its, r, ⟨o, n, e, _, _, d⟩, _⟩ := I.list h
 obtain ⟨its', r', ⟨o', n', e', _, _, d'⟩, _⟩ := I.list h'
 rw [e] at e'; cases e'
 rw [d] at d'
 injection d' with d1 _
 have : its = its' := by simpa using congrArg Array.toList d1
 subst this
 exact r.inj r'
theorem Inv.tuple_inj (I : Inv X pins Z H s) (h : SqT X.K H a xs) (h' : SqT X.K H a ys) : xs = ys := by
 obtain ⟨its, r, ⟨o, e, _, n, d⟩, _⟩ := I.tuple h
 obtain ⟨its', r', ⟨o', e', _, n', d'⟩, _⟩ := I.tuple h'
 rw [e] at e'; cases e'
 rw [d] at d'
 injection d' with d1 _
 have : its = its' := by simpa using congrArg Array.toList d1
 subst this
 exact r.inj r'
end
abbrev Cx.wish (X : Cx) (E : Value -> Shared -> Prop) : Cx := { X with xe := E }
abbrev Cx.nox (X : Cx) : Cx := X.wish fun _ _ => False
theorem Cx.Ok.wish {X : Cx} (ok : X.Ok) (E : Value -> Shared -> Prop) : (X.wish E).Ok :=
 ⟨ok.mod, ok.kind, ok.glob, ok.blt, ok.above, ok.inj, ok.has, ok.cab, ok.hd, ok.frames, ok.stk, ok.exf, ok.bs, ok.bsz, ok.noex, ok.exfs, ok.funs, ok.frf⟩
theorem Cx.Ok.unwish {X : Cx} {E : Value -> Shared -> Prop} (ok : (X.wish E).Ok) : X.Ok :=
 ⟨ok.mod, ok.kind, ok.glob, ok.blt, ok.above, ok.inj, ok.has, ok.cab, ok.hd, ok.frames, ok.stk, ok.exf, ok.bs, ok.bsz, ok.noex, ok.exfs, ok.funs, ok.frf⟩
section
variable {X : Cx} {pins : List (Addr × Obj)} {Z : St} {H : Hp} {s : Shared} {E : Value -> Shared -> Prop}
theorem Inv.wish (I : Inv X pins Z H s) (E : Value -> Shared -> Prop) : Inv (X.wish E) pins Z H s := ⟨I.ok.wish E, I.os, I.bare, I.base, I.loc, I.cell, I.free, I.freeC, I.pin, I.hok, I.len⟩
theorem Inv.unwish (I : Inv (X.wish E) pins Z H s) : Inv X pins Z H s := ⟨I.ok.unwish, I.os, I.bare, I.base, I.loc, I.cell, I.free, I.freeC, I.pin, I.hok, I.len⟩
end
section
variable {X : Cx} {st : Stmt} {zch : List Stmt} {t u : TS} {e : Expr} {te : TE} {pos : Pos}
def zvp : TS := fun D Z H => D.nx Z H
def tSeq (t u : TS) : TS := fun D Z H => t { D with nx := u D } Z H
theorem zrL : PSs X [] zvp := fun _ _ Z H _ I h => wpAny_execs_nil ⟨Z, H, I, h⟩
theorem zpn (h1 : PS X st t) (h2 : PSs X zch u) : PSs X (st :: zch) (tSeq t u) := by
 intro pins s Z H D I h
 refine wpAny_execs_cons (thn (h1 pins s Z H { D with nx := u D } I h) fun f s1 q => ?_)
 cases f with
 | next =>
  obtain ⟨Z', H', I', q⟩ := q
  exact h2 pins s1 Z' H' D I' q
 | ret v => exact q
 | brk => exact q
 | cont => exact q
theorem zrM (h1 : PS X st t) : PSs X [st] t := by
 intro pins s Z H D I h
 refine wpAny_execs_cons (thn (h1 pins s Z H D I h) fun f s1 q => ?_)
 cases f with
 | next => exact wpAny_execs_nil q
 | ret v => exact q
 | brk => exact q
 | cont => exact q
theorem Inv.quiet {pins : List (Addr × Obj)} {Z : St} {H : Hp} {s : Shared} (I : Inv X pins Z H s) : interactive X.env = false := by simp [interactive, I.ok.kind]
def zvq (te : TE) : TS := fun D Z H => te Z H fun _ H1 => D.nx Z H1
theorem zrN (he : PE X e te) (hs : swapsWith e none pos.line X.env = pure false := by rfl) : PS X (.Expr e pos) (zvq te) := by
 intro pins s Z H D I h
 exact wpAny_Expr_any (thn (he pins s Z H _ I h) fun v s1 ⟨x, H1, I1, r1, q1⟩ => ⟨Z, H1, I1, q1⟩) I.quiet hs
def tRet (te : TE) : TS := fun D Z H => te Z H D.rt
theorem ztp (he : PE X e te) : PS X (.Return (some e) pos) (tRet te) := by
 intro pins s Z H D I h
 exact wpAny_Return_some (thn (he pins s Z H _ I h) fun v s1 ⟨x, H1, I1, r1, q1⟩ => ⟨x, Z, H1, I1, r1, q1⟩)
def tIfS (c : TT) (t u : TS) : TS := fun D Z H => c Z H fun b H1 => if b = true then t D Z H1 else u D Z H1
theorem zvr {c : Expr} {a b : List Stmt} {tc : TT} (hc : PT X c tc) (ha : PSs X a t) (hb : PSs X b u) : PS X (.If c a b pos) (tIfS tc t u) := by
 intro pins s Z H D I h
 refine wpAny_If (thn (hc pins s Z H _ I h) fun d s1 ⟨H1, I1, q1⟩ => ?_)
 cases d with
 | true => exact ha pins s1 Z H1 D I1 q1
 | false => exact hb pins s1 Z H1 D I1 q1
def ztq : TS := fun _ _ _ => False
theorem zpo : PS X st ztq := fun _ _ _ _ _ _ h => h.elim
end
abbrev TG := V -> St -> Hp -> (St -> Hp -> Prop) -> Prop
abbrev TGs := List V -> St -> Hp -> (St -> Hp -> Prop) -> Prop
def PG (X : Cx) (target : Expr) (t : TG) : Prop :=
 ∀ (pins : List (Addr × Obj)) (s : Shared) (Z : St) (H : Hp) (v : V) (u : Value) (Q : St -> Hp -> Prop), Inv X pins Z H s -> RelV v u -> t v Z H Q ->
  wpAny (model X.prog X.w) X.A (assign target X.env u) (fun _ s' => ∃ Z' H', Inv X pins Z' H' s' /\ Q Z' H') X.xe s
def PGs (X : Cx) (ts : List Expr) (t : TGs) : Prop :=
 ∀ (pins : List (Addr × Obj)) (s : Shared) (Z : St) (H : Hp) (vs : List V) (us : List Value) (Q : St -> Hp -> Prop), Inv X pins Z H s -> zbf vs us -> t vs Z H Q ->
  wpAny (model X.prog X.w) X.A (assignInOrder ((assignEach ts X.env).map (·.2)) us) (fun _ s' => ∃ Z' H', Inv X pins Z' H' s' /\ Q Z' H') X.xe s
abbrev TSet := V -> V -> V -> Hp -> (Hp -> Prop) -> Prop
def PSet (X : Cx) (t : TSet) : Prop :=
 ∀ (pins : List (Addr × Obj)) (s : Shared) (Z : St) (H : Hp) (o i v : V) (ov iv u : Value) (Q : Hp -> Prop), Inv X pins Z H s -> RelV o ov -> RelV i iv -> RelV v u -> t o i v H Q ->
  wpAny (model X.prog X.w) X.A (setItem ov iv u) (fun _ s' => ∃ H', Inv X pins Z H' s' /\ Q H') X.xe s
section
variable {X : Cx} {pos : Pos}
def ziu (i : Nat) : TG := fun v Z H Q => Q (Z.set i (some v)) H
theorem zcA {i : Nat} {x : Str} (hN : X.N.Nodup) (hi : X.N[i]? = some x) (hx : Loc X.env.scope x) (hf : X.fn x = true \/ X.env.scope.names.lookup x = some .local := by first | exact .inl rfl | exact .inr rfl | assumption) : PG X (.Name x pos) (ziu i) := by
 intro pins s Z H v u Q I r h
 exact wpAny_assign_Name (zd6 I hN hi hx r (fun s' I' => ⟨_, H, I', h⟩) hf)
def gNil : TGs := fun vs Z H Q => vs = [] /\ Q Z H
def ztr (t : TG) (u : TGs) : TGs := fun vs Z H Q => ∃ v r, vs = v :: r /\ t v Z H fun Z' H' => u r Z' H' Q
theorem zj4 : PGs X [] gNil := by
 intro pins s Z H vs us Q I r h
 obtain ⟨e, h⟩ := h
 subst e
 cases r
 exact assignInOrder_nil ⟨Z, H, I, h⟩
theorem zb4 {e : Expr} {es : List Expr} {t : TG} {u : TGs} (h1 : PG X e t) (h2 : PGs X es u)
  (hs : (assignEach (e :: es) X.env).map (·.2) = assign e X.env :: (assignEach es X.env).map (·.2) := by rfl) : PGs X (e :: es) (ztr t u) := by
 intro pins s Z H vs us Q I r h
 obtain ⟨v, vr, e1, h⟩ := h
 subst e1
 cases r with
 | cons r rr =>
  rw [hs]
  refine assignInOrder_cons (thn (h1 pins s Z H _ _ _ I r h) fun _ s1 ⟨Z1, H1, I1, q1⟩ => ?_)
  exact h2 pins s1 Z1 H1 _ _ Q I1 rr q1
def gTup (K : xFg) (n : Nat) (t : TGs) : TG := fun v Z H Q => ∃ a xs, v = .ref a /\ SqT K H a xs /\ xs.length = n /\ t xs Z H Q
theorem zts {es : List Expr} {k : Nat} {t : TGs} {n : Nat} (hc : X.calm = true) (h : PGs X es t)
  (hn : (assignEach es X.env).length = n := by rfl) (hst : (assignEach es X.env).findIdx? (·.1) = none := by rfl) : PG X (.Tuple es k pos) (gTup X.K n t) := by
 intro pins s Z H v u Q I r hw
 obtain ⟨a, xs, e1, hq, hl, hw⟩ := hw
 subst e1
 cases r
 obtain ⟨its, rv, ht, hz⟩ := I.tuple hq
 refine assign_Tuple_tuple (I.ok.hd hc) ht (by simp [hn, <- hl, rv.length]) hst fun h' hx => ?_
 have I1 : Inv X pins Z H { s with heap := h' } := I.kept (t' := s.toks) fun b o e => hx b o (xa0 (xai e)) e
 exact h pins _ Z H xs _ Q I1 (by simpa using rv) hw
def gSub (to ti : TE) (t : TSet) : TG := fun v Z H Q => to Z H fun o H1 => ti Z H1 fun i H2 => t o i v H2 fun H3 => Q Z H3
theorem zqt {o i : Expr} {to ti : TE} {t : TSet} (ho : PE X o to) (hi : PE X i ti) (hs : PSet X t)
  (ha : ∀ v, assign (.Subscript o i pos) X.env v = (do
   let ov <- holding [v] (eval o X.env)
   let iv <- holding [v, ov] (eval i X.env)
   standAt pos
   holding [v, ov, iv] (setItem ov iv v)
   release [v, ov, iv] []) := by intro _; rfl) : PG X (.Subscript o i pos) (gSub to ti t) := by
 intro pins s Z H v u Q I r h
 rw [ha]
 refine wpAny_bind (wpAny_holding (thn (ho pins s Z H _ I h) fun ov s1 ⟨x, H1, I1, r1, q1⟩ => ?_))
 refine wpAny_bind (wpAny_holding (thn (hi pins s1 Z H1 _ I1 q1) fun iv s2 ⟨y, H2, I2, r2, q2⟩ => ?_))
 refine wpAny_bind (wpAny_standAt (wpAny_bind (wpAny_holding (thn (hs pins s2 Z H2 x y v ov iv u _ I2 r1 r2 r q2) fun _ s3 ⟨H3, I3, q3⟩ => ?_))))
 exact wpAny_release ⟨Z, H3, I3, q3⟩
def zrO (te : TE) (g : TG) : TS := fun D Z H => te Z H fun x H1 => g x Z H1 D.nx
theorem zm4 {tg e : Expr} {te : TE} {g : TG} (he : PE X e te) (hg : PG X tg g) (hs : swapsWithSole [tg] e pos.line X.env = pure false := by rfl) (hw : swappedStores [tg] e X.env = pure none := by rfl)
  (h1 : (assignEach [tg] X.env).map (·.2) = [assign tg X.env] := by rfl) : PS X (.Assign [tg] e pos) (zrO te g) := by
 intro pins s Z H D I h
 refine wpAny_Assign_stores (thn (he pins s Z H _ I h) fun v s1 ⟨x, H1, I1, r1, q1⟩ => ?_) hs hw
 rw [h1]
 exact thn (hg pins s1 Z H1 x v _ I1 r1 q1) fun _ s2 q => q
theorem zm5 {i : Nat} {x : Str} {e : Expr} {te : TE} {pos' : Pos} (hN : X.N.Nodup) (hi : X.N[i]? = some x) (hx : Loc X.env.scope x) (he : PE X e te) (hs : swapsWith e (some (.Name x pos')) pos.line X.env = pure false := by rfl) (hf : X.fn x = true \/ X.env.scope.names.lookup x = some .local := by first | exact .inl rfl | exact .inr rfl | assumption) :
  PS X (.Assign [.Name x pos'] e pos) (zrO te (ziu i)) := by
 intro pins s Z H D I h
 refine wpAny_Assign_Name (thn (he pins s Z H _ I h) fun v s1 ⟨y, H1, I1, r1, q1⟩ => ?_) hs
 exact zd6 I1 hN hi hx r1 (fun s2 I2 => ⟨_, H1, I2, q1⟩) hf
def tPar (i j : Nat) (ta : TA) : TS := fun D Z H => ta Z H fun vs H1 => ∃ v w, vs = [v, w] /\ D.nx ((Z.set i (some v)).set j (some w)) H1
theorem ztt {i j : Nat} {x y : Str} {a b : Expr} {ta : TA} {px py pt : Pos} {kt k2 pt2} (hc : X.calm = true) (hN : X.N.Nodup) (hi : X.N[i]? = some x) (hj : X.N[j]? = some y) (hij : i ≠ j)
  (hx : X.env.scope.names.lookup x = some .local) (hy : X.env.scope.names.lookup y = some .local) (ha : PA X [a, b] ta)
  (hw : swappedStores [.Tuple [.Name x px, .Name y py] kt pt] (.Tuple [a, b] k2 pt2) X.env = pure (some [x, y]))
  (hs : swapsWithSole [.Tuple [.Name x px, .Name y py] kt pt] (.Tuple [a, b] k2 pt2) pos.line X.env = pure false := by rfl) :
  PS X (.Assign [.Tuple [.Name x px, .Name y py] kt pt] (.Tuple [a, b] k2 pt2) pos) (tPar i j ta) := by
 intro pins s Z H D I h
 rw [exec_Assign_arm]
 refine wpAny_bind (wpAny_standAt ?_)
 rw [hs]
 refine wpAny_bind (wpAny_pure ?_)
 rw [if_neg (by decide)]
 refine wpAny_bind (Tuple_ (thn (ha _ pins s Z H _ I h) fun us s1 ⟨vs, H1, I1, r1, q1⟩ => ?_))
 obtain ⟨v, w, e1, q1⟩ := q1
 subst e1
 obtain ⟨u1, u2, rfl, rv, rw'⟩ : ∃ u1 u2, us = [u1, u2] /\ RelV v u1 /\ RelV w u2 := by
  cases r1 with
  | cons p q =>
   cases q with
   | cons p' q' =>
    cases q'
    exact ⟨_, _, rfl, p, p'⟩
 refine wpAny_newObj_type ?_ (by show 2 <= sizeLine; decide)
 have I2 : Inv X pins Z H1 { s1 with heap := s1.heap.push { cls := .type "tuple", data := .seq [u1, u2].toArray } } := I1.kept (t' := s1.toks) fun b o e => xaa _ e
 rw [hw]
 refine wpAny_bind (wpAny_pure ?_)
 show wpAny (model X.prog X.w) X.A (do rule "assign.swapped-stores"; let items <- unpackItems (.ref s1.heap.objs.size) 2 none; assignInOrder [fun v => bindName X.env y v, fun v => bindName X.env x v] items.reverse; pure Flow.next) _ _ _
 refine wpAny_bind (wpAny_rule (wpAny_bind (unpackItems_tuple (items := #[u1, u2]) (I.ok.hd hc) (IsTup.new s1.heap _) fun h' hx' => ?_)))
 have I3 := I2.kept (h' := h') (t' := s1.toks) fun b o e => hx' b o (xa0 (xai e)) e
 show wpAny _ _ (assignInOrder [fun v => bindName X.env y v, fun v => bindName X.env x v] [u2, u1] >>= fun _ => pure Flow.next) _ _ _
 refine wpAny_bind (assignInOrder_cons (wpAny_bindName (zd6 I3 hN hj (.inl hy) rw' (fun s2 I4 => ?_) (.inr hy))))
 refine assignInOrder_cons (wpAny_bindName (zd6 I4 hN hi (.inl hx) rv (fun s3 I5 => assignInOrder_nil (wpAny_pure ?_)) (.inr hx)))
 rw [List.set_comm _ _ (xa3 hij)] at I5
 exact ⟨_, H1, I5, q1⟩
end
section
variable {X : Cx} {pos : Pos}
def ztu (c : TT) (tb : TS) : TS := fun D Z H => ∃ W : Nat -> St -> Hp -> Prop, (∃ m, W m Z H) /\ ∀ m Z H, W m Z H ->
 c Z H fun b H1 => if b = true then ∃ N : St -> Hp -> Prop, (∀ Z' H', N Z' H' -> ∃ m', m' < m /\ W m' Z' H') /\ tb { D with nx := N, ct := N, bk := D.nx } Z H1 else D.nx Z H1
theorem zpp {c : Expr} {body : List Stmt} {tc : TT} {tb : TS} (hp : PassesOwn (model X.prog X.w) X.A X.env X.xe) (hc : PT X c tc) (hb : PSs X body tb) : PS X (.While c body [] pos) (ztu tc tb) := by
 intro pins s Z H D I h
 obtain ⟨W, ⟨m0, w0⟩, turn⟩ := h
 refine wpAny_While (codeAny_whileLoop (fun n s' => ∃ Z' H', Inv X pins Z' H' s' /\ W n Z' H') ?_ m0 ⟨Z, H, I, w0⟩)
 rintro n s1 ⟨Z1, H1, I1, w1⟩
 refine wpAny_passesOwn hp (thn (hc pins s1 Z1 H1 _ I1 (turn n Z1 H1 w1)) fun b s2 ⟨H2, I2, q2⟩ => ?_)
 cases b with
 | true =>
  obtain ⟨N, hN, q2⟩ := q2
  rw [if_pos rfl]
  refine wpAny_passesOwn hp (thn (hb pins s2 Z1 H2 _ I2 q2) fun f s3 q3 => ?_)
  cases f with
  | next =>
   obtain ⟨Z3, H3, I3, n3⟩ := q3
   obtain ⟨m', hm, w3⟩ := hN Z3 H3 n3
   exact ⟨m', hm, Z3, H3, I3, w3⟩
  | cont =>
   obtain ⟨Z3, H3, I3, n3⟩ := q3
   obtain ⟨m', hm, w3⟩ := hN Z3 H3 n3
   exact ⟨m', hm, Z3, H3, I3, w3⟩
  | brk => exact q3
  | ret v => exact q3
 | false =>
  rw [if_neg xa1]
  exact wpAny_execs_nil ⟨Z1, H2, I2, q2⟩
end
structure It where
 go : Nat -> Hp -> Prop
 yld : Nat -> Hp -> V -> Hp -> Prop
 stop : Nat -> Hp -> Prop
def zm6 (X : Cx) (pins : List (Addr × Obj)) (H : Hp) (b : Addr) : Prop :=
 H b = none /\ b ≠ X.env.locals /\ b ∉ X.fs /\ (b ∈ X.ex \/ X.s₀.heap.objs.size <= b) /\ (∀ x c, X.env.cells.lookup x = some c -> c ≠ b) /\ ∀ p ∈ X.pn ++ pins, p.1 ≠ b
theorem Inv.fpOk {X : Cx} {pins : List (Addr × Obj)} {Z : St} {H H' : Hp} {s : Shared} {b : Addr} (I : Inv X pins Z H s) (hb : s.heap.objs.size <= b) (hn : H' b = none) : zm6 X pins H' b := by
 refine ⟨hn, xc4 (xak I.lt hb), I.nofs hb, .inr (xba I.sz hb), fun x c e z => ?_, fun p hp z => ?_⟩
 ·obtain ⟨v, q⟩ := I.cell x c e
  exact absurd (xak q.lt (by rw [z]; exact hb)) (xbh _)
 ·exact absurd (xak (xai (I.pin p hp).1) (by rw [z]; exact hb)) (xbh _)
structure ztv (P : Program) (w : World) (K : xFg) (tg : Expr) (J : It) (fp : List Addr) (it : Addr) (tn : Nat -> Heap -> Prop) : Prop where
 mem : it ∈ fp
 obj : ∀ i h, tn i h -> ∀ b ∈ fp, ∃ o, h.get? b = some o /\ ∀ v, o.data ≠ .cell v
 keep : ∀ i h h', tn i h -> (∀ b ∈ fp, ∀ o, h.get? b = some o -> h'.get? b = some o) -> tn i h'
 item : ∀ (X : Cx), X.prog = P -> X.w = w -> X.K = K -> X.calm = true -> ∀ (i : Nat) (pins : List (Addr × Obj)) (s : Shared) (Z : St) (H : Hp) (E : Value -> Shared -> Prop), Inv X pins Z H s -> (∀ b ∈ fp, zm6 X pins H b) -> tn i s.heap -> J.go i H ->
  wpAny (model P w) X.A (pyNext (.ref it)) (fun r s1 => ∃ u, r = some u /\
   wpAny (model P w) X.A (letOwnedTupleGo tg (.ref it) u) (fun _ s2 => ∃ x H', Inv X pins Z H' s2 /\ RelV x u /\ J.yld i H x H' /\ tn (i + 1) s2.heap /\ ∀ b ∈ fp, H' b = none) E s1) E s
 done : ∀ (X : Cx), X.prog = P -> X.w = w -> X.K = K -> X.calm = true -> ∀ (i : Nat) (pins : List (Addr × Obj)) (s : Shared) (Z : St) (H : Hp) (E : Value -> Shared -> Prop), Inv X pins Z H s -> (∀ b ∈ fp, zm6 X pins H b) -> tn i s.heap -> J.stop i H ->
  wpAny (model P w) X.A (pyNext (.ref it)) (fun r s1 => r = none /\ Inv X pins Z H s1) E s
 self : ∀ (A : Around) (i : Nat) (s : Shared) (Q : Value -> Shared -> Prop) (E : Value -> Shared -> Prop), tn i s.heap -> Q (.ref it) s -> wpAny (model P w) A (pyIter (.ref it)) Q E s
abbrev TI := St -> Hp -> (It -> Hp -> Prop) -> Prop
def PIE (X : Cx) (pins : List (Addr × Obj)) (Z : St) (tg : Expr) (R : It -> Hp -> Prop) (itv : Value) (s2 : Shared) : Prop :=
 ∃ (it : Addr) (fp : List Addr) (tn : Nat -> Heap -> Prop) (J : It) (H' : Hp), itv = .ref it /\ Inv X pins Z H' s2 /\ ztv X.prog X.w X.K tg J fp it tn /\ tn 0 s2.heap /\ (∀ b ∈ fp, zm6 X pins H' b) /\ R J H'
def PI (X : Cx) (tg iter : Expr) (wi : TI) : Prop :=
 ∀ (pins : List (Addr × Obj)) (s : Shared) (Z : St) (H : Hp) (R : It -> Hp -> Prop), Inv X pins Z H s -> wi Z H R ->
  wpAny (model X.prog X.w) X.A (eval iter X.env) (fun v s1 => wpAny (model X.prog X.w) X.A (pyIter v) (PIE X pins Z tg R) X.xe s1) X.xe s
theorem zrP {M : Model} {A : Around} {E : Value -> Shared -> Prop} {s : Shared} {tg : Expr} {it : Addr} {u : Value} {o : Obj} {n : String} {vs : Array Value} {Q : Unit -> Shared -> Prop} (ho : s.heap.get? it = some o) (hc : o.cls = .type n) (hd : o.data = .fields vs)
  (hn : ["enumerate", "zip", "dict_itemiterator", "dict_reverseitemiterator", "odict_iterator", "itertools.zip_longest", "itertools.pairwise"].contains n = false) (hQ : Q () s) : wpAny M A (letOwnedTupleGo tg (.ref it) u) Q E s := by
 unfold letOwnedTupleGo
 cases tg <;> first
  | exact wpAny_pure hQ
  | (cases u <;> first
    | exact wpAny_pure hQ
    | (refine wpAny_bind (wpAny_load ho ?_)
       rw [hc, hd]
       show wpAny M A (if (["enumerate", "zip", "dict_itemiterator", "dict_reverseitemiterator", "odict_iterator", "itertools.zip_longest", "itertools.pairwise"].contains n && vs[0]? == some (rawInt _)) = true then _ else _) Q E s
       rw [if_neg (by intro h; rw [hn, Bool.false_and] at h; cases h)]
       exact wpAny_pure hQ))
def Itl (K : xFg) (a : Addr) : It :=
 ⟨fun i H => ∃ xs x, SqL K H a xs /\ xs[i]? = some x, fun i H x H' => H' = H /\ ∀ xs, SqL K H a xs -> xs[i]? = some x, fun i H => ∃ xs, SqL K H a xs /\ xs.length <= i⟩
def Itt (K : xFg) (a : Addr) : It :=
 ⟨fun i H => ∃ xs x, SqT K H a xs /\ xs[i]? = some x, fun i H x H' => H' = H /\ ∀ xs, SqT K H a xs -> xs[i]? = some x, fun i H => ∃ xs, SqT K H a xs /\ xs.length <= i⟩
def Itr (lo : Int) (n : Nat) : It := ⟨fun i _ => i < n, fun i H x H' => H' = H /\ x = .int (lo + i), fun i _ => n <= i⟩
theorem zm7 {P : Program} {w : World} {K : xFg} {tg : Expr} (a it : Addr) : ztv P w K tg (Itl K a) [it] it (fun i h => h.IsListIter it a i) where
 mem := by simp
 obj := fun i h st b hb => by
  have e : b = it := by simpa using hb
  subst e
  obtain ⟨o, e, c, d⟩ := st
  exact ⟨o, e, fun v z => by rw [d] at z; cases z⟩
 keep := fun i h h' st k => st.at fun o e => k it (by simp) o e
 item := by
  intro X hP hw hK hc i pins s Z H E I hf st hg
  subst hP hw hK
  obtain ⟨xs, x, hq, hx⟩ := hg
  obtain ⟨its, rv, p, hz⟩ := I.list hq
  obtain ⟨u, hu, ru⟩ := rv.get hx
  obtain ⟨f0, f1, f2, f3, f4, f5⟩ := hf it (by simp)
  refine wpAny_pyNext_list_item st p.isList (x := u) (by simpa using hu) fun h' st' sb => ?_
  have I1 : Inv X pins Z H { s with heap := h' } := I.turned (t' := s.toks) (fun b o hb e => (sb.2 b hb).trans e) f0 f1 f3 f4 f5
  obtain ⟨o, e, c, d⟩ := id st'
  exact ⟨u, rfl, zrP (s := { s with heap := h' }) e c d (by decide) ⟨x, H, I1, ru, ⟨rfl, fun ys hy => by rw [I.list_inj hy hq]; exact hx⟩, st', fun b hb => (hf b hb).1⟩⟩
 done := by
  intro X hP hw hK hc i pins s Z H E I hf st hg
  subst hP hw hK
  obtain ⟨xs, hq, hx⟩ := hg
  obtain ⟨its, rv, p, hz⟩ := I.list hq
  obtain ⟨f0, f1, f2, f3, f4, f5⟩ := hf it (by simp)
  have hl := rv.length
  exact wpAny_pyNext_list_end (I.ok.hd hc) st p.isList (by simp; omega) fun h' eb => ⟨rfl, I.turned (t' := s.toks) (fun b o hb e => eb b o hb e) f0 f1 f3 f4 f5⟩
 self := fun _ _ _ _ _ st h => wpAny_pyIter_listiter st h
theorem zmc {P : Program} {w : World} {K : xFg} {tg : Expr} (a it : Addr) : ztv P w K tg (Itt K a) [it] it (fun i h => h.IsTupleIter it a i) where
 mem := by simp
 obj := fun i h st b hb => by
  have e : b = it := by simpa using hb
  subst e
  obtain ⟨o, e, c, d⟩ := st
  exact ⟨o, e, fun v z => by rw [d] at z; cases z⟩
 keep := fun i h h' st k => st.at fun o e => k it (by simp) o e
 item := by
  intro X hP hw hK hc i pins s Z H E I hf st hg
  subst hP hw hK
  obtain ⟨xs, x, hq, hx⟩ := hg
  obtain ⟨its, rv, p, hz⟩ := I.tuple hq
  obtain ⟨u, hu, ru⟩ := rv.get hx
  obtain ⟨f0, f1, f2, f3, f4, f5⟩ := hf it (by simp)
  refine wpAny_pyNext_tuple_item st (show s.heap.IsTuple a its.toArray from p) (x := u) (by simpa using hu) fun h' st' sb => ?_
  have I1 : Inv X pins Z H { s with heap := h' } := I.turned (t' := s.toks) (fun b o hb e => (sb.2 b hb).trans e) f0 f1 f3 f4 f5
  obtain ⟨o, e, c, d⟩ := id st'
  exact ⟨u, rfl, zrP (s := { s with heap := h' }) e c d (by decide) ⟨x, H, I1, ru, ⟨rfl, fun ys hy => by rw [I.tuple_inj hy hq]; exact hx⟩, st', fun b hb => (hf b hb).1⟩⟩
 done := by
  intro X hP hw hK hc i pins s Z H E I hf st hg
  subst hP hw hK
  obtain ⟨xs, hq, hx⟩ := hg
  obtain ⟨its, rv, p, hz⟩ := I.tuple hq
  obtain ⟨f0, f1, f2, f3, f4, f5⟩ := hf it (by simp)
  have hl := rv.length
  exact wpAny_pyNext_tuple_end (I.ok.hd hc) st (show s.heap.IsTuple a its.toArray from p) (by simp; omega) fun h' eb => ⟨rfl, I.turned (t' := s.toks) (fun b o hb e => eb b o hb e) f0 f1 f3 f4 f5⟩
 self := fun _ _ _ _ _ st h => wpAny_pyIter_tupleiter st h
theorem zmd {P : Program} {w : World} {K : xFg} {tg : Expr} (it : Addr) (lo : Int) (n : Nat) : ztv P w K tg (Itr lo n) [it] it (fun i h => IsRangeIter h it (lo + (i : Nat) * 1) ((n : Int) - (i : Nat)) 1) where
 mem := by simp
 obj := fun i h st b hb => by
  have e : b = it := by simpa using hb
  subst e
  exact ⟨_, st, fun v z => by
   have z' : Data.fields _ = Data.cell v := z
   cases z'⟩
 keep := fun i h h' st k => k it (by simp) _ st
 item := by
  intro X hP hw hK hc i pins s Z H E I hf st hg
  subst hP hw hK
  obtain ⟨f0, f1, f2, f3, f4, f5⟩ := hf it (by simp)
  have W := Walks.range (prog := X.prog) (w := X.w) (I.ok.hd hc) it lo 1 n
  refine W.item i s _ _ hg st fun v h' tk hv st' kk => ?_
  obtain ⟨t, rfl⟩ := hv
  have I1 : Inv X pins Z H { s with heap := h', toks := tk } := I.turned (fun b o hb e => kk b o (by simpa using hb) e) f0 f1 f3 f4 f5
  refine ⟨_, rfl, zrP (s := { s with heap := h', toks := tk }) (n := "range_iterator") st' rfl rfl (by decide) ⟨.int (lo + i), H, I1, ⟨t, ?_⟩, ⟨rfl, rfl⟩, st', fun b hb => (hf b hb).1⟩⟩
  rw [Int.mul_one]
 done := by
  intro X hP hw hK hc i pins s Z H E I hf st hg
  subst hP hw hK
  obtain ⟨f0, f1, f2, f3, f4, f5⟩ := hf it (by simp)
  exact wpAny_pyNext_range_end (I.ok.hd hc) st (by have : n <= i := hg; omega) fun h' eb => ⟨rfl, I.turned (t' := s.toks) (fun b o hb e => eb b o hb e) f0 f1 f3 f4 f5⟩
 self := fun _ _ _ _ _ st h => wpAny_pyIter_rangeiter st h
end L2
namespace L2
open PySem.Spec PyProof.Rows
section
variable {X : Cx} {tg : Expr}
def ztw (K : xFg) (tl : TE) : TI := fun Z H R => tl Z H fun x H1 => ∃ a, x = .ref a /\ (∃ xs, SqL K H1 a xs) /\ R (Itl K a) H1
def iTup (K : xFg) (tl : TE) : TI := fun Z H R => tl Z H fun x H1 => ∃ a, x = .ref a /\ (∃ xs, SqT K H1 a xs) /\ R (Itt K a) H1
theorem zrQ {l : Expr} {tl : TE} (hl : PE X l tl) : PI X tg l (ztw X.K tl) := by
 intro pins s Z H R I h
 refine thn (hl pins s Z H _ I h) fun v s1 ⟨x, H1, I1, r1, q1⟩ => ?_
 obtain ⟨a, e, ⟨xs, hq⟩, q⟩ := q1
 subst e
 cases r1
 obtain ⟨its, rv, p, hz⟩ := I1.list hq
 refine wpAny_pyIter_list p.isList ?_
 refine ⟨s1.heap.objs.size, [s1.heap.objs.size], _, _, H1, rfl, I1.kept (t' := s1.toks) fun b o e => xaa _ e, zm7 a _, ⟨_, xau _ rfl, rfl, rfl⟩, fun b hb => ?_, q⟩
 have e : b = s1.heap.objs.size := by simpa using hb
 subst e
 exact I1.fpOk (xaj _) (I1.hok.fresh (xaj _))
theorem ztx {l : Expr} {tl : TE} (hl : PE X l tl) : PI X tg l (iTup X.K tl) := by
 intro pins s Z H R I h
 refine thn (hl pins s Z H _ I h) fun v s1 ⟨x, H1, I1, r1, q1⟩ => ?_
 obtain ⟨a, e, ⟨xs, hq⟩, q⟩ := q1
 subst e
 cases r1
 obtain ⟨its, rv, p, hz⟩ := I1.tuple hq
 refine wpAny_pyIter_tuple (show s1.heap.IsTuple a its.toArray from p) ?_
 refine ⟨s1.heap.objs.size, [s1.heap.objs.size], _, _, H1, rfl, I1.kept (t' := s1.toks) fun b o e => xaa _ e, zmc a _, ⟨_, xau _ rfl, rfl, rfl⟩, fun b hb => ?_, q⟩
 have e : b = s1.heap.objs.size := by simpa using hb
 subst e
 exact I1.fpOk (xaj _) (I1.hok.fresh (xaj _))
theorem zpq {pins : List (Addr × Obj)} {Z : St} {H : Hp} {s : Shared} {R : It -> Hp -> Prop} {E : Value -> Shared -> Prop} {lo hi : Int} {t u v : Tok} {tk : Nat} (I : Inv X pins Z H s) (h1 : -(2 ^ 62) <= lo) (h2 : lo < 2 ^ 62) (h3 : -(2 ^ 62) <= hi) (h4 : hi < 2 ^ 62)
  (q : R (Itr lo (hi - lo).toNat) H) : wpAny (model X.prog X.w) X.A (pyIter (.ref s.heap.objs.size)) (PIE X pins Z tg R) E { s with heap := s.heap.push { cls := .type "range", data := .fields #[.int lo t, .int hi u, .int 1 v] }, toks := tk } := by
 refine wpAny_pyIter_range (IsRange.new ..) (small_one h1 h2 h3 h4) ?_
 have I1 : Inv X pins Z H { s with heap := s.heap.push { cls := .type "range", data := .fields #[.int lo t, .int hi u, .int 1 v] }, toks := tk } := I.kept fun b o e => xaa _ e
 refine ⟨(s.heap.push { cls := .type "range", data := .fields #[.int lo t, .int hi u, .int 1 v] }).objs.size, [(s.heap.push { cls := .type "range", data := .fields #[.int lo t, .int hi u, .int 1 v] }).objs.size], _, _, H, rfl,
  I1.kept (t' := tk) fun b o e => xaa _ e, zmd _ lo (hi - lo).toNat, ?_, fun b hb => ?_, q⟩
 ·have e1 : lo + ((0 : Nat) : Int) * 1 = lo := by simp
  have e2 : (((hi - lo).toNat : Nat) : Int) - ((0 : Nat) : Int) = Builtin.Range.rangeSize lo hi 1 := by rw [rangeSize_one]; split <;> omega
  show IsRangeIter _ _ (lo + ((0 : Nat) : Int) * 1) ((((hi - lo).toNat : Nat) : Int) - ((0 : Nat) : Int)) 1
  rw [e1, e2]
  exact xau _ rfl
 ·have e : b = (s.heap.push { cls := .type "range", data := .fields #[.int lo t, .int hi u, .int 1 v] }).objs.size := by simpa using hb
  subst e
  exact I1.fpOk (xaj _) (I1.hok.fresh (xaj _))
def zvs (ta : TA) : TI := fun Z H R => ta Z H fun vs H1 => ∃ j : Int, vs = [.int j] /\ -(2 ^ 62) <= j /\ j < 2 ^ 62 /\ R (Itr 0 j.toNat) H1
theorem zm8 {a : Expr} {ta : TA} {p pos : Pos} (hg : Gl X "range") (hm : X.mg "range" = none) (ha : PA X [a] ta) (hs : starEach [a] X.env = [(false, eval a X.env)] := by rfl) : PI X tg (.Call (.Name "range" p) [a] [] pos) (zvs ta) := by
 intro pins s Z H R I h
 refine Call_ (zkH I hg hm boot_range (PyProof.Rows.callWith_type1 (thn (ha pos pins s Z H _ I h) fun us s1 ⟨vs, H1, I1, r1, q1⟩ => ?_) hs rfl))
 obtain ⟨j, e, q1, q2, q⟩ := q1
 subst e
 cases r1 with
 | cons r rr =>
  cases rr
  obtain ⟨t, rfl⟩ := r
  exact call_range_1 (zpq I1 (by omega) (by omega) q1 q2 (by simpa using q))
def tFor (wi : TI) (g : TG) (tb : TS) : TS := fun D Z H => wi Z H fun J H1 => ∃ W : Nat -> Nat -> St -> Hp -> Prop, (∃ m, W 0 m Z H1) /\ ∀ i m Z H, W i m Z H ->
 (J.stop i H /\ D.nx Z H) \/ (J.go i H /\ ∃ N : St -> Hp -> Prop, (∀ Z' H', N Z' H' -> ∃ m', m' < m /\ W (i + 1) m' Z' H') /\ ∀ x H', J.yld i H x H' -> g x Z H' fun Z2 H2 => tb { D with nx := N, ct := N, bk := D.nx } Z2 H2)
def ziv (fp : List Addr) (h : Heap) : List (Addr × Obj) := fp.filterMap fun b => (h.get? b).map fun o => (b, o)
theorem zd7 {fp : List Addr} {h : Heap} {b : Addr} {o : Obj} (hb : b ∈ fp) (e : h.get? b = some o) : (b, o) ∈ ziv fp h := xbp.mpr ⟨b, hb, by rw [e]; rfl⟩
theorem zm9 {fp : List Addr} {h : Heap} {p : Addr × Obj} (hp : p ∈ ziv fp h) : p.1 ∈ fp /\ h.get? p.1 = some p.2 := by
 obtain ⟨b, hb, e⟩ := xbp.mp hp
 cases q : h.get? b with
 | none => rw [q] at e; cases e
 | some o =>
  rw [q] at e
  have e' : (b, o) = p := Option.some.inj e
  subst e'
  exact ⟨hb, q⟩
theorem Inv.pinned {pins : List (Addr × Obj)} {Z : St} {H : Hp} {s : Shared} {fp : List Addr} (I : Inv X pins Z H s) (hf : ∀ b ∈ fp, zm6 X pins H b) (ho : ∀ b ∈ fp, ∃ o, s.heap.get? b = some o /\ ∀ v, o.data ≠ .cell v) : Inv X (pins ++ ziv fp s.heap) Z H s :=
 I.pins_of fun p hp => (xb1.mp hp).elim (fun z => I.pin p (xa9 _ z)) fun z => by
  obtain ⟨hb, e⟩ := zm9 z
  obtain ⟨f0, f1, f2, _⟩ := hf p.1 hb
  obtain ⟨o, e', d⟩ := ho p.1 hb
  rw [e] at e'; cases e'
  exact ⟨e, f0, f1, f2, d⟩
theorem Inv.unpinned {pins pl : List (Addr × Obj)} {Z : St} {H : Hp} {s : Shared} (I : Inv X (pins ++ pl) Z H s) : Inv X pins Z H s := I.pins_of fun p hp => I.pin p (xa9 _ (List.mem_append_left _ hp))
theorem zty {iter : Expr} {body : List Stmt} {wi : TI} {g : TG} {tb : TS} {pos : Pos} (hp : PassesOwn (model X.prog X.w) X.A X.env X.xe) (hc : X.calm = true) (hi : PI X tg iter wi) (hg : PG X tg g) (hb : PSs X body tb)
  (hs : ∀ x, foldedSetIterable iter X.env x = pure x := by intro _; rfl) : PS X (.For tg iter body [] pos) (tFor wi g tb) := by
 intro pins s Z H D I h
 refine wpAny_For (thn (hi pins s Z H _ I h) fun v s1 h1 => thn h1 fun itv s2 h2 => ?_) hs
 obtain ⟨it, fp, tn, J, H2, e, I2, T, st2, f2, W, ⟨m0, w0⟩, turn⟩ := h2
 subst e
 have stat : ∀ {H' : Hp}, (∀ b ∈ fp, H' b = none) -> ∀ b ∈ fp, zm6 X pins H' b := fun hn b hb => ⟨hn b hb, (f2 b hb).2⟩
 refine codeAny_forLoop_any (fun n s' => ∃ i Z' H', Inv X pins Z' H' s' /\ tn i s'.heap /\ (∀ b ∈ fp, H' b = none) /\ W i n Z' H') ?_ m0 ⟨0, Z, H2, I2, st2, fun b hb => (f2 b hb).1, w0⟩
 rintro n s3 ⟨i, Z3, H3, I3, st3, fr3, w3⟩
 rcases turn i n Z3 H3 w3 with ⟨stop, qn⟩ | ⟨go, N, hN, step⟩
 ·refine wpAny_passesOwn hp (thn (T.done X rfl rfl rfl hc i pins s3 Z3 H3 X.xe I3 (stat fr3) st3 stop) fun r s4 ⟨hr, I4⟩ => ?_)
  subst hr
  exact wpAny_execs_nil ⟨Z3, H3, I4, qn⟩
 ·refine wpAny_passesOwn hp (thn (T.item X rfl rfl rfl hc i pins s3 Z3 H3 X.xe I3 (stat fr3) st3 go) fun r s4 ⟨u, hr, h4⟩ => ?_)
  subst hr
  refine wpAny_passesOwn hp (thn h4 fun _ s5 ⟨x, H5, I5, r5, y5, st5, fr5⟩ => ?_)
  have I5' := I5.pinned (stat fr5) (T.obj _ _ st5)
  refine wpAny_passesOwn hp (thn (hg _ s5 Z3 H5 x u _ I5' r5 (step x H5 y5)) fun _ s6 ⟨Z6, H6, I6, q6⟩ => ?_)
  refine wpAny_passesOwn hp (thn (hb _ s6 Z6 H6 _ I6 q6) fun f s7 q7 => ?_)
  have again : ∀ {Z7 : St} {H7 : Hp}, Inv X (pins ++ ziv fp s5.heap) Z7 H7 s7 -> N Z7 H7 -> ∃ m, m < n /\ ∃ i Z' H', Inv X pins Z' H' s7 /\ tn i s7.heap /\ (∀ b ∈ fp, H' b = none) /\ W i m Z' H' := fun {Z7 H7} I7 n7 => by
   obtain ⟨m', hm, w7⟩ := hN Z7 H7 n7
   refine ⟨m', hm, i + 1, Z7, H7, I7.unpinned, T.keep _ _ _ st5 fun b hb o e => (I7.pin (b, o) (xa9 _ (xa9 _ (zd7 hb e)))).1, fun b hb => ?_, w7⟩
   obtain ⟨o, e, d⟩ := T.obj _ _ st5 b hb
   exact (I7.pin (b, o) (xa9 _ (xa9 _ (zd7 hb e)))).2.1
  cases f with
  | next => obtain ⟨Z7, H7, I7, n7⟩ := q7; exact again I7 n7
  | cont => obtain ⟨Z7, H7, I7, n7⟩ := q7; exact again I7 n7
  | brk => obtain ⟨Z7, H7, I7, q7⟩ := q7; exact ⟨Z7, H7, I7.unpinned, q7⟩
  | ret v => obtain ⟨x7, Z7, H7, I7, r7, q7⟩ := q7; exact ⟨x7, Z7, H7, I7.unpinned, r7, q7⟩
end
end L2
namespace L2
open PySem.Spec PyProof.Rows
abbrev R2 := V -> V -> Hp -> VK -> Prop
def OpR (X : Cx) (f : Value -> Value -> Sem Value) (r : R2) : Prop :=
 ∀ (pins : List (Addr × Obj)) (s : Shared) (Z : St) (H : Hp) (x y : V) (v u : Value) (Q : VK), Inv X pins Z H s -> RelV x v -> RelV y u -> r x y H Q ->
  wpAny (model X.prog X.w) X.A (f v u) (EP X pins Z Q) X.xe s
def UnR (X : Cx) (f : Value -> Sem Value) (r : V -> Hp -> VK -> Prop) : Prop :=
 ∀ (pins : List (Addr × Obj)) (s : Shared) (Z : St) (H : Hp) (x : V) (v : Value) (Q : VK), Inv X pins Z H s -> RelV x v -> r x H Q ->
  wpAny (model X.prog X.w) X.A (f v) (EP X pins Z Q) X.xe s
def zdd (X : Cx) (f : Value) (r : List V -> Hp -> VK -> Prop) : Prop :=
 ∀ (pins : List (Addr × Obj)) (s : Shared) (Z : St) (H : Hp) (xs : List V) (us : List Value) (Q : VK), Inv X pins Z H s -> zbf xs us -> r xs H Q ->
  wpAny (model X.prog X.w) X.A (call f us) (EP X pins Z Q) X.xe s
def tOp (r : R2) (ta tb : TE) : TE := fun Z H Q => ta Z H fun x H1 => tb Z H1 fun y H2 => r x y H2 Q
def tUn (r : V -> Hp -> VK -> Prop) (ta : TE) : TE := fun Z H Q => ta Z H fun x H1 => r x H1 Q
def rI (C : Int -> Int -> Prop) (g : Int -> Int -> V) : R2 := fun x y H Q => ∃ i j, x = .int i /\ y = .int j /\ C i j /\ Q (g i j) H
def rI0 (g : Int -> Int -> V) : R2 := fun x y H Q => ∃ i j, x = .int i /\ y = .int j /\ Q (g i j) H
def rU (g : Int -> V) : V -> Hp -> VK -> Prop := fun x H Q => ∃ i, x = .int i /\ Q (g i) H
section
variable {X : Cx} {a b c : Expr} {ta tb tc : TE} {pos : Pos}
theorem zvt (ha : PE X a ta) (hb : PE X b tb) {pins : List (Addr × Obj)} {s : Shared} {Z : St} {H : Hp} {R : V -> V -> Hp -> Prop} (I : Inv X pins Z H s)
  (h : ta Z H fun x H1 => tb Z H1 fun y H2 => R x y H2) {Q : Value -> Shared -> Prop} {f : Value -> Value -> Sem Value}
  (hf : ∀ v u s2 x y H2, Inv X pins Z H2 s2 -> RelV x v -> RelV y u -> R x y H2 -> wpAny (model X.prog X.w) X.A (f v u) Q X.xe s2) :
  wpAny (model X.prog X.w) X.A (eval a X.env) (fun v s₁ => wpAny (model X.prog X.w) X.A (eval b X.env) (fun u s₂ => wpAny (model X.prog X.w) X.A (f v u) Q X.xe s₂) X.xe s₁) X.xe s := by
 refine thn (ha pins s Z H _ I h) fun v s1 ⟨x, H1, I1, r1, q1⟩ => ?_
 refine thn (hb pins s1 Z H1 _ I1 q1) fun u s2 ⟨y, H2, I2, r2, q2⟩ => ?_
 exact hf v u s2 x y H2 I2 r1 r2 q2
theorem zvu {op : Operator} {r : R2} (ho : OpR X (binaryOp op) r) (ha : PE X a ta) (hb : PE X b tb) : PE X (.BinOp a op b pos) (tOp r ta tb) := by
 intro pins s Z H Q I h
 exact wpAny_BinOp (zvt ha hb I h fun v u s2 x y H2 I2 rx ry q => ho pins s2 Z H2 x y v u Q I2 rx ry q)
theorem zvv {op : UnaryOp} {r : V -> Hp -> VK -> Prop} (ho : UnR X (unaryOp op) r) (ha : PE X a ta) : PE X (.UnaryOp op a pos) (tUn r ta) := by
 intro pins s Z H Q I h
 exact UnaryOp_ (thn (ha pins s Z H _ I h) fun v s1 ⟨x, H1, I1, r1, q1⟩ => ho pins s1 Z H1 x v Q I1 r1 q1)
theorem opI {f : Value -> Value -> Sem Value} {C : Int -> Int -> Prop} {g : Int -> Int -> Int}
  (rule : ∀ (i j : Int) (t u : Tok) (s : Shared) (Q : Value -> Shared -> Prop) (E : Value -> Shared -> Prop), C i j -> Q (.int (g i j) s.toks) { s with toks := s.toks + 1 } -> wpAny (model X.prog X.w) X.A (f (.int i t) (.int j u)) Q E s) :
  OpR X f (rI C fun i j => .int (g i j)) := by
 intro pins s Z H x y v u Q I rx ry h
 obtain ⟨i, j, rfl, rfl, hc, q⟩ := h
 obtain ⟨t, rfl⟩ := rx
 obtain ⟨t', rfl⟩ := ry
 exact rule i j t t' s _ _ hc ⟨.int (g i j), H, I.tok _, ⟨_, rfl⟩, q⟩
theorem opI0 {f : Value -> Value -> Sem Value} {g : Int -> Int -> Int}
  (rule : ∀ (i j : Int) (t u : Tok) (s : Shared) (Q : Value -> Shared -> Prop) (E : Value -> Shared -> Prop), Q (.int (g i j) s.toks) { s with toks := s.toks + 1 } -> wpAny (model X.prog X.w) X.A (f (.int i t) (.int j u)) Q E s) :
  OpR X f (rI0 fun i j => .int (g i j)) := by
 intro pins s Z H x y v u Q I rx ry h
 obtain ⟨i, j, rfl, rfl, q⟩ := h
 obtain ⟨t, rfl⟩ := rx
 obtain ⟨t', rfl⟩ := ry
 exact rule i j t t' s _ _ ⟨.int (g i j), H, I.tok _, ⟨_, rfl⟩, q⟩
theorem zvw {f : Value -> Value -> Sem Value} {g : Int -> Int -> Bool}
  (rule : ∀ (i j : Int) (t u : Tok) (s : Shared) (Q : Value -> Shared -> Prop) (E : Value -> Shared -> Prop), Q (.bool (g i j)) s -> wpAny (model X.prog X.w) X.A (f (.int i t) (.int j u)) Q E s) :
  OpR X f (rI0 fun i j => .bl (g i j)) := by
 intro pins s Z H x y v u Q I rx ry h
 obtain ⟨i, j, rfl, rfl, q⟩ := h
 obtain ⟨t, rfl⟩ := rx
 obtain ⟨t', rfl⟩ := ry
 exact rule i j t t' s _ _ ⟨.bl (g i j), H, I, rfl, q⟩
def CPow (i j : Int) : Prop := 0 <= j /\ j <= 1000000 /\ i.natAbs < 2 ^ 64
theorem ztz : OpR X (binaryOp .Add) (rI0 fun i j => .int (i + j)) := opI0 fun _ _ _ _ _ _ _ q => add_int q
theorem zrR : OpR X (binaryOp .Mod) (rI (fun _ j => j ≠ 0) fun i j => .int (i.fmod j)) := opI fun _ _ _ _ _ _ _ hc q => mod_int' hc q
theorem ztA : OpR X (binaryOp .Pow) (rI CPow fun i j => .int (i ^ j.toNat)) := opI fun _ _ _ _ _ _ _ hc q => pow_int_small hc.1 hc.2.1 hc.2.2 q
theorem unI {f : Value -> Sem Value} {g : Int -> Int}
  (rule : ∀ (i : Int) (t : Tok) (s : Shared) (Q : Value -> Shared -> Prop) (E : Value -> Shared -> Prop), Q (.int (g i) s.toks) { s with toks := s.toks + 1 } -> wpAny (model X.prog X.w) X.A (f (.int i t)) Q E s) :
  UnR X f (rU fun i => .int (g i)) := by
 intro pins s Z H x v Q I rx h
 obtain ⟨i, rfl, q⟩ := h
 obtain ⟨t, rfl⟩ := rx
 exact rule i t s _ _ ⟨.int (g i), H, I.tok _, ⟨_, rfl⟩, q⟩
theorem ztB : UnR X (unaryOp .USub) (rU fun i => .int (-i)) := unI fun _ _ _ _ _ q => neg_int q
end
section
variable {X : Cx} {a b c : Expr} {ta tb tc : TE} {pos : Pos}
theorem zvx : OpR X (compareOp .Lt) (rI0 fun i j => .bl (decide (i < j))) := zvw fun _ _ _ _ _ _ _ q => lt_int q
theorem zvy : OpR X (compareOp .Gt) (rI0 fun i j => .bl (decide (j < i))) := zvw fun _ _ _ _ _ _ _ q => gt_int q
theorem zvz : OpR X (compareOp .GtE) (rI0 fun i j => .bl (decide (j <= i))) := zvw fun _ _ _ _ _ _ _ q => ge_int q
theorem OpR.or {f : Value -> Value -> Sem Value} {r r' : R2} (h : OpR X f r) (h' : OpR X f r') : OpR X f (fun x y H Q => r x y H Q \/ r' x y H Q) := by
 intro pins s Z H x y v u Q I rx ry q
 rcases q with q | q
 ·exact h pins s Z H x y v u Q I rx ry q
 ·exact h' pins s Z H x y v u Q I rx ry q
theorem zrS {op : CmpOp} {r : R2} (ho : OpR X (compareOp op) r) (ha : PE X a ta) (hb : PE X b tb) (hm : behindInMarks op b = false) : PE X (.Compare a [op] [b] pos) (tOp r ta tb) := by
 intro pins s Z H Q I h
 exact wpAny_Compare1 (zvt ha hb I h fun v u s2 x y H2 I2 rx ry q => ho pins s2 Z H2 x y v u Q I2 rx ry q) hm
def ztC (t : TE) : TT := fun Z H Q => t Z H fun x H' => ∃ k, x = .bl k /\ Q k H'
theorem zrT {op : CmpOp} {r : R2} (ho : OpR X (compareOp op) r) (ha : PE X a ta) (hb : PE X b tb) (hm : behindInMarks op b = false) : PT X (.Compare a [op] [b] pos) (ztC (tOp r ta tb)) := by
 intro pins s Z H Q I h
 refine wpAny_isTrue_Compare1 (thn (ha pins s Z H _ I h) fun v s1 ⟨x, H1, I1, r1, q1⟩ => thn (hb pins s1 Z H1 _ I1 q1) fun u s2 ⟨y, H2, I2, r2, q2⟩ =>
  thn (ho pins s2 Z H2 x y v u _ I2 r1 r2 q2) fun c s3 ⟨z, H3, I3, r3, k, e, q3⟩ => ?_) hm
 subst e
 cases r3
 exact wpAny_truthy_bool ⟨H3, I3, q3⟩
theorem ziw : (sizeLine : Nat) < 2 ^ 63 := by rw [sizeLine_eq]; decide
theorem zme : OpR X (binaryOp .Add) (fun x y H Q => ∃ i j, x = .str i /\ y = .str j /\ i.length + j.length <= sizeLine /\ Q (.str (i ++ j)) H) := by
 intro pins s Z H x y v u Q I rx ry h
 obtain ⟨i, j, rfl, rfl, hz, q⟩ := h
 obtain ⟨t, rfl⟩ := rx
 obtain ⟨t', rfl⟩ := ry
 exact add_str (fun t' tk => ⟨.str (i ++ j), H, I.tok _, ⟨_, rfl⟩, q⟩) hz
theorem zhF {x : V} {us : List Value} (r : zbf [x] us) : ∃ u, us = [u] /\ RelV x u := by
 cases r with
 | cons r1 r2 => cases r2; exact ⟨_, rfl, r1⟩
theorem zpr {x y : V} {us : List Value} (r : zbf [x, y] us) : ∃ u w', us = [u, w'] /\ RelV x u /\ RelV y w' := by
 cases r with
 | cons r1 r2 =>
  cases r2 with
  | cons r3 r4 => cases r4; exact ⟨_, _, rfl, r1, r3⟩
theorem zps : zdd X (.builtin "abs") (fun xs H Q => ∃ i, xs = [.int i] /\ Q (.int (if i < 0 then -i else i)) H) := by
 intro pins s Z H xs us Q I r h
 obtain ⟨i, rfl, q⟩ := h
 obtain ⟨u, rfl, t, rfl⟩ := zhF r
 exact call_abs_int fun u tk => ⟨.int (if i < 0 then -i else i), H, I.tok _, ⟨_, rfl⟩, q⟩
theorem zna (hc : X.calm = true) : zdd X (.builtin "max") (fun xs H Q => ∃ i j, xs = [.int i, .int j] /\ Q (.int (if j > i then j else i)) H) := by
 intro pins s Z H xs us Q I r h
 obtain ⟨i, j, rfl, q⟩ := h
 obtain ⟨u, w', rfl, ⟨t, rfl⟩, ⟨t', rfl⟩⟩ := zpr r
 refine max_two_ints (I.ok.hd hc) fun h' tk k => ⟨_, H, I.kept k, ?_, q⟩
 by_cases hj : j > i
 ·rw [if_pos hj, if_pos hj]; exact ⟨_, rfl⟩
 ·rw [if_neg hj, if_neg hj]; exact ⟨_, rfl⟩
end
end L2
namespace L2
open PySem.Spec PyProof.Rows
structure zfP (k : Nat) (A : Around) : Prop where
 hd : A.handled = none
 dp : A.depth + 3 * k + 5 < recursionLimit
 un : A.units + 16 * k + 200 < cLine
theorem zfP.mono {j k : Nat} {A : Around} (r : zfP k A) (h : j <= k) : zfP j A := ⟨r.hd, by have := r.dp; omega, by have := r.un; omega⟩
theorem zfP.deeper {k : Nat} {A : Around} (r : zfP (k + 1) A) (env : Env) : zfP k (A.deeper env) :=
 ⟨r.hd, by have := r.dp; show A.depth + 1 + 3 * k + 5 < _; omega, by have := r.un; show A.units + 3 + 16 * k + 200 < _; omega⟩
theorem zfP.depth {k : Nat} {A : Around} (r : zfP k A) : A.depth < recursionLimit := by have := r.dp; omega
def tNil : TA := fun _ H Q => Q [] H
def zvA (ta : TE) (tr : TA) : TA := fun Z H Q => ta Z H fun x H1 => tr Z H1 fun xs H2 => Q (x :: xs) H2
section
variable {X : Cx} {e : Expr} {es : List Expr} {te : TE} {t : TA} {pos : Pos}
theorem znb : PA X [] tNil := fun _ _ _ _ H Q I h => Calls.spliced_nil ⟨[], H, I, .nil, h⟩
theorem zj5 (ha : PE X e te) (hr : PA X es t) (hs : starEach (e :: es) X.env = (false, eval e X.env) :: starEach es X.env := by rfl) : PA X (e :: es) (zvA te t) := by
 intro pos pins s Z H Q I h
 rw [hs]
 show wpAny _ _ (spliced ((false, eval e X.env) :: backTo pos (starEach es X.env))) _ _ s
 refine Calls.spliced_cons (thn (ha pins s Z H _ I h) fun u s1 ⟨x, H1, I1, r1, q1⟩ => ?_)
 exact thn (hr pos pins s1 Z H1 _ I1 q1) fun us s2 ⟨xs, H2, I2, r2, q2⟩ => ⟨x :: xs, H2, I2, .cons r1 r2, q2⟩
def tTup (t : TA) : TE := fun Z H Q => t Z H fun xs H1 => xs.length <= sizeLine /\ ∀ p, H1 p = none -> Q (.ref p) (upd H1 p (.tup xs))
def tLst (t : TA) : TE := fun Z H Q => t Z H fun xs H1 => xs.length <= sizeLine /\ ∀ p, H1 p = none -> Q (.ref p) (upd H1 p (.lst xs))
theorem ztD {x1} (h : PA X es t) : PE X (.Tuple es x1 pos) (tTup t) := by
 intro pins s Z H Q I hq
 refine wpAny_Tuple_spliced (thn (h pos pins s Z H _ I hq) fun us s1 ⟨xs, H1, I1, r, z, q⟩ => ⟨by rw [<- r.length]; exact z, ?_⟩)
 have hf : H1 s1.heap.objs.size = none := I1.hok.fresh (xaj _)
 refine ⟨.ref s1.heap.objs.size, upd H1 s1.heap.objs.size (.tup xs), I1.laid (t' := s1.toks) (fun b u e => xaa _ e) (xaj _) ?_, rfl, q _ hf⟩
 exact ⟨z, us, r, ⟨_, xau _ rfl, rfl, _, rfl⟩⟩
theorem ztE (h : PA X es t) : PE X (.List es pos) (tLst t) := by
 intro pins s Z H Q I hq
 refine wpAny_List_spliced (thn (h pos pins s Z H _ I hq) fun us s1 ⟨xs, H1, I1, r, z, q⟩ => ⟨by rw [<- r.length]; exact z, ?_⟩)
 have hf : H1 s1.heap.objs.size = none := I1.hok.fresh (xaj _)
 refine ⟨.ref s1.heap.objs.size, upd H1 s1.heap.objs.size (.lst xs), I1.laid (t' := s1.toks) (fun b u e => xaa _ e) (xaj _) ?_, rfl, q _ hf⟩
 exact ⟨z, us, 0, r, xau _ rfl⟩
end
abbrev Sp := List V -> Hp -> VK -> XK -> Prop
abbrev CXT := List Env -> Hp -> Shared -> XK -> Value -> Shared -> Prop
structure zva (P : Program) (w : World) (K : xFg) (mg : Str -> Option Value) (base : Heap) (A : Around) (outer : List Env) (s : Shared) (H : Hp) : Prop where
 frames : A.frames = some outer
 mod : Mod K mg base
 bs : ∀ b o, base.get? b = some o -> s.heap.get? b = some o /\ H b = none
 bsz : base.objs.size <= s.heap.objs.size
 funs : s.heap.FunFrames base outer
 frf : ∀ b ∈ frs outer, H b = none
 hok : HOk P w H s.heap
 bare : AllBare s.gens
def CE (outer : List Env) (P : Program) (w : World) (H : Hp) (s : Shared) (Q : VK) (u : Value) (s' : Shared) : Prop :=
 ∃ v H', s'.os = s.os /\ AllBare s'.gens /\ Un (frs outer) [] H H' s.heap s'.heap /\ HOk P w H' s'.heap /\ RelV v u /\ Q v H'
def CR (CX : CXT) (outer : List Env) (P : Program) (w : World) (H : Hp) (s : Shared) (Q : VK) (E : XK) (r : Result) (s' : Shared) : Prop :=
 match r with
 | .ok (.ret u) => CE outer P w H s Q u s'
 | .ok _ => False
 | .error e => CX outer H s E e s'
structure zhe (P : Program) (w : World) (K : xFg) (mg : Str -> Option Value) (base : Heap) (CX : CXT) (k : Nat) (f : Addr) (fd : FuncData) (ps : List Str) (sp : Sp) : Prop where
 len : ∀ vs H Q E, sp vs H Q E -> vs.length = ps.length
 run : ∀ (A : Around) (outer : List Env) (s : Shared) (H : Hp) (args : Args) (us : List Value) (vs : List V) (Q : VK) (E : XK), zfP k A -> zva P w K mg base A outer s H -> BindsTo s fd args (ps.zip us) -> zbf vs us -> sp vs H Q E ->
  codeAny (model P w) A (.call (.ref f) args) (CR CX outer P w H s Q E) s
theorem zhe.mono {P : Program} {w : World} {K : xFg} {mg : Str -> Option Value} {base : Heap} {CX : CXT} {j k : Nat} {f : Addr} {fd : FuncData} {ps : List Str} {sp : Sp} (F : zhe P w K mg base CX j f fd ps sp) (h : j <= k) :
  zhe P w K mg base CX k f fd ps sp := ⟨F.len, fun A outer s H args us vs Q E hr => F.run A outer s H args us vs Q E (hr.mono h)⟩
theorem zhe.imp {P : Program} {w : World} {K : xFg} {mg : Str -> Option Value} {base : Heap} {CX : CXT} {k : Nat} {f : Addr} {fd : FuncData} {ps : List Str} {sp sp' : Sp} (F : zhe P w K mg base CX k f fd ps sp)
  (h : ∀ vs H Q E, sp' vs H Q E -> sp vs H Q E) : zhe P w K mg base CX k f fd ps sp' :=
 ⟨fun vs H Q E q => F.len vs H Q E (h _ _ _ _ q), fun A outer s H args us vs Q E hr he hb hv hs => F.run A outer s H args us vs Q E hr he hb hv (h _ _ _ _ hs)⟩
section
variable {X : Cx} {pins : List (Addr × Obj)} {Z : St} {H : Hp} {s s' : Shared}
theorem Inv.env0 (I : Inv X pins Z H s) : zva X.prog X.w X.K X.mg X.base X.A X.stack s H :=
 ⟨I.ok.frames, I.ok.mod, I.bs, xba I.ok.bsz I.sz, I.stack, I.stkFree, I.hok, I.bare⟩
theorem Inv.after {Q : VK} {u : Value} (I : Inv X pins Z H s) (h : CE X.stack X.prog X.w H s Q u s') : EP X pins Z Q u s' := by
 obtain ⟨v, H', os, bare, un, hok, r, q⟩ := h
 obtain ⟨hh, g, d, t, os'⟩ := s'
 obtain rfl : os' = s.os := os
 exact ⟨v, H', I.call (h' := hh) (g' := g) (d' := d) (t' := t) (ch := []) un hok bare (fun b z => absurd z (by simp)), r, q⟩
end
def zvB (sp : Sp) (dvs : List V) (E : XK) (t : TA) : TE := fun Z H Q => t Z H fun vs H1 => sp (vs ++ dvs) H1 Q E
def za6 (K : xFg) (fd : FuncData) (ps : List Str) (ds : List Value) : Prop :=
 ∀ (s : Shared) (us : List Value), K.In s.heap -> (us ++ ds).length = ps.length -> BindsTo s fd ⟨us, []⟩ (ps.zip (us ++ ds))
theorem za6.all {K : xFg} {fd : FuncData} {ps : List Str} (h : ∀ us : List Value, us.length = ps.length -> bindArgs fd ⟨us, []⟩ = pure (ps.zip us)) : za6 K fd ps [] := fun s us _ hl => by
 rw [xb9] at hl ⊢
 exact .of_eq (h us hl)
def zix (CX : CXT) (X : Cx) (E : XK) : Prop := ∀ (pins : List (Addr × Obj)) (Z : St) (H : Hp) (s : Shared) (e : Value) (s' : Shared), Inv X pins Z H s -> CX X.stack H s E e s' -> X.xe e s'
section
variable {X : Cx} {CX : CXT} {k : Nat} {f C : Addr} {fd : FuncData} {ps : List Str} {sp : Sp} {dvs : List V} {ds : List Value} {E : XK} {x m : Str} {p pos apos : Pos} {e o : Expr} {es : List Expr} {ta : TE} {t : TA}
theorem ztF {pins : List (Addr × Obj)} {Z : St} {H : Hp} {s : Shared} {Q : VK} {us : List Value} {vs : List V} (F : zhe X.prog X.w X.K X.mg X.base CX k f fd ps sp) (hr : zfP k X.A) (hb : za6 X.K fd ps ds) (hd : zbf dvs ds) (hx : zix CX X E)
  (I : Inv X pins Z H s) (r : zbf vs us) (h : sp (vs ++ dvs) H Q E) : wpAny (model X.prog X.w) X.A (call (.ref f) us) (EP X pins Z Q) X.xe s := by
 have r2 : zbf (vs ++ dvs) (us ++ ds) := r.append hd
 have hl : (us ++ ds).length = ps.length := by rw [<- r2.length]; exact F.len _ _ _ _ h
 refine wpAny_call (codeAny_mono (F.run X.A X.stack s H ⟨us, []⟩ (us ++ ds) (vs ++ dvs) Q E hr I.env0 (hb s us I.kIn hl) r2 h) fun r s' hq => ?_)
 cases r with
 | error e => exact hx pins Z H s e s' I hq
 | ok fl =>
  cases fl with
  | ret u => exact I.after hq
  | next => exact False.elim hq
  | brk => exact False.elim hq
  | cont => exact False.elim hq
theorem zrU (F : zhe X.prog X.w X.K X.mg X.base CX k f fd ps sp) (hr : zfP k X.A) (hg : Gl X x) (hm : X.mg x = some (.ref f)) (hk : PySem.W.keepIn X.K (.ref f) = true) (hb : za6 X.K fd ps ds) (hd : zbf dvs ds) (hx : zix CX X E)
  (ha : PA X (e :: es) t) (hdb : (x == ("__debug__" : Str)) = false := by decide) (he : starEach (e :: es) X.env = (false, eval e X.env) :: starEach es X.env := by rfl) (hpl : (backTo pos (starEach es X.env)).any (·.1) = false := by rfl) :
  PE X (.Call (.Name x p) (e :: es) [] pos) (zvB sp dvs E t) := by
 intro pins s Z H Q I h
 refine wpAny_Call_Name_kw (zf2 I hg hm ?_ hdb)
 refine PySem.W.callWith_K (h₀ := X.base) I.ok.mod.kin hk (thn (ha pos pins s Z H _ I h) fun us s1 ⟨vs, H1, I1, r, q⟩ => ⟨I1.kIn, ?_⟩) he hpl
 exact ztF F hr hb hd hx I1 r q
end
structure zas (N P : List Str) (sc : Scope) : Prop where
 kind : sc.kind = .function
 co : sc.isCoroutine = false
 gen : sc.isGenerator = false
 nd : N.Nodup
 pre : N.take P.length = P
 par : ∀ x ∈ P, sc.names.lookup x = some .local \/ sc.names.lookup x = some .cell
 nofree : ∀ y ∈ sc.names, y.2 ≠ .free
theorem ziy {kindOf : Str -> Option NameKind} {x : Str} : ∀ {binds : List (Str × Value)} {m : Str -> Option Value}, (∀ v, (x, v) ∉ binds) -> bindL kindOf binds m x = m x
 | [], _, _ => rfl
 | (n, v) :: r, m, h => by
  unfold bindL
  rw [ziy fun w hw => h w (xab _ hw)]
  split
  ·have : x ≠ n := by rintro rfl; exact h v xae
   simp [this]
  ·rfl
theorem ziz {kindOf : Str -> Option NameKind} {x : Str} : ∀ {binds : List (Str × Value)} {m : Str -> Option Value}, (∀ v, (x, v) ∉ binds) -> bindC kindOf binds m x = m x
 | [], _, _ => rfl
 | (n, v) :: r, m, h => by
  unfold bindC
  rw [ziz fun w hw => h w (xab _ hw)]
  split
  ·rfl
  ·have : x ≠ n := by rintro rfl; exact h v xae
   simp [this]
theorem ziA {kindOf : Str -> Option NameKind} {x : Str} {v : Value} : ∀ {P : List Str} {vs : List Value} {i : Nat} {m : Str -> Option Value}, P.Nodup -> P[i]? = some x -> vs[i]? = some v -> kindOf x = some .local ->
  bindL kindOf (P.zip vs) m x = some v
 | [], _, _, _, _, h, _, _ => by simp at h
 | _ :: _, [], _, _, _, _, h, _ => by simp at h
 | p :: P, w :: vs, 0, m, nd, h1, h2, hk => by
  simp at h1 h2; subst h1; subst h2
  show bindL kindOf ((p, w) :: P.zip vs) m p = _
  unfold bindL
  rw [ziy fun v hv => (xbn.mp nd).1 (xck hv).1, if_pos hk]
  simp
 | p :: P, w :: vs, i + 1, m, nd, h1, h2, hk => by
  show bindL kindOf ((p, w) :: P.zip vs) m x = _
  unfold bindL
  exact ziA (i := i) (xbn.mp nd).2 (by simpa using h1) (by simpa using h2) hk
theorem ziB {kindOf : Str -> Option NameKind} {x : Str} {v : Value} : ∀ {P : List Str} {vs : List Value} {i : Nat} {m : Str -> Option Value}, P.Nodup -> P[i]? = some x -> vs[i]? = some v -> kindOf x ≠ some .local ->
  bindC kindOf (P.zip vs) m x = some v
 | [], _, _, _, _, h, _, _ => by simp at h
 | _ :: _, [], _, _, _, _, h, _ => by simp at h
 | p :: P, w :: vs, 0, m, nd, h1, h2, hk => by
  simp at h1 h2; subst h1; subst h2
  show bindC kindOf ((p, w) :: P.zip vs) m p = _
  unfold bindC
  rw [ziz fun v hv => (xbn.mp nd).1 (xck hv).1, if_neg hk]
  simp
 | p :: P, w :: vs, i + 1, m, nd, h1, h2, hk => by
  show bindC kindOf ((p, w) :: P.zip vs) m x = _
  unfold bindC
  exact ziB (i := i) (xbn.mp nd).2 (by simpa using h1) (by simpa using h2) hk
def start (N : List Str) (vs : List V) : St := vs.map some ++ List.replicate (N.length - vs.length) none
def zit (CX : CXT) (P : Program) (w : World) (K : xFg) (mg : Str -> Option Value) (base : Heap) (N : List Str) (qual : Str) (scope : Scope) (f : Addr) (cd : Value) (A : Around) (outer : List Env) (s : Shared) (H : Hp) (E : XK) : Cx where
 prog := P
 w := w
 K := K
 mg := mg
 base := base
 A := A.deeper (envOfC qual scope s.heap.objs.size f cd)
 N := N
 s₀ := s
 H₀ := H
 env := envOfC qual scope s.heap.objs.size f cd
 outer := outer
 stack := envOfC qual scope s.heap.objs.size f cd :: outer
 ex := []
 calm := true
 fn := fun _ => true
 pn := []
 xe := fun e s' => wpAny (model P w) (A.deeper (envOfC qual scope s.heap.objs.size f cd)) (leaving (envOfC qual scope s.heap.objs.size f cd) e) (fun _ s'' => CX outer H s E e s'') (fun e' s'' => CX outer H s E e' s'') s'
theorem zkI {sc : Scope} {n : Nat} {x : Str} (h : sc.names.lookup x = some .cell) : ∃ c, (cellsFrom n sc.names []).lookup x = some c := by
 have q := PySem.W.cellsFrom_some sc.names n [] (.inl h)
 exact xbc.mp q
theorem znc {CX : CXT} {P : Program} {w : World} {K : xFg} {mg : Str -> Option Value} {base : Heap} {N ps : List Str} {qual : Str} {scope : Scope} {f : Addr} {cd : Value} {A : Around} {outer : List Env} {s s1 : Shared} {H : Hp} {E : XK} {us : List Value} {vs : List V}
  (S : zas N ps scope) (hd : A.handled = none) (e0 : zva P w K mg base A outer s H) (hl : vs.length = ps.length) (r : zbf vs us)
  (x : InCallC s s.heap.objs.size (bindL (envOfC qual scope s.heap.objs.size f cd).kindOf (ps.zip us) fun _ => none) (cellsFrom (s.heap.objs.size + 1) scope.names []) (bindC (envOfC qual scope s.heap.objs.size f cd).kindOf (ps.zip us) fun _ => none) s1) :
  Inv (zit CX P w K mg base N qual scope f cd A outer s H E) [] (start N vs) H s1 := by
 have hpl : ps.length <= N.length := by have := congrArg List.length S.pre; rw [xbd] at this; omega
 obtain ⟨h1, tk, rfl, hk⟩ := x.done
 have noA : ∀ b : Addr, b ∉ (zit CX P w K mg base N qual scope f cd A outer s H E).ex := fun b z => absurd (show b ∈ ([] : List Addr) from z) (by simp)
 refine ⟨⟨e0.mod, S.kind, rfl, rfl, xaj _, fun y z c h1 h2 => ?_, fun y hy => ?_, fun y c _ h => ?_, fun _ => hd, Around.frames_deeper e0.frames, .inr ⟨rfl, rfl⟩, fun b z => absurd z (noA b), e0.bs, e0.bsz, fun b _ _ => noA b, fun b z => absurd z (noA b), e0.funs, e0.frf⟩,
  rfl, e0.bare, Un.kept hk, ⟨_, x.toInCall.ns, fun i y v h1 h2 h3 => ?_⟩, fun y c h => ⟨_, x.cell y c h⟩, e0.hok.fresh (xaj _), fun y c h => ?_, fun p hp => absurd (show p ∈ ([] : List (Addr × Obj)) from hp) (by simp), e0.hok.kept hk, ?_⟩
 ·exact name_of_addr x.apart (PySem.mem_of_lookup h1) (PySem.mem_of_lookup h2)
 ·have hy : scope.names.lookup y = some .cell \/ scope.names.lookup y = some .free := hy
  rcases hy with hy | hy
  ·exact zkI hy
  ·exact absurd rfl (S.nofree _ (PySem.mem_of_lookup hy))
 ·exact xcp (x.above y c (PySem.mem_of_lookup h))
 ·have hi : i < vs.length := by
   unfold start at h2
   by_cases hi : i < vs.length
   ·exact hi
   ·rw [xcf (by simpa using hi)] at h2
    rw [xcr] at h2
    split at h2 <;> cases h2
  have ha : vs[i]? = some v := by
   unfold start at h2
   rw [xb4 (by simpa using hi), xbl] at h2
   cases e : vs[i]? with
   | none => rw [e] at h2; cases h2
   | some a => rw [e] at h2; cases h2; rfl
  obtain ⟨u, hu, rv⟩ := r.get ha
  have hp : ps[i]? = some y := by
   rw [<- S.pre, List.getElem?_take_of_lt (by omega)]; exact h1
  have ndP : ps.Nodup := by rw [<- S.pre]; exact S.nd.sublist (List.take_sublist _ _)
  refine ⟨u, rv, ?_⟩
  rcases S.par y (xbf hp) with k | k
  ·exact .inl ⟨k, ziA ndP hp hu k⟩
  ·obtain ⟨c, e⟩ := zkI (n := s.heap.objs.size + 1) k
   refine .inr ⟨.inl k, c, e, ?_⟩
   have q := x.cell y c e
   rw [ziB ndP hp hu (by show scope.names.lookup y ≠ _; rw [k]; decide)] at q
   exact q
 ·exact e0.hok.fresh (xcp (x.above y c (PySem.mem_of_lookup h)))
 ·unfold start
  show _ = N.length
  rw [xby, xal, xc1]
  omega
theorem zvC {CX : CXT} {P : Program} {w : World} {K : xFg} {mg : Str -> Option Value} {base : Heap} {k : Nat} {f : Addr} {name qual : Str} {params : Arguments} {body : List Stmt} {scope : Scope} {dV kV doc pm cdv ct oc : Value} {an od : Option Addr}
  {osl : Array (Option Value)} {N ps : List Str} {sp : Sp} (lk : K.lookup f = some ⟨oc, od, .func (PySem.W.fnOf name qual params body scope dV kV doc pm an cdv ct), osl⟩) (hcd : PySem.W.codeIn K cdv qual = true) (S : zas N ps scope)
  (len : ∀ vs H Q E, sp vs H Q E -> vs.length = ps.length)
  (hbody : ∀ (A : Around) (outer : List Env) (s : Shared) (H : Hp) (vs : List V) (Q : VK) (E : XK), zfP k (A.deeper (envOfC qual scope s.heap.objs.size f cdv)) -> sp vs H Q E ->
   ∃ t, PSs (zit CX P w K mg base N qual scope f cdv A outer s H E) body t /\ t { nx := fun _ H' => Q .non H', rt := Q } (start N vs) H) :
  zhe P w K mg base CX (k + 1) f (PySem.W.fnOf name qual params body scope dV kV doc pm an cdv ct) ps sp := by
 refine ⟨len, fun A outer s H args us vs Q E hr e0 hb r hsp => ?_⟩
 have hl := len _ _ _ _ hsp
 have KX : K.In s.heap := e0.mod.kin.keeps fun b o e => (e0.bs b o e).1
 have lim : s.heap.NoLimit := e0.mod.nolimit.keeps fun b o e => (e0.bs b o e).1
 have hkind : ∀ y ∈ ps.zip us, scope.names.lookup y.1 = some .local \/ (scope.names.lookup y.1 = some .cell /\ ((cellsFrom (s.heap.objs.size + 1) scope.names []).lookup y.1).isSome = true) := fun ⟨n, v⟩ hy => by
  rcases S.par n (xck hy).1 with q | q
  ·exact .inl q
  ·exact .inr ⟨q, PySem.W.cellsFrom_some _ _ _ (.inl q)⟩
 refine codeAny_call_function hr.depth (KX _ _ lk) rfl S.co S.gen rfl (PySem.W.codeRec_of KX hcd) (hb _ _ _ _ ?_)
 refine wpAny_newFunctionEnv_cells S.kind hkind fun env he s1 x => ?_
 subst he
 refine ⟨lim.keeps x.toInCall.keep, codeAny_func ?_⟩
 obtain ⟨t, ht, hq⟩ := hbody A outer s H vs Q E (hr.deeper _) hsp
 have I : Inv (zit CX P w K mg base N qual scope f cdv A outer s H E) [] (start N vs) H s1 := znc S hr.hd e0 hl r x
 refine wpAny_mono (ht [] s1 (start N vs) H _ I hq) (fun fl s' hs => ?_) fun e s' hs => hs
 have fin : ∀ {Z' : St} {H' : Hp} {v : V} {u : Value}, Inv (zit CX P w K mg base N qual scope f cdv A outer s H E) [] Z' H' s' -> RelV v u -> Q v H' -> CE outer P w H s Q u s' :=
  fun {Z' H' v u} J rv q => ⟨v, H', J.os, J.bare, J.base, J.hok, rv, q⟩
 cases fl with
 | ret u =>
  obtain ⟨v, Z', H', J, rv, q⟩ := hs
  exact fin J rv q
 | next =>
  obtain ⟨Z', H', J, q⟩ := hs
  exact fin (v := V.non) (u := Value.none) J rfl q
 | brk =>
  obtain ⟨_, _, _, q⟩ := hs
  exact False.elim q
 | cont =>
  obtain ⟨_, _, _, q⟩ := hs
  exact False.elim q
end L2
namespace L2
open PySem.Spec PyProof.Rows
section
variable {X : Cx} {x : Str} {p pos : Pos} {e : Expr} {es : List Expr} {t : TA} {id T : String} {r : List V -> Hp -> VK -> Prop}
def tCB (r : List V -> Hp -> VK -> Prop) (t : TA) : TE := fun Z H Q => t Z H fun vs H1 => r vs H1 Q
theorem zhG (hc : zdd X (.builtin id) r) (hg : Gl X x) (hm : X.mg x = none) (hv : bootBuiltins x = some (.builtin id)) (ha : PA X (e :: es) t) (hn : x ≠ "__name__" := by decide) (hdb : (x == ("__debug__" : Str)) = false := by decide)
  (he : starEach (e :: es) X.env = (false, eval e X.env) :: starEach es X.env := by rfl) (hpl : (backTo pos (starEach es X.env)).any (·.1) = false := by rfl) : PE X (.Call (.Name x p) (e :: es) [] pos) (tCB r t) := by
 intro pins s Z H Q I h
 refine wpAny_Call_Name_kw (zkH I hg hm hv ?_ hn hdb)
 exact PyProof.Rows.callWith_builtin1 (thn (ha pos pins s Z H _ I h) fun us s1 ⟨vs, H1, I1, r1, q1⟩ => hc pins s1 Z H1 vs us Q I1 r1 q1) he hpl
theorem ziC (hc : zdd X (.type T) r) (hg : Gl X x) (hm : X.mg x = none) (hv : bootBuiltins x = some (.type T)) (ha : PA X (e :: es) t) (hn : x ≠ "__name__" := by decide) (hdb : (x == ("__debug__" : Str)) = false := by decide)
  (he : starEach (e :: es) X.env = (false, eval e X.env) :: starEach es X.env := by rfl) (hpl : (backTo pos (starEach es X.env)).any (·.1) = false := by rfl) : PE X (.Call (.Name x p) (e :: es) [] pos) (tCB r t) := by
 intro pins s Z H Q I h
 refine wpAny_Call_Name_kw (zkH I hg hm hv ?_ hn hdb)
 exact PyProof.Rows.callWith_type1 (thn (ha pos pins s Z H _ I h) fun us s1 ⟨vs, H1, I1, r1, q1⟩ => hc pins s1 Z H1 vs us Q I1 r1 q1) he hpl
end
end L2
namespace HT
open PyProof.Rows
section
variable {prog : Program} {w : World} {A : Around} {E : Value -> Shared -> Prop} {s : Shared}
theorem cat_tup {t b : Addr} {vs ws : List Value} {Q : Value -> Shared -> Prop} (ht : IsTup s.heap t vs.toArray) (hb : IsTup s.heap b ws.toArray) (hv : vs ≠ [])
  (h1 : ws = [] -> Q (.ref t) s) (h2 : ws ≠ [] -> Q (.ref s.heap.objs.size) { s with heap := s.heap.push { cls := .type "tuple", data := .seq (vs ++ ws).toArray } })
  (hsz : vs.length + ws.length <= sizeLine) : wpAny (model prog w) A (binaryOp .Add (.ref t) (.ref b)) Q E s := by
 obtain ⟨⟨cls, dd, data, sl⟩, ho, hc, n, hd⟩ := id ht
 obtain ⟨⟨cls2, dd2, data2, sl2⟩, ho2, hc2, n2, hd2⟩ := id hb
 simp only at hc hd hc2 hd2
 subst hc hd hc2 hd2
 have e : vs.toArray ++ ws.toArray = (vs ++ ws).toArray := by simp
 by_cases hw : ws = []
 ·exact concat_meets ⟨_, ho, rfl⟩ ⟨_, ho2, rfl⟩ noFill_tuple_add seq_tuple_add PySem.F.slot_tuple_add PySem.F.entry_tuple_add (PySem.F.args_tuple_add_2 _ _)
   (tuple_addW1 t b vs.toArray ws.toArray n n2 dd dd2 sl sl2 (by simpa using hv) (by simp [hw])) ⟨ho, ho2, h1 hw⟩
 ·refine concat_meets ⟨_, ho, rfl⟩ ⟨_, ho2, rfl⟩ noFill_tuple_add seq_tuple_add PySem.F.slot_tuple_add PySem.F.entry_tuple_add (PySem.F.args_tuple_add_2 _ _)
   (tuple_addW2 t b vs.toArray ws.toArray n n2 dd dd2 sl sl2 (by simpa using hv) (by simpa using hw) (by rw [xag, xag]; exact hsz)) ⟨ho, ho2, ?_⟩
  rw [e]
  exact h2 hw
def sIx (n d : Nat) : Option Int -> Nat
 | none => d
 | some v => if v < 0 then (v + (n : Int)).toNat else min v.toNat n
theorem sIx_none (n d : Nat) : sIx n d none = d := rfl
theorem sIx_nat (n d k : Nat) : sIx n d (some (k : Int)) = min k n := by
 show (if (k : Int) < 0 then ((k : Int) + (n : Int)).toNat else min (k : Int).toNat n) = min k n
 rw [if_neg (by omega), Int.toNat_natCast]
theorem ztG (n d : Nat) (hd : d <= n) (o : Option Int) : sIx n d o <= n := by
 cases o with
 | none => exact hd
 | some v =>
  show (if v < 0 then (v + (n : Int)).toNat else min v.toNat n) <= n
  by_cases hv : v < 0
  ·rw [if_pos hv]; omega
  ·rw [if_neg hv]; exact Nat.min_le_right _ _
theorem znd (v : Int) (n d : Nat) : (if v < 0 then max (v + (n : Int)) 0 else min v (n : Int)) = ((sIx n d (some v) : Nat) : Int) := by
 show (if v < 0 then max (v + (n : Int)) 0 else min v (n : Int)) = (((if v < 0 then (v + (n : Int)).toNat else min v.toNat n) : Nat) : Int)
 by_cases hv : v < 0
 ·simp only [if_pos hv]; omega
 ·simp only [if_neg hv]; omega
theorem zmf (lo hi : Option Int) (n : Nat) : Builtin.Slice.sliceAdjust lo hi 1 (n : Int) = (((sIx n 0 lo : Nat) : Int), ((sIx n n hi : Nat) : Int)) := by
 have h1 : ¬ ((1 : Int) < 0) := by omega
 unfold Builtin.Slice.sliceAdjust
 simp only [h1, if_false]
 refine xax ?_ ?_
 ·cases lo with
  | none => rfl
  | some v => exact znd v n 0
 ·cases hi with
  | none => rfl
  | some v => exact znd v n n
theorem zmg (i j : Nat) : Builtin.Slice.slicePlaces (i : Int) (j : Int) 1 = j - i := by
 unfold Builtin.Slice.slicePlaces
 have h1 : (1 : Int) > 0 := by omega
 simp only [h1, if_true, Int.ediv_one]
 split <;> omega
theorem zhf {v : Value} {o : Option Int} {Q : Option Int -> Shared -> Prop} (p : IsPart v o) (h : Q o s) : wpAny (model prog w) A (Builtin.Slice.slicePartIndex v) Q E s := by
 cases p with
 | none => exact slicePart_none h
 | int i t => exact slicePart_int h
theorem zfQ {sl : Addr} {vl vu : Value} {lo hi : Option Int} {n : Nat} {Q : Int × Int × Nat -> Shared -> Prop} (hs : s.heap.IsSliceOf sl vl vu .none) (pl : IsPart vl lo) (pu : IsPart vu hi)
  (h : Q (((sIx n 0 lo : Nat) : Int), 1, sIx n n hi - sIx n 0 lo) s) : wpAny (model prog w) A (Builtin.Slice.sliceApplied (.ref sl) (pure (n : Int))) Q E s := by
 obtain ⟨os, hos, hcs, hds⟩ := id hs
 unfold Builtin.Slice.sliceApplied Builtin.Slice.sliceFields
 refine wpAny_bind (wpAny_bind (wpAny_field hos hds (x := vl) rfl (wpAny_bind (wpAny_field hos hds (x := vu) rfl (wpAny_bind (wpAny_field hos hds (x := .none) rfl (wpAny_pure ?_)))))))
 refine wpAny_bind (slicePart_none ?_)
 show wpAny _ _ (if ((1 : Int) == 0) = true then _ else _) _ _ s
 rw [if_neg (by decide)]
 refine wpAny_bind (zhf pl (wpAny_bind (zhf pu (wpAny_bind (wpAny_pure ?_)))))
 show wpAny _ _ (match Builtin.Slice.sliceAdjust lo hi 1 (n : Int) with | (lo, hi) => pure (lo, (1 : Int), Builtin.Slice.slicePlaces lo hi 1)) _ _ s
 rw [zmf lo hi n]
 show wpAny _ _ (pure (((sIx n 0 lo : Nat) : Int), (1 : Int), Builtin.Slice.slicePlaces ((sIx n 0 lo : Nat) : Int) ((sIx n n hi : Nat) : Int) 1)) _ _ s
 rw [zmg]
 exact wpAny_pure h
theorem zpt (xs : Array Value) (i k : Nat) : ((List.range k).filterMap fun (m : Nat) => xs[((i : Int) + (m : Int) * 1).toNat]?).toArray = ((xs.toList.drop i).take k).toArray := by
 have e : (fun (m : Nat) => xs[((i : Int) + (m : Int) * 1).toNat]?) = fun m => xs[i + m]? := by
  funext m
  have : ((i : Int) + (m : Int) * 1).toNat = i + m := by omega
  rw [this]
 rw [e]
 have := pick_run xs i k
 rw [List.filterMap_map] at this
 have e2 : ((fun x => xs[x]?) ∘ fun x => i + x) = fun m => xs[i + m]? := rfl
 rw [e2] at this
 rw [this]
theorem getItem_tuple_cut {t sl : Addr} {items : Array Value} {vl vu : Value} {lo hi : Option Int} {Q : Value -> Shared -> Prop} (ht : IsTup s.heap t items) (hs : s.heap.IsSliceOf sl vl vu .none) (pl : IsPart vl lo) (pu : IsPart vu hi)
  (hw : ¬ (sIx items.size 0 lo = 0 /\ sIx items.size items.size hi = items.size))
  (h : Q (.ref s.heap.objs.size) { s with heap := s.heap.push { cls := .type "tuple", data := .seq ((items.toList.drop (sIx items.size 0 lo)).take (sIx items.size items.size hi - sIx items.size 0 lo)).toArray } })
  (hsz : items.size <= sizeLine) : wpAny (model prog w) A (getItem (.ref t) (.ref sl)) Q E s := by
 have htake : sizeOk (.seq ((items.toList.drop (sIx items.size 0 lo)).take (sIx items.size items.size hi - sIx items.size 0 lo)).toArray) := by
  show ((items.toList.drop (sIx items.size 0 lo)).take (sIx items.size items.size hi - sIx items.size 0 lo)).toArray.size <= sizeLine
  rw [xag, xbd, xbv, xan]
  omega
 have hj : sIx items.size items.size hi <= items.size := ztG _ _ (xaj _) hi
 obtain ⟨os, hos, hcs, hds⟩ := id hs
 have hTs : s.TypeIs (.ref sl) "slice" := ⟨os, hos, hcs⟩
 unfold getItem
 try with_reducible refine wpAny_holding ?_
 first | refine wpAny_bind (wpAny_pure ?_) | skip
 refine wpAny_bind (wpAny_sequenceKey ht.typeIs (by decide) ?_)
 refine wpAny_bind (wpAny_callSpecial?_slot (name := Str.ofString "__getitem__") ht.typeIs PyProof.Rows.slot_tuple_getitem
  (wpAny_call_entry PyProof.Rows.slot_tuple_getitem ht.typeIs entry_tuple_getitem ?_ (args_tuple_getitem _ _)))
 show wpAny _ _ (Builtin.Tuple.tupleItemsOf (.ref t) >>= _) _ _ s
 refine wpAny_bind (tupleItemsOf_ ht ?_)
 refine wpAny_bind (wpAny_typeOf hTs ?_)
 rw [if_pos (by decide)]
 refine wpAny_bind (zfQ hs pl pu ?_)
 have hno : ¬ ((((sIx items.size 0 lo : Nat) : Int) == 0 && (1 : Int) == 1 && (sIx items.size items.size hi - sIx items.size 0 lo) == items.size) = true) := by
  intro q
  rw [xav, xav] at q
  have q1 : ((sIx items.size 0 lo : Nat) : Int) = 0 := eq_of_beq q.1.1
  have q2 : sIx items.size items.size hi - sIx items.size 0 lo = items.size := eq_of_beq q.2
  exact hw ⟨by omega, by omega⟩
 show wpAny _ _ (if (((sIx items.size 0 lo : Nat) : Int) == 0 && (1 : Int) == 1 && (sIx items.size items.size hi - sIx items.size 0 lo) == items.size) = true then _ else _) _ _ s
 rw [if_neg hno, zpt]
 first
  | exact wpAny_bind (m := Builtin.Tuple.tupleExact _) (wpAny_newObj_type (wpAny_pure ⟨_, rfl, wpAny_pure h⟩) htake)
  | exact wpAny_bind (m := Builtin.Tuple.tupleExact _) (wpAny_newObj_type (wpAny_bind (wpAny_pure (wpAny_pure ⟨_, rfl, wpAny_pure h⟩))) htake)
  | exact wpAny_bind (wpAny_bind (m := Builtin.Tuple.tupleExact _) (wpAny_newObj_type (wpAny_pure (wpAny_pure ⟨_, rfl, wpAny_pure h⟩)) htake))
  | exact wpAny_bind (wpAny_bind (m := Builtin.Tuple.tupleExact _) (wpAny_newObj_type (wpAny_pure ⟨_, rfl, wpAny_pure h⟩) htake))
end
end HT
namespace L2
open PySem.Spec PyProof.Rows
abbrev TO := St -> Hp -> (Option Int -> Hp -> Prop) -> Prop
def PO (X : Cx) (e : Option Expr) (t : TO) : Prop :=
 ∀ (pins : List (Addr × Obj)) (s : Shared) (Z : St) (H : Hp) (Q : Option Int -> Hp -> Prop), Inv X pins Z H s -> t Z H Q ->
  wpAny (model X.prog X.w) X.A (evalPart e X.env) (fun u s' => ∃ o H', Inv X pins Z H' s' /\ IsPart u o /\ Q o H') X.xe s
def zrV : TO := fun _ H Q => Q none H
def zvD (t : TE) : TO := fun Z H Q => t Z H fun x H1 => ∃ i, x = .int i /\ Q (some i) H1
theorem zmh {ns : List Int} : ∀ {us : List Value}, zbf (ns.map V.int) us -> IntsAre us ns := by
 induction ns with
 | nil => intro us r; rw [xbz] at r; cases r; exact .nil
 | cons n ns ih =>
  intro us r
  rw [xat] at r
  cases r with
  | cons r1 r2 =>
   obtain ⟨t, e⟩ := r1
   subst e
   exact .cons n t (ih r2)
section
variable {X : Cx} {e : Expr} {te : TE} {lo hi : Option Expr} {tl th : TO} {pos p2 : Pos}
theorem zrW : PO X none zrV := by
 intro pins s Z H Q I h
 rw [evalPart_none]
 exact wpAny_pure ⟨none, H, I, .none, h⟩
theorem zrX (h : PE X e te) : PO X (some e) (zvD te) := by
 intro pins s Z H Q I hw
 rw [evalPart_some]
 refine thn (h pins s Z H _ I hw) fun u s1 ⟨x, H1, I1, r1, q1⟩ => ?_
 obtain ⟨i, rfl, q⟩ := q1
 obtain ⟨t, rfl⟩ := r1
 exact ⟨some i, H1, I1, .int i t, q⟩
def SlR (X : Cx) (r : V -> Option Int -> Option Int -> Hp -> VK -> Prop) : Prop :=
 ∀ (pins : List (Addr × Obj)) (s : Shared) (Z : St) (H : Hp) (x : V) (v vl vu : Value) (lo hi : Option Int) (sl : Addr) (Q : VK), Inv X pins Z H s -> RelV x v -> s.heap.IsSliceOf sl vl vu .none -> IsPart vl lo -> IsPart vu hi -> r x lo hi H Q ->
  ∃ T id, typeLookup (.type T) "__getitem__" = pure (some (.builtin id)) /\ s.TypeIs v T /\ wpAny (model X.prog X.w) X.A (getItem v (.ref sl)) (EP X pins Z Q) X.xe s
theorem SlR.or {r r' : V -> Option Int -> Option Int -> Hp -> VK -> Prop} (h : SlR X r) (h' : SlR X r') : SlR X (fun x lo hi H Q => r x lo hi H Q \/ r' x lo hi H Q) := by
 intro pins s Z H x v vl vu lo hi sl Q I rx hs pl pu q
 rcases q with q | q
 ·exact h pins s Z H x v vl vu lo hi sl Q I rx hs pl pu q
 ·exact h' pins s Z H x v vl vu lo hi sl Q I rx hs pl pu q
def tSl (r : V -> Option Int -> Option Int -> Hp -> VK -> Prop) (te : TE) (tl th : TO) : TE := fun Z H Q => te Z H fun x H1 => tl Z H1 fun l H2 => th Z H2 fun u H3 => r x l u H3 Q
theorem zpu {r : V -> Option Int -> Option Int -> Hp -> VK -> Prop} (hr : SlR X r) (he : PE X e te) (hl : PO X lo tl) (hu : PO X hi th) : PE X (.Subscript e (.Slice lo hi none p2) pos) (tSl r te tl th) := by
 intro pins s Z H Q I h
 refine Subscript_ (thn (he pins s Z H _ I h) fun v s1 ⟨x, H1, I1, r1, q1⟩ => ?_)
 refine wpAny_Slice (thn (hl pins s1 Z H1 _ I1 q1) fun vl s2 ⟨l, H2, I2, pl, q2⟩ => thn (hu pins s2 Z H2 _ I2 q2) fun vu s3 ⟨u, H3, I3, pu, q3⟩ => ?_)
 rw [evalPart_none]
 refine wpAny_pure ?_
 have I4 : Inv X pins Z H3 { s3 with heap := s3.heap.push { cls := .type "slice", data := .fields #[vl, vu, .none] } } := I3.kept (t' := s3.toks) fun b ob q => xaa _ q
 obtain ⟨T, id, hT, ht, hg⟩ := hr pins { s3 with heap := s3.heap.push { cls := .type "slice", data := .fields #[vl, vu, .none] } } Z H3 x v vl vu l u s3.heap.objs.size Q I4 r1 (Heap.IsSliceOf.new ..) pl pu q3
 show wpAny (model X.prog X.w) X.A (subscriptTail e (.Slice lo hi none p2) v (.ref s3.heap.objs.size)) (EP X pins Z Q) X.xe { s3 with heap := s3.heap.push { cls := .type "slice", data := .fields #[vl, vu, .none] } }
 exact tail_any (ops := [.ref s3.heap.objs.size, v]) ht hT hg (by with_unfolding_all rfl)
def zpg (xs : List V) (lo hi : Option Int) : List V := (xs.drop (HT.sIx xs.length 0 lo)).take (HT.sIx xs.length xs.length hi - HT.sIx xs.length 0 lo)
theorem zf3 (xs : List V) (lo hi : Option Int) : (zpg xs lo hi).length <= xs.length := by
 unfold zpg
 rw [xbd, xbv]
 omega
def rSlT (K : xFg) : V -> Option Int -> Option Int -> Hp -> VK -> Prop := fun x lo hi H Q => ∃ a xs, x = .ref a /\ SqT K H a xs /\
 ¬ (HT.sIx xs.length 0 lo = 0 /\ HT.sIx xs.length xs.length hi = xs.length) /\ ∀ p, H p = none -> Q (.ref p) (upd H p (.tup (zpg xs lo hi)))
theorem ztH : SlR X (rSlT X.K) := by
 intro pins s Z H x v vl vu lo hi sl Q I rx hs pl pu h
 obtain ⟨a, xs, rfl, hx, hw, q⟩ := h
 cases rx
 obtain ⟨its, r, ht, hz⟩ := I.tuple hx
 have hlen : its.toArray.size = xs.length := by rw [xag]; exact r.length.symm
 refine ⟨"tuple", _, PyProof.Rows.slot_tuple_getitem.lookup, ht.typeIs, ?_⟩
 refine HT.getItem_tuple_cut ht hs pl pu (by rw [hlen]; exact hw) ?_ (by rw [hlen]; exact hz)
 rw [hlen]
 refine ⟨.ref s.heap.objs.size, _, I.laid (t' := s.toks) (o := .tup (zpg xs lo hi)) (fun b ob q => xaa _ q) (xaj _) ?_, rfl, q _ (I.hok.fresh (xaj _))⟩
 exact ⟨xba (zf3 xs lo hi) hz, _, (r.drop (HT.sIx xs.length 0 lo)).take (HT.sIx xs.length xs.length hi - HT.sIx xs.length 0 lo), IsTup.new _ _⟩
def ztI (K : xFg) : R2 := fun x y H Q => ∃ a b xs ys, x = .ref a /\ y = .ref b /\ SqT K H a xs /\ SqT K H b ys /\ xs ≠ [] /\ xs.length + ys.length <= sizeLine /\
 (ys = [] -> Q (.ref a) H) /\ (ys ≠ [] -> ∀ p, H p = none -> Q (.ref p) (upd H p (.tup (xs ++ ys))))
theorem zbf.nil_iff {xs : List V} {us : List Value} (r : zbf xs us) : us = [] ↔ xs = [] := by
 cases r with
 | nil => simp
 | cons _ _ => simp
theorem zrY : OpR X (binaryOp .Add) (ztI X.K) := by
 intro pins s Z H x y v u Q I rx ry h
 obtain ⟨a, b, xs, ys, rfl, rfl, ha, hb, hx, hz, q1, q2⟩ := h
 cases rx
 cases ry
 obtain ⟨its, r1, p1, _⟩ := I.tuple ha
 obtain ⟨its2, r2, p2, _⟩ := I.tuple hb
 refine HT.cat_tup p1 p2 (fun z => hx (r1.nil_iff.mp z)) (fun z => ⟨.ref a, H, I, rfl, q1 (r2.nil_iff.mp z)⟩) (fun z => ?_) (by rw [<- r1.length, <- r2.length]; exact hz)
 refine ⟨.ref s.heap.objs.size, _, I.laid (t' := s.toks) (o := .tup (xs ++ ys)) (fun b ob q => xaa _ q) (xaj _) ?_, rfl, q2 (fun w => z (r2.nil_iff.mpr w)) _ (I.hok.fresh (xaj _))⟩
 exact ⟨by rw [xby]; exact hz, _, r1.append r2, IsTup.new _ _⟩
end
end L2
namespace L2
open PySem.Spec PyProof.Rows
def ixN (n : Nat) (i : Int) : Option Nat := if 0 <= i then (if i < n then some i.toNat else none) else if -(n : Int) <= i then some (i + n).toNat else none
def atI {α : Type} (xs : List α) (i : Int) : Option α := (ixN xs.length i).bind fun j => xs[j]?
theorem zne {n : Nat} {i : Int} {j : Nat} (h : ixN n i = some j) : seqIndex? i n = some j /\ j < n /\ -(n : Int) <= i /\ i < n := by
 unfold ixN at h
 by_cases h0 : 0 <= i
 ·rw [if_pos h0] at h
  by_cases h1 : i < n
  ·rw [if_pos h1] at h
   have e : i.toNat = j := Option.some.inj h
   exact ⟨by rw [seqIndex_of h0 h1, e], by omega, by omega, h1⟩
  ·rw [if_neg h1] at h; cases h
 ·rw [if_neg h0] at h
  by_cases h1 : -(n : Int) <= i
  ·rw [if_pos h1] at h
   have e : (i + n).toNat = j := Option.some.inj h
   exact ⟨by rw [seqIndex_neg (by omega) h1, e], by omega, h1, by omega⟩
  ·rw [if_neg h1] at h; cases h
theorem znf {α : Type} {xs : List α} {i : Int} {v : α} (h : atI xs i = some v) : ∃ j, seqIndex? i xs.length = some j /\ xs[j]? = some v /\ j < xs.length /\ -(xs.length : Int) <= i /\ i < xs.length := by
 unfold atI at h
 cases e : ixN xs.length i with
 | none => rw [e] at h; cases h
 | some j =>
  rw [e] at h
  obtain ⟨h1, h2, h3, h4⟩ := zne e
  exact ⟨j, h1, h, h2, h3, h4⟩
theorem zrZ {α : Type} {xs : List α} {j : Nat} {v : α} (h : xs[j]? = some v) : atI xs (j : Int) = some v := by
 have hj : j < xs.length := (xah.mp h).1
 have e : ixN xs.length (j : Int) = some j := by
  unfold ixN
  rw [if_pos (by omega), if_pos (by omega)]; simp
 unfold atI; rw [e]; exact h
theorem zpv {α : Type} (xs : List α) (v : α) : atI (xs ++ [v]) (-1) = some v := by
 have hl : (xs ++ [v]).length = xs.length + 1 := by simp
 have e : ixN (xs ++ [v]).length (-1) = some xs.length := by
  unfold ixN
  rw [hl, if_neg (by decide), if_pos (by omega)]
  congr 1
  omega
 unfold atI
 rw [e]
 show (xs ++ [v])[xs.length]? = some v
 simp
def zng (b : Expr) : Prop := ∀ o i, subscripted b false o i = operate [o, i] (getItem o i)
def IxR (X : Cx) (r : R2) : Prop :=
 ∀ (value slice : Expr) (pins : List (Addr × Obj)) (s : Shared) (Z : St) (H : Hp) (x y : V) (v u : Value) (Q : VK), Inv X pins Z H s -> RelV x v -> RelV y u -> r x y H Q ->
  subscripted slice false v u = operate [v, u] (getItem v u) -> wpAny (model X.prog X.w) X.A (subscriptTail value slice v u) (EP X pins Z Q) X.xe s
def MtR (X : Cx) (id : String) (r : V -> List V -> Hp -> VK -> Prop) : Prop :=
 ∀ (pins : List (Addr × Obj)) (s : Shared) (Z : St) (H : Hp) (x : V) (xs : List V) (v : Value) (us : List Value) (Q : VK), Inv X pins Z H s -> RelV x v -> zbf xs us -> r x xs H Q ->
  wpAny (model X.prog X.w) X.A (call (.builtin id) (v :: us)) (EP X pins Z Q) X.xe s
section
variable {X : Cx} {a b : Expr} {ta tb : TE} {pos : Pos}
theorem IxR.or {r r' : R2} (h : IxR X r) (h' : IxR X r') : IxR X (fun x y H Q => r x y H Q \/ r' x y H Q) := by
 intro value slice pins s Z H x y v u Q I rx ry q hs
 rcases q with q | q
 ·exact h value slice pins s Z H x y v u Q I rx ry q hs
 ·exact h' value slice pins s Z H x y v u Q I rx ry q hs
theorem zvE {r : R2} (hr : IxR X r) (ha : PE X a ta) (hb : PE X b tb) (hs : zng b) : PE X (.Subscript a b pos) (tOp r ta tb) := by
 intro pins s Z H Q I h
 exact Subscript_ (zvt ha hb I h fun v u s2 x y H2 I2 rx ry q => hr a b pins s2 Z H2 x y v u Q I2 rx ry q (hs _ _))
def rIxL (K : xFg) : R2 := fun x y H Q => ∃ p xs i v, x = .ref p /\ y = .int i /\ SqL K H p xs /\ atI xs i = some v /\ Q v H
def rIxT (K : xFg) : R2 := fun x y H Q => ∃ p xs i v, x = .ref p /\ y = .int i /\ SqT K H p xs /\ atI xs i = some v /\ Q v H
theorem zr0 : IxR X (rIxL X.K) := by
 intro value slice pins s Z H x y v u Q I rx ry h hs
 obtain ⟨p, xs, i, z, rfl, rfl, hq, he, q⟩ := h
 cases rx
 obtain ⟨t, rfl⟩ := ry
 obtain ⟨its, r, pl, hz⟩ := I.list hq
 obtain ⟨j, h1, h2, h3, h4, h5⟩ := znf he
 obtain ⟨w, ew, rw'⟩ := r.get h2
 have hl := r.length
 have hn := ziw
 have fin : EP X pins Z Q w s := ⟨z, H, I, rw', q⟩
 by_cases h0 : 0 <= i
 ·have hj : i.toNat = j := by
   rw [seqIndex_of h0 h5] at h1
   exact Option.some.inj h1
  exact item_listR pl.isList h0 (by omega) (by rw [hj]; simpa using ew) fin hs
 ·have hj : (i + (its.toArray.size : Int)).toNat = j := by
   rw [seqIndex_neg (by omega) h4] at h1
   rw [xag, <- hl]
   exact Option.some.inj h1
  exact subscriptTail_builtinR (x := w) pl.isList.typeIs slot_list_getitem.lookup
   (wpAny_getItem_list_neg (Q := fun r s' => r = w /\ EP X pins Z Q r s') pl.isList (by omega) (by rw [xag] <;> omega) (by omega) (by rw [hj]; simpa using ew) ⟨rfl, fin⟩) hs
theorem ztJ : IxR X (rIxT X.K) := by
 intro value slice pins s Z H x y v u Q I rx ry h hs
 obtain ⟨p, xs, i, z, rfl, rfl, hq, he, q⟩ := h
 cases rx
 obtain ⟨t, rfl⟩ := ry
 obtain ⟨its, r, pl, hz⟩ := I.tuple hq
 obtain ⟨j, h1, h2, h3, h4, h5⟩ := znf he
 obtain ⟨w, ew, rw'⟩ := r.get h2
 have hl := r.length
 have hn := ziw
 have fin : EP X pins Z Q w s := ⟨z, H, I, rw', q⟩
 exact subscriptTail_builtinR (x := w) pl.typeIs slot_tuple_getitem.lookup
  (getItem_tuple (j := j) (Q := fun r s' => r = w /\ EP X pins Z Q r s') pl (by omega) (by omega) (by rw [xag, <- hl]; exact h1) (by simpa using ew) ⟨rfl, fin⟩) hs
theorem zmi (its : List Value) (n j : Nat) (u : Value) : Obj.mapSeq (·.setIfInBounds j u) { cls := .type "list", data := .seq its.toArray n } = { cls := .type "list", data := .seq (its.set j u).toArray n } := by
 simp [Obj.mapSeq]
theorem Inv.lst {pins : List (Addr × Obj)} {Z : St} {H : Hp} {s : Shared} {p : Addr} {xs : List V} (I : Inv X pins Z H s) (h : H p = some (.lst xs)) :
  ∃ (its : List Value) (n : Nat), zbf xs its /\ s.heap.get? p = some { cls := .type "list", data := .seq its.toArray n } /\ xs.length <= sizeLine := by
 obtain ⟨z, its, n, r, e⟩ := I.hok p _ h
 exact ⟨its, n, r, e, z⟩
theorem Inv.lstUpd {pins : List (Addr × Obj)} {Z : St} {H : Hp} {s : Shared} {p : Addr} {xs ys : List V} {its its' : List Value} {n n' : Nat} {f : Obj -> Obj} (I : Inv X pins Z H s) (h : H p = some (.lst xs))
  (ho : s.heap.get? p = some { cls := .type "list", data := .seq its.toArray n }) (hf : f { cls := .type "list", data := .seq its.toArray n } = { cls := .type "list", data := .seq its'.toArray n' }) (r : zbf ys its') (hz : ys.length <= sizeLine) (t : Nat) :
  Inv X pins Z (upd H p (.lst ys)) { s with heap := s.heap.update p f, toks := t } := by
 have e : (s.heap.update p f).get? p = some { cls := .type "list", data := .seq its'.toArray n' } := by
  rw [xcc f ho (by rw [hf] <;> rfl), hf]
 refine I.write (x := p) (e := p) (by rw [h]; trivial) (.inl rfl) (fun b u hb q => (xbg _ _ (xa3 hb)).trans q) ⟨_, e⟩ ?_
 exact ⟨hz, its', n', r, e⟩
def zvF : V -> V -> V -> Hp -> (Hp -> Prop) -> Prop := fun o i v H Q => ∃ p xs k j, o = .ref p /\ i = .int k /\ H p = some (.lst xs) /\ ixN xs.length k = some j /\ Q (upd H p (.lst (xs.set j v)))
theorem zkJ : PSet X zvF := by
 intro pins s Z H o i v ov iv u Q I ro ri rv h
 obtain ⟨p, xs, k, j, rfl, rfl, hp, hj, q⟩ := h
 cases ro
 obtain ⟨t, rfl⟩ := ri
 obtain ⟨its, n, r, ho, hz⟩ := I.lst hp
 obtain ⟨h1, h2, h3, h4⟩ := zne hj
 have hl := r.length
 have hn := ziw
 have I' : Inv X pins Z (upd H p (.lst (xs.set j v))) { s with heap := s.heap.update p (Obj.mapSeq (·.setIfInBounds j u)) } :=
  I.lstUpd hp ho (zmi its n j u) (r.set rv j) (by rw [List.length_set]; exact hz) s.toks
 by_cases h0 : 0 <= k
 ·have hk : k.toNat = j := by
   rw [seqIndex_of h0 h4] at h1
   exact Option.some.inj h1
  exact PySem.W.ki_setAt ho h0 (by omega) (by rw [xag, <- hl]; exact h4) (by rw [hk]; exact ⟨_, I', q⟩)
 ·have hk : (k + (its.toArray.size : Int)).toNat = j := by
   rw [seqIndex_neg (by omega) h3] at h1
   rw [xag, <- hl]
   exact Option.some.inj h1
  exact PySem.W.ki_setBack ho (by omega) (by rw [xag, <- hl]; exact h3) (by omega) (by rw [hk]; exact ⟨_, I', q⟩)
theorem ziD (lo hi : Option Int) (n : Nat) : (sliceBounds lo hi none n).1 = ((HT.sIx n 0 lo : Nat) : Int) /\ (sliceBounds lo hi none n).2.1 = ((HT.sIx n n hi : Nat) : Int) /\ (sliceBounds lo hi none n).2.2 = 1 := by
 refine ⟨?_, ?_, rfl⟩
 ·cases lo with
  | none => simp [sliceBounds, HT.sIx]
  | some i =>
   simp only [sliceBounds, HT.sIx, Option.getD_none, show (1 : Int) > 0 by decide, if_true]
   by_cases h : i < 0
   ·simp only [h, if_true] <;> omega
   ·simp only [h, if_false] <;> omega
 ·cases hi with
  | none => simp [sliceBounds, HT.sIx]
  | some i =>
   simp only [sliceBounds, HT.sIx, Option.getD_none, show (1 : Int) > 0 by decide, if_true]
   by_cases h : i < 0
   ·simp only [h, if_true] <;> omega
   ·simp only [h, if_false] <;> omega
theorem zhH (its : List Value) (lo hi : Option Int) : slicePick its.toArray lo hi none = ((its.drop (HT.sIx its.length 0 lo)).take (HT.sIx its.length its.length hi - HT.sIx its.length 0 lo)).toArray := by
 obtain ⟨h1, h2, h3⟩ := ziD lo hi its.toArray.size
 unfold slicePick
 rw [h1, h2, h3]
 simp only [sliceRange_one, pick_run, xag] <;> rfl
def rSlL (K : xFg) : V -> Option Int -> Option Int -> Hp -> VK -> Prop := fun x lo hi H Q => ∃ a xs, x = .ref a /\ SqL K H a xs /\ ∀ p, H p = none -> Q (.ref p) (upd H p (.lst (zpg xs lo hi)))
theorem zr1 : SlR X (rSlL X.K) := by
 intro pins s Z H x v vl vu lo hi sl Q I rx hs pl pu h
 obtain ⟨a, xs, rfl, hx, q⟩ := h
 cases rx
 obtain ⟨its, r, ht, hz⟩ := I.list hx
 have hlen := r.length
 refine ⟨"list", _, slot_list_getitem.lookup, ht.isList.typeIs, ?_⟩
 refine wpAny_getItem_list_slice ht.isList hs pl pu .none (by simp) ?_ (by rw [xag] <;> omega)
 rw [zhH, <- hlen]
 refine ⟨.ref s.heap.objs.size, _, I.laid (t' := s.toks) (o := .lst (zpg xs lo hi)) (fun b ob q => xaa _ q) (xaj _) ?_, rfl, q _ (I.hok.fresh (xaj _))⟩
 exact ⟨xba (zf3 xs lo hi) hz, _, 0, (r.drop (HT.sIx xs.length 0 lo)).take (HT.sIx xs.length xs.length hi - HT.sIx xs.length 0 lo), xau _ rfl⟩
def zj6 : V -> Bool
 | .non => true
 | .bl _ => true
 | .int _ => true
 | .str _ => true
 | _ => false
def eqV : V -> V -> Bool
 | .non, .non => true
 | .bl a, .bl b => a == b
 | .bl a, .int b => (if a then 1 else 0) == b
 | .int a, .bl b => a == (if b then 1 else 0)
 | .int a, .int b => a == b
 | .str a, .str b => a == b
 | _, _ => false
theorem ztK {A : Around} {s : Shared} {y x : V} {u v : Value} (ry : RelV y u) (rx : RelV x v) (fy : zj6 y = true) (fx : zj6 x = true) : SeqAt.EqAt A s u v (eqV y x) := by
 cases y with
 | non =>
  cases ry
  cases x with
  | non => cases rx; exact SeqAt.EqAt.same _
  | bl b => cases rx; exact SeqAt.EqAt.none_bool b
  | int b => obtain ⟨t, rfl⟩ := rx; exact SeqAt.EqAt.none_int b t
  | str b => obtain ⟨t, rfl⟩ := rx; exact SeqAt.EqAt.none_str b t
  | _ => exact absurd (show false = true from fx) xa1
 | bl a =>
  cases ry
  cases x with
  | non => cases rx; exact SeqAt.EqAt.bool_none a
  | bl b => cases rx; exact SeqAt.EqAt.bool_bool a b
  | int b => obtain ⟨t, rfl⟩ := rx; exact SeqAt.EqAt.bool_int a b t
  | str b => obtain ⟨t, rfl⟩ := rx; exact SeqAt.EqAt.bool_str a b t
  | _ => exact absurd (show false = true from fx) xa1
 | int a =>
  obtain ⟨t', rfl⟩ := ry
  cases x with
  | non => cases rx; exact SeqAt.EqAt.int_none a t'
  | bl b => cases rx; exact SeqAt.EqAt.int_bool a t' b
  | int b => obtain ⟨t, rfl⟩ := rx; exact SeqAt.EqAt.int_int a t' b t
  | str b => obtain ⟨t, rfl⟩ := rx; exact SeqAt.EqAt.int_str a t' b t
  | _ => exact absurd (show false = true from fx) xa1
 | str a =>
  obtain ⟨t', rfl⟩ := ry
  cases x with
  | non => cases rx; exact SeqAt.EqAt.str_none a t'
  | bl b => cases rx; exact SeqAt.EqAt.str_bool a t' b
  | int b => obtain ⟨t, rfl⟩ := rx; exact SeqAt.EqAt.str_int a t' b t
  | str b => obtain ⟨t, rfl⟩ := rx; exact SeqAt.EqAt.str_str a t' b t
  | _ => exact absurd (show false = true from fx) xa1
 | _ => exact absurd (show false = true from fy) xa1
theorem ziE : OpR X (compareOp .NotIn) (fun x y H Q => ∃ i j, x = .str i /\ y = .str j /\ Q (.bl (!(!(Builtin.Str.occurrences j i 0 j.length 1).isEmpty))) H) := by
 intro pins s Z H x y v u Q I rx ry h
 obtain ⟨i, j, rfl, rfl, q⟩ := h
 obtain ⟨t, rfl⟩ := rx
 obtain ⟨t', rfl⟩ := ry
 exact notIn_str ⟨.bl _, H, I, rfl, q⟩
theorem ziF : zdd X (.builtin "len") (fun xs H Q => ∃ p ys, xs = [.ref p] /\ (SqL X.K H p ys \/ SqT X.K H p ys) /\ Q (.int ys.length) H) := by
 intro pins s Z H xs us Q I r h
 obtain ⟨p, ys, rfl, hq, q⟩ := h
 obtain ⟨u, rfl, rx⟩ := zhF r
 cases rx
 have hn := ziw
 rcases hq with hq | hq
 ·obtain ⟨its, r', pl, hz⟩ := I.list hq
  have hlen := r'.length
  exact Calls.call_len_list pl.isList (by simp only [xag] <;> omega) ⟨.int ys.length, H, I.tok _, ⟨s.toks + 1, by rw [xag, hlen]⟩, q⟩
 ·obtain ⟨its, r', pl, hz⟩ := I.tuple hq
  have hlen := r'.length
  exact len_tuple pl (by simp only [xag] <;> omega) ⟨.int ys.length, H, I.tok _, ⟨s.toks + 1, by rw [xag, hlen]⟩, q⟩
theorem ziG : zdd X (.builtin "len") (fun xs H Q => ∃ z, xs = [.str z] /\ z.length <= sizeLine /\ Q (.int z.length) H) := by
 intro pins s Z H xs us Q I r h
 obtain ⟨z, rfl, hz, q⟩ := h
 obtain ⟨u, rfl, t, rfl⟩ := zhF r
 have hn := ziw
 exact len_str (by omega) ⟨.int z.length, H, I.tok _, ⟨_, rfl⟩, q⟩
theorem zdd.or {f : Value} {r r' : List V -> Hp -> VK -> Prop} (h : zdd X f r) (h' : zdd X f r') : zdd X f (fun xs H Q => r xs H Q \/ r' xs H Q) := by
 intro pins s Z H xs us Q I rs q
 rcases q with q | q
 ·exact h pins s Z H xs us Q I rs q
 ·exact h' pins s Z H xs us Q I rs q
def tyV (K : xFg) (T : String) (x : V) (H : Hp) : Prop := match x with
 | .str _ => T = "str"
 | .int _ => T = "int"
 | .ref p => (T = "list" /\ ∃ xs, SqL K H p xs) \/ (T = "tuple" /\ ∃ o, K.lookup p = some o /\ o.cls = .type "tuple" /\ o.dict = none) \/
   (T = "dict" /\ ((∃ kvs, H p = some (.dK kvs)) \/ ∃ kvs, H p = some (.dT kvs))) \/ (T = "set" /\ ∃ S n, H p = some (.set S n))
 | _ => False
theorem ztL {pins : List (Addr × Obj)} {Z : St} {H : Hp} {s : Shared} {T : String} {x : V} {v : Value} (I : Inv X pins Z H s) (r : RelV x v) (ty : tyV X.K T x H) :
  s.TypeIs v T /\ ∀ a, v = .ref a -> ∃ ob, s.heap.get? a = some ob /\ ob.dict = none := by
 cases x with
 | str z =>
  obtain ⟨t, rfl⟩ := r
  cases (show T = "str" from ty)
  exact ⟨typeIs_str s z t, fun _ e => nomatch e⟩
 | int i =>
  obtain ⟨t, rfl⟩ := r
  cases (show T = "int" from ty)
  exact ⟨typeIs_int s i t, fun _ e => nomatch e⟩
 | ref p =>
  cases r
  rcases ty with ⟨rfl, xs, hq⟩ | ⟨rfl, o, hk, hc, hd⟩ | ⟨rfl, hk⟩ | ⟨rfl, S, n, hk⟩
  ·obtain ⟨its, _, pl, _⟩ := I.list hq
   refine ⟨pl.isList.typeIs, fun a e => ?_⟩
   cases e
   obtain ⟨o, n, e, c, hd, _⟩ := pl
   exact ⟨o, e, hd⟩
  ·refine ⟨⟨o, I.kIn p o hk, hc⟩, fun a e => ?_⟩
   cases e
   exact ⟨o, I.kIn _ o hk, hd⟩
  ·have z : ∃ o, s.heap.get? p = some o /\ o.ExactDict := by
    rcases hk with ⟨kvs, hk⟩ | ⟨kvs, hk⟩
    ·obtain ⟨_, _, _, _, o, _, _, e, ex, _⟩ := I.hok p _ hk
     exact ⟨o, e, ex⟩
    ·obtain ⟨_, _, _, _, o, _, _, e, ex, _⟩ := I.hok p _ hk
     exact ⟨o, e, ex⟩
   obtain ⟨o, e, ex⟩ := z
   refine ⟨⟨o, e, ex.1⟩, fun a e2 => ?_⟩
   cases e2
   exact ⟨o, e, ex.2.1⟩
  ·obtain ⟨o, _, _, _, e, ex, _⟩ := I.hok p _ hk
   refine ⟨⟨o, e, ex.1⟩, fun a e2 => ?_⟩
   cases e2
   exact ⟨o, e, ex.2.1⟩
 | _ => exact False.elim ty
def tBM (K : xFg) (T : String) (r : V -> List V -> Hp -> VK -> Prop) (to : TE) (t : TA) : TE := fun Z H Q => to Z H fun x H1 => tyV K T x H1 /\ t Z H1 fun xs H2 => r x xs H2 Q
variable {o e : Expr} {es : List Expr} {to : TE} {t : TA} {name : Str} {apos cpos : Pos} {T id : String} {r : V -> List V -> Hp -> VK -> Prop}
theorem zvG (pa : PlainAttrs T) (slot : Slot T name id) (hty : typeOf (.builtin id) = pure (.type "method_descriptor")) (hm : MtR X id r) (ho : PE X o to) (ha : PA X (e :: es) t)
  (hbase : attributeBase o name X.env (eval o X.env) = eval o X.env := by rfl)
  (hfew : ((backTo cpos (starEach (e :: es) X.env)).all (fun x => !x.1) && (backToKw cpos (keywordEach [] X.env)).all (fun x => x.1.isSome)
   && decide ((e :: es).length + ([] : List Keyword).length + (if ([] : List Keyword).isEmpty then 0 else 1) < 30)) = true := by rfl)
  (hline : (apos.endLine == cpos.line) = true := by rfl) (hs : starEach (e :: es) X.env = (false, eval e X.env) :: starEach es X.env := by rfl) (hplain : (backTo cpos (starEach es X.env)).any (·.1) = false := by rfl) :
  PE X (.Call (.Attribute o name apos) (e :: es) [] cpos) (tBM X.K T r to t) := by
 intro pins s Z H Q I h
 refine wpAny_Call_method_late hbase hfew hline rfl (thn (ho pins s Z H _ I h) fun v s1 ⟨x, H1, I1, r1, ty, q1⟩ => ?_)
 obtain ⟨h1, h2⟩ := ztL I1 r1 ty
 refine ⟨T, id, pa, slot, hty, h1, h2, ?_⟩
 have hA := ha cpos pins s1 Z H1 _ I1 q1
 rw [hs] at hA ⊢
 refine Calls.callWith_builtin (by show (false || (backTo cpos (starEach es X.env)).any (·.1)) = false; rw [hplain] <;> rfl) (Calls.evalArgs_plain ?_)
 exact thn hA fun us s2 ⟨vs, H2, I2, r2, q2⟩ => hm pins s2 Z H2 x vs v us Q I2 r1 r2 q2
end
end L2
namespace L2
open PySem.Spec PyProof.Rows
def MtM (X : Cx) (id : String) (r : V -> List V -> Hp -> VK -> Prop) : Prop :=
 ∀ (pins : List (Addr × Obj)) (s : Shared) (Z : St) (H : Hp) (x : V) (xs : List V) (v : Value) (us : List Value) (Q : VK), Inv X pins Z H s -> RelV x v -> zbf xs us -> r x xs H Q ->
  wpAny (model X.prog X.w) X.A (call (.builtin id) (v :: us)) (EP X pins Z Q) X.xe s
theorem zbf.one : ∀ {x : V} {us : List Value}, zbf [x] us -> ∃ u, us = [u] /\ RelV x u
 | _, _, .cons r .nil => ⟨_, rfl, r⟩
section
variable {X : Cx} {pins : List (Addr × Obj)} {Z : St} {H : Hp} {s : Shared} {l b : Addr} {xs ys zs : List V}
theorem Inv.lset {its its' : List Value} {n : Nat} {f : Array Value -> Array Value} {t' : Nat} (I : Inv X pins Z H s) (hH : H l = some (.lst xs))
  (e : s.heap.get? l = some { cls := .type "list", data := .seq its.toArray n }) (hf : f its.toArray = its'.toArray) (hv : zbf ys its') (hz : ys.length <= sizeLine) :
  Inv X pins Z (upd H l (.lst ys)) { s with heap := s.heap.update l (Obj.mapSeq f), toks := t' } := by
 have q := PySem.IsL.update e f
 rw [hf] at q
 refine I.write (x := l) (e := l) (by rw [hH]; exact trivial) (.inl rfl) (fun b' u hb hu => (xbg s.heap (Obj.mapSeq f) (xa3 hb)).trans hu) ⟨_, q⟩ ?_
 exact ⟨hz, its', _, hv, q⟩
theorem Inv.lnew {its : List Value} {t' : Nat} (I : Inv X pins Z H s) (hv : zbf ys its) (hz : ys.length <= sizeLine) :
  Inv X pins Z (upd H s.heap.objs.size (.lst ys)) { s with heap := s.heap.push { cls := .type "list", data := .seq its.toArray }, toks := t' } :=
 I.laid (fun _ _ q => xaa _ q) (xaj _) ⟨hz, its, 0, hv, xau _ rfl⟩
theorem Inv.fresh (I : Inv X pins Z H s) : H s.heap.objs.size = none := I.hok.fresh (xaj _)
theorem Inv.lstM (I : Inv X pins Z H s) (hH : H l = some (.lst xs)) : xs.length <= sizeLine /\ ∃ (its : List Value) (n : Nat), zbf xs its /\ xs.length = its.length /\ s.heap.get? l = some { cls := .type "list", data := .seq its.toArray n } := by
 obtain ⟨z, its, n, r, e⟩ := I.hok l _ hH
 exact ⟨z, its, n, r, r.length, e⟩
end
section
variable {X : Cx}
def zr2 : V -> List V -> Hp -> VK -> Prop := fun x vs H Q => ∃ l xs y, x = .ref l /\ vs = [y] /\ H l = some (.lst xs) /\ xs.length < sizeLine /\ Q .non (upd H l (.lst (xs ++ [y])))
theorem znh : MtM X "list.append" zr2 := by
 intro pins s Z H x vs v us Q I rx rv h
 obtain ⟨l, xs, y, rfl, rfl, hH, hz, q⟩ := h
 cases rx
 obtain ⟨u, rfl, ru⟩ := rv.one
 obtain ⟨z, its, n, r, hl, e⟩ := I.lstM hH
 refine call_meets F.slot_list_append ⟨_, e, rfl⟩ F.entry_list_append (F.args_list_append_2 _ _) (PySem.list_append l its.toArray n u (by rw [xag]; omega)) ⟨e, ?_⟩
 refine ⟨.non, _, I.lset (its' := its ++ [u]) hH e (by simp) (r.append (.cons ru .nil)) ?_, rfl, q⟩
 rw [xby, List.length_singleton]
 omega
end
end L2
namespace Att
open PySem.W PySem.Calls PyProof.Rows
theorem zf4 {P : Params} {h : Heap} : ∀ (ns : List Int) (vs : List Value), WellAll P h vs (ns.map WData.int) -> IntsAre vs ns := by
 intro ns
 induction ns with
 | nil =>
  intro vs w
  rw [xbz] at w
  cases w
  exact .nil
 | cons n ns ih =>
  intro vs w
  rw [xat] at w
  cases w with
  | cons a b =>
   cases a
   exact .cons _ _ (ih _ b)
theorem zni {l : OpenLaw} {n : Nat} (hn : l.most = some n) {P : Params} {h : Heap} {args : List WData} {vals : List Value}
  (hpre : l.row.toRowW.claim.pre args = true) (hwl : WellAll P h vals args) :
  ∃ a vs ns, vals = [Value.ref a] /\ args = [WData.list (ns.map WData.int)] /\ h.get? a = some { cls := .type "list", data := .seq vs.toArray } /\ IntsAre vs ns /\ ns.length <= n := by
 have hsh : WShape.hasAll [] args [.list .int] = true := (pre_splitW hpre).1
 have hc : l.pre.holds [] { args := args } = true := (pre_splitW hpre).2
 obtain ⟨d, r, rfl, h1, h2⟩ := hasAllW_cons hsh
 obtain rfl := hasAllW_nil h2
 obtain ⟨xs, rfl, h3⟩ := hasW_list h1
 obtain ⟨ns, rfl⟩ := items_int h3
 have hlen : ns.length <= n := by
  unfold OpenLaw.pre at hc
  have h4 : (WTm.not (.lt (.lit (.int (n : Int))) (.len (.arg 0)))).holds [] { args := [.list (ns.map .int)] } = true := by
   have h4 := (holds_andW hc).1
   rw [hn] at h4
   exact h4
  have h5 := condW_of h4 (w_not (w_lt w_lit (w_len_list (w_arg rfl))))
  rw [xal] at h5
  refine Nat.le_of_not_lt fun q => ?_
  have q' : (n : Int) < ((ns.length : Nat) : Int) := by omega
  first
   | (rw [decide_eq_true q'] at h5; exact absurd h5 (by decide))
   | (simp at h5; omega)
 cases hwl with
 | cons w1 w2 =>
  cases w2
  cases w1 with
  | list ho hall => exact ⟨_, _, ns, rfl, rfl, ho, zf4 ns _ hall, hlen⟩
theorem znj (l : OpenLaw) (args : List WData) : l.row.toRowW.claim.post args (.bool true) args = true :=
 postW_of (r := l.row.toRowW) (X := (true == true))
  (show WShape.has [] (.bool true) .bool = true by first | rfl | decide | simp [WShape.has, WShape.arms, WShape.armsAll])
  (show (WTm.eq .res (.lit (.bool true))).value [] { args := args, res := some (.bool true), after := args } = some (.bool (true == true)) from w_eq_bool (w_res rfl) w_lit) rfl
theorem attach_call {l : OpenLaw} {n : Nat} {q : Program} {loose : List Str} {XP : (Str -> Option Value) -> Heap -> Prop} {YP : World -> Heap -> Prop} {d : DefRec}
  (hn : l.most = some n) (hdf : d.params.defaults = [])
  (call : ∀ (w : World) (s₀ s₁ : Shared) (mg mb : Str -> Option Value) (fa : Addr) (o : Obj) (pm cd doc : Value) (a : Addr) (vs : List Value) (ns : List Int),
   Ground q loose [] XP w s₀ mg mb s₁.heap -> YP w s₁.heap ->
   s₁.heap.get? fa = some o -> o.data = .func (docDef d.name d.params d.body d.scope pm cd doc) -> s₁.heap.CodeRec cd d.name -> mg d.name = some (.ref fa) ->
   s₁.heap.get? a = some { cls := .type "list", data := .seq vs.toArray } -> IntsAre vs ns -> ns.length <= n -> s₁.gens = #[] ->
   codeAny (model l.prog w) callerA (.call (.ref fa) ⟨[.ref a], []⟩) (fun r s' => r = .ok (.ret (.bool true)) /\ OldK s₁.heap s'.heap /\ s'.os = s₁.os /\ AllBare s'.gens) s₁) :
  WalkO q loose XP YP l.row.toRowW d [] (fun f vs => PySem.call f vs) := by
 intro w s₀ s₁ mg mb G Y fa o pm cd doc dV kV ho hd hcd hD hmg hg args vals as hpre hlay hrd hwl hlo
 obtain rfl : dV = .none := Dflts.none hD hdf
 obtain rfl : kV = .none := Dflts.noKw hD
 obtain ⟨a, vs, ns, rfl, rfl, hobj, hints, hlen⟩ := zni hn hpre hwl
 refine enter_call (codeAny_mono (call w s₀ s₁ mg mb fa o pm cd doc a vs ns G Y ho (fd_plain hd) hcd hmg hobj hints hlen hg) fun r s' hq => ?_)
 obtain ⟨rfl, h2, h3, h4⟩ := hq
 exact ⟨.inl ⟨.bool true, .bool true, [], rfl, fun _ => rfl, .bool true, znj l _, fun _ => ⟨List.Pairwise.nil, fun _ hm => (nomatch hm)⟩⟩, h2, h3, h4⟩
end Att
namespace L2
open PySem.Spec PyProof.Rows
theorem ziH : ∀ {vs : List Value} {ns : List Int}, IntsAre vs ns -> zbf (ns.map V.int) vs
 | _, _, .nil => .nil
 | _, _, .cons n t h => .cons ⟨t, rfl⟩ (ziH h)
def zvH (H : Hp) : Prop := ∀ b, H b = none \/ ∃ o xs, H b = some (.frz o (.lst xs))
theorem zpw {P : Program} {w : World} {K : xFg} {mg mb : Str -> Option Value} {CX : CXT} {k : Nat} {fa a : Addr} {fd : FuncData} {x : Str} {sp : Sp} {s₁ : Shared} {vs : List Value} {ns : List Int}
  (KX : K.In s₁.heap) (hns : s₁.heap.Ns mainGlobals mg) (hb : s₁.heap.Ns builtinsNs mb) (hbb : ∀ x : Str, x ≠ "__name__" -> mb x = bootBuiltins x) (hlim : s₁.heap.NoLimit) (hg : s₁.gens = #[])
  (ha : s₁.heap.get? a = some { cls := .type "list", data := .seq vs.toArray }) (hi : IntsAre vs ns) (hl : ns.length <= sizeLine) (hr : zfP k callerA)
  (F : ∀ base : Heap, K.In base -> base.Ns mainGlobals mg -> zhe P w K mg base CX k fa fd [x] sp) (hbind : ∀ (s : Shared) (u : Value), BindsTo s fd ⟨[u], []⟩ [(x, u)])
  (hsp : ∀ H : Hp, zvH H -> SqL K H a (ns.map V.int) -> sp [.ref a] H (fun v _ => v = .bl true) fun _ _ _ => False)
  (hCX : ∀ H e s', CX [] H s₁ (fun _ _ _ => False) e s' -> False) :
  codeAny (model P w) callerA (.call (.ref fa) ⟨[.ref a], []⟩) (fun r s' => r = .ok (.ret (.bool true)) /\ OldK s₁.heap s'.heap /\ s'.os = s₁.os /\ AllBare s'.gens) s₁ := by
 have rv := ziH hi
 have lenV := hi.length
 have core : ∀ H : Hp, zvH H -> SqL K H a (ns.map V.int) -> HOk P w H s₁.heap -> (∀ b, H b ≠ none -> b = a) -> (H a ≠ none -> K.lookup a = none) ->
   codeAny (model P w) callerA (.call (.ref fa) ⟨[.ref a], []⟩) (fun r s' => r = .ok (.ret (.bool true)) /\ OldK s₁.heap s'.heap /\ s'.os = s₁.os /\ AllBare s'.gens) s₁ := by
  intro H hO hS hok hA hK
  have base_of : ∀ {b : Addr} {o : Obj}, s₁.heap.get? b = some o -> H b = none -> (zpl s₁.heap H).get? b = some o := fun e n => zpm e n
  have noA : ∀ {b : Addr} {o : Obj} {es : Array DictEntry} {ep : Nat}, s₁.heap.get? b = some o -> o.data = .dict es ep -> H b = none := fun {b o es ep} e d => by
   cases q : H b with
   | none => rfl
   | some u =>
    have e' : b = a := hA b (by rw [q]; simp)
    subst e'
    rw [ha] at e; cases e
    have d' : Data.seq vs.toArray _ = Data.dict es ep := d
    cases d'
  have nsK : ∀ {b : Addr} {m : Str -> Option Value}, s₁.heap.Ns b m -> (zpl s₁.heap H).Ns b m := fun {b m} ⟨o, es, ep, e, d, r⟩ => ⟨o, es, ep, base_of e (noA e d), d, r⟩
  have hKb : K.In (zpl s₁.heap H) := fun b o e => base_of (KX b o e) (by
   cases q : H b with
   | none => rfl
   | some u =>
    have e' : b = a := hA b (by rw [q]; simp)
    subst e'
    rw [hK (by rw [q]; simp)] at e; cases e)
  have hM : Mod K mg (zpl s₁.heap H) := ⟨hKb, nsK hns, ⟨mb, nsK hb, hbb⟩, let ⟨mc, h1, h2⟩ := hlim; ⟨mc, nsK h1, h2⟩⟩
  have e0 : zva P w K mg (zpl s₁.heap H) callerA [] s₁ H := ⟨rfl, hM, fun b o e => zrG e, Nat.le_of_eq (zm2 _ _), trivial, fun b hb => absurd (show b ∈ ([] : List Addr) from hb) (by simp), hok, .of_eq hg⟩
  refine codeAny_mono ((F _ hKb (nsK hns)).run callerA [] s₁ H ⟨[.ref a], []⟩ [.ref a] [.ref a] _ _ hr e0 (hbind s₁ (.ref a)) (.cons rfl .nil) (hsp H hO hS)) fun r s' h => ?_
  cases r with
  | error e => exact (hCX H e s' h).elim
  | ok fl =>
   cases fl with
   | next => exact False.elim h
   | brk => exact False.elim h
   | cont => exact False.elim h
   | ret u =>
    obtain ⟨v, H', os, bare, un, hok', r', q⟩ := h
    have q' : v = .bl true := q
    subst q'
    obtain rfl : u = Value.bool true := r'
    refine ⟨rfl, OldK.of_keep fun b o e => ?_, os, bare⟩
    cases q : H b with
    | none => exact un.keep b o e q (by intro z; exact absurd (show b ∈ ([] : List Addr) from z) (by simp)) (by simp)
    | some u =>
     rcases hO b with z | ⟨ob, xs, z⟩
     ·rw [q] at z; cases z
     ·have z2 := un.frzs b ob _ z
      obtain ⟨e1, _⟩ := hok b _ z
      obtain ⟨e2, _⟩ := hok' b _ z2
      rw [e] at e1; cases e1
      exact e2
 cases hk : K.lookup a with
 | some o =>
  have e := KX a o hk
  rw [ha] at e
  cases e
  refine core (fun _ => none) (fun _ => .inl rfl) (.inr ⟨_, vs.toArray, _, hk, rfl, rfl, rfl, by rw [xag, lenV]; exact hl, by simpa using rv⟩) (fun b u z => by have z' : (none : Option HO) = some u := z; cases z') (fun b z => absurd rfl z) fun z => absurd rfl z
 | none =>
  refine core (fun b => if b = a then some (.frz { cls := .type "list", data := .seq vs.toArray } (.lst (ns.map V.int))) else none) (fun b => ?_) (.inl (.inr ⟨{ cls := .type "list", data := .seq vs.toArray }, if_pos rfl⟩)) (fun b u z => ?_) (fun b z => ?_) fun _ => hk
  ·by_cases hb : b = a
   ·exact .inr ⟨_, _, if_pos hb⟩
   ·exact .inl (if_neg hb)
  ·by_cases hb : b = a
   ·have z' := (if_pos hb).symm.trans z
    cases z'
    subst hb
    exact ⟨ha, by rw [xal]; exact hl, vs, _, rv, ha⟩
   ·have z' := (if_neg hb).symm.trans z
    cases z'
  ·by_cases hb : b = a
   ·exact hb
   ·exact absurd (if_neg hb) z
end L2
namespace L2
open PySem.Spec PyProof.Rows
theorem walk_of {l : PySem.W.OpenLaw} {n k : Nat} {q : Program} {loose : List Str} {XP : (Str -> Option Value) -> Heap -> Prop} {YP : World -> Heap -> Prop} {d : DefRec} {K : Params -> xFg} {CX : World -> CXT} {sp : World -> Sp} {x : Str}
  (hn : l.most = some n) (hn2 : n <= sizeLine) (hdf : d.params.defaults = []) (hr : zfP k callerA)
  (hY : ∀ (w : World) (h : Heap), YP w h -> (K w.params).In h)
  (F : ∀ (w : World) (mg : Str -> Option Value) (fa : Addr) (h : Heap), (K w.params).In h -> h.Ns mainGlobals mg -> mg d.name = some (.ref fa) ->
   ∃ fd : FuncData, (∀ (s : Shared) (u : Value), BindsTo s fd ⟨[u], []⟩ [(x, u)]) /\
    ∀ base : Heap, (K w.params).In base -> base.Ns mainGlobals mg -> zhe l.prog w (K w.params) mg base (CX w) k fa fd [x] (sp w))
  (hsp : ∀ (w : World) (H : Hp) (a : Addr) (ns : List Int), ns.length <= n -> zvH H -> SqL (K w.params) H a (ns.map V.int) -> sp w [.ref a] H (fun v _ => v = .bl true) fun _ _ _ => False)
  (hCX : ∀ (w : World) (H : Hp) (s : Shared) (e : Value) (s' : Shared), CX w [] H s (fun _ _ _ => False) e s' -> False) :
  PySem.W.WalkO q loose XP YP l.row.toRowW d [] (fun f vs => PySem.call f vs) := by
 refine Att.attach_call hn hdf fun w s₀ s₁ mg mb fa o pm cd doc a vs ns G Y ho hd hcd hmg hobj hints hlen hg => ?_
 have KX := hY w _ Y
 obtain ⟨fd, hb, hF⟩ := F w mg fa _ KX G.T.g hmg
 exact zpw KX G.T.g G.T.b G.T.builtins G.T.nolimit hg hobj hints (xba hlen hn2) hr hF hb (fun H hO hS => hsp w H a ns hlen hO hS) fun H e s' => hCX w H s₁ e s'
end L2
namespace L2
open PySem.Spec PyProof.Rows
def zat (s : Stmt) : Arguments := match s with
 | .FunctionDef _ a _ _ _ _ _ _ _ _ => a
 | _ => { posonlyargs := [], args := [], vararg := none, kwonlyargs := [], kw_defaults := [], kwarg := none, defaults := [] }
def zaq (s : Stmt) : List Stmt := match s with
 | .FunctionDef _ _ b _ _ _ _ _ _ _ => b
 | _ => []
def zae (s : Stmt) : Scope := match s with
 | .FunctionDef _ _ _ _ _ _ sc _ _ _ => sc
 | _ => { kind := .function, names := [], isGenerator := false, isCoroutine := false }
abbrev E0 : XK := fun _ _ _ => False
structure Fun (K : xFg) (x qual : Str) (st : Stmt) (f : Addr) (fd : FuncData) : Prop where
 ex : ∃ (oc : Value) (od : Option Addr) (kV doc pm : Value) (an : Option Addr) (cdv ct : Value) (osl : Array (Option Value)),
  fd = PySem.W.fnOf x qual (zat st) (zaq st) (zae st) .none kV doc pm an cdv ct /\ K.lookup f = some ⟨oc, od, .func fd, osl⟩ /\ PySem.W.codeIn K cdv qual = true
 kp : PySem.W.keepIn K (.ref f) = true
section
variable {P : Program} {w : World} {K : xFg} {mg : Str -> Option Value} {base : Heap}
theorem Fun.binds {x qual : Str} {st : Stmt} {f : Addr} {fd : FuncData} {ps : List Str} (F : Fun K x qual st f fd)
  (h : ∀ (kV doc pm : Value) (an : Option Addr) (cdv ct : Value) (us : List Value), us.length = ps.length -> bindArgs (PySem.W.fnOf x qual (zat st) (zaq st) (zae st) .none kV doc pm an cdv ct) ⟨us, []⟩ = pure (ps.zip us)) : za6 K fd ps [] := by
 obtain ⟨oc, od, kV, doc, pm, an, cdv, ct, osl, rfl, lk, hcd⟩ := F.ex
 exact .all (h kV doc pm an cdv ct)
theorem zaN {x qual : Str} {st : Stmt} {f : Addr} {oc : Value} {od an : Option Addr} {osl : Array (Option Value)} {kV doc pm cdv ct : Value} (l : K.lookup f = some ⟨oc, od, .func (PySem.W.fnOf x qual (zat st) (zaq st) (zae st) .none kV doc pm an cdv ct), osl⟩)
  (c : PySem.W.codeIn K cdv qual = true) (k : PySem.W.keepIn K (.ref f) = true) : Fun K x qual st f (PySem.W.fnOf x qual (zat st) (zaq st) (zae st) .none kV doc pm an cdv ct) := ⟨⟨oc, od, kV, doc, pm, an, cdv, ct, osl, rfl, l, c⟩, k⟩
end
theorem znk {n : Nat} (h : n <= 1000) : n < sizeLine := xbq h (by decide)
section
variable {X : Cx}
theorem pv (i : Nat) {x : Str} {pos : Pos} (hN : X.N[i]? = some x := by rfl) (hv : Vis X.env.scope x := by first | exact Or.inl rfl | exact Or.inr (Or.inl rfl) | exact Or.inr (Or.inr rfl)) (hd : (x == ("__debug__" : Str)) = false := by decide)
  (hcd : (x == ("__classdict__" : Str)) = false := by decide) : PE X (.Name x pos) (tVar i) := zte hN hv hd hcd
end
theorem iteF {A B : Prop} (h : B) : if false = true then A else B := by
 rw [if_neg xa1]
 exact h
theorem iteT {A B : Prop} (h : A) : if true = true then A else B := by
 rw [if_pos rfl]
 exact h
def zaI (H H' : Hp) : Prop := ∀ b o, H b = some o -> H' b = some o
theorem zaI.refl (H : Hp) : zaI H H := fun _ _ h => h
theorem zaI.trans {H H1 H2 : Hp} (a : zaI H H1) (b : zaI H1 H2) : zaI H H2 := fun c o h => b c o (a c o h)
theorem zaI.free {H H' : Hp} (e : zaI H H') {l : Addr} (h : H' l = Option.none) : H l = Option.none := by
 cases q : H l with
 | none => rfl
 | some o =>
  rw [e l o q] at h
  cases h
theorem zaI.seq {K : xFg} {H H' : Hp} {a : Addr} {xs : List V} (e : zaI H H') (h : SqL K H a xs) : SqL K H' a xs := by
 rcases h with (h | ⟨o, h⟩) | h
 ·exact .inl (.inl (e _ _ h))
 ·exact .inl (.inr ⟨o, e _ _ h⟩)
 ·exact .inr h
end L2
end
namespace L2
open PySem.Spec PyProof.Rows
theorem zhg {α β : Type} (g : β -> α -> β) : ∀ {l : List α} {f : α -> β -> Sem (ForInStep β)} (c : β), (∀ x ∈ l, ∀ c, f x c = pure (.yield (g c x))) -> forIn l c f = pure (l.foldl g c)
 | [], _, _, _ => rfl
 | x :: l, f, c, h => by
  rw [List.forIn_cons, h x xae c, pure_bind]
  exact zhg g (g c x) fun y hy => h y (xab _ hy)
def zbJ (env : Env) (cs : List (Str × Addr)) (x : Str × NameKind) : List (Str × Addr) :=
 if (x.2 == NameKind.free) = true then (x.1, (env.cells.lookup x.1).getD 0) :: cs else cs
def zs3 (env : Env) (names : List (Str × NameKind)) : List (Str × Addr) := names.foldl (zbJ env) []
theorem znl {env : Env} {scope : Scope} (h : ∀ x ∈ scope.names, x.2 = .free -> ∃ c, env.cells.lookup x.1 = some c) : closureFor scope env = pure (zs3 env scope.names) := by
 simp only [closureFor]
 rw [zhg (zbJ env) [] (fun x hx c => by
  obtain ⟨n, k⟩ := x
  by_cases hk : k = .free
  ·obtain ⟨a, e⟩ := h (n, k) hx hk
   have e' : env.cells.lookup n = some a := e
   subst hk
   simp [zbJ, cellOf, e']
  ·have hb : (k == NameKind.free) = false := by simpa using hk
   simp [zbJ, hb])]
 rfl
theorem zhI {env : Env} : ∀ (l : List (Str × NameKind)) (acc : List (Str × Addr)), (∀ x ∈ l, x.2 = .free -> ∃ c, env.cells.lookup x.1 = some c) -> (∀ y c, acc.lookup y = some c -> env.cells.lookup y = some c) ->
  ∀ y c, (l.foldl (zbJ env) acc).lookup y = some c -> env.cells.lookup y = some c
 | [], acc, _, ha, y, c, e => ha y c e
 | x :: l, acc, h, ha, y, c, e => by
  refine zhI l (zbJ env acc x) (fun z hz => h z (xab _ hz)) (fun z d q => ?_) y c e
  unfold zbJ at q
  split at q
  ·rename_i hk
   obtain ⟨a, ea⟩ := h x xae (by simpa using hk)
   rw [xbw] at q
   cases hz : z == x.1 with
   | true =>
    rw [hz] at q
    rw [ea] at q
    have : z = x.1 := by simpa using hz
    rw [this, ea]; simpa using q
   | false => rw [hz] at q; exact ha z d q
  ·exact ha z d q
theorem zf5 {env : Env} : ∀ (l : List (Str × NameKind)) (acc : List (Str × Addr)) (y : Str), ((∃ c, acc.lookup y = some c) \/ (y, NameKind.free) ∈ l) -> ∃ c, (l.foldl (zbJ env) acc).lookup y = some c
 | [], acc, y, h => by
  rcases h with h | h
  ·exact h
  ·exact absurd h (by simp)
 | x :: l, acc, y, h => by
  refine zf5 l (zbJ env acc x) y ?_
  rcases h with ⟨c, h⟩ | h
  ·left
   unfold zbJ
   split
   ·rw [xbw]
    cases hz : y == x.1 with
    | true => exact ⟨_, rfl⟩
    | false => exact ⟨c, h⟩
   ·exact ⟨c, h⟩
  ·rcases xaf.mp h with e | h
   ·left
    subst e
    unfold zbJ
    rw [if_pos (by rfl), xbw]
    simp
   ·exact .inr h
theorem zbg {scope : Scope} {env : Env} : ∀ {names : List (Str × NameKind)} {x : Str} {k : NameKind},
  (names.map fun (n, k) => if (k == NameKind.free && env.scope.kind == .function && env.kindOf n == some .cell) then (n, NameKind.cell) else (n, k)).lookup x = some k ->
  names.lookup x = some k \/ (k = .cell /\ names.lookup x = some .free)
 | [], _, _, h => by simp at h
 | (n, k') :: r, x, k, h => by
  change List.lookup x ((if (k' == NameKind.free && env.scope.kind == .function && env.kindOf n == some .cell) = true then (n, NameKind.cell) else (n, k')) :: _) = some k at h
  by_cases hc : (k' == NameKind.free && env.scope.kind == .function && env.kindOf n == some .cell) = true
  ·rw [if_pos hc, xbw] at h
   rw [xbw]
   cases hx : x == n with
   | true =>
    rw [hx] at h
    have hk : k' = .free := by
     simp only [xav, beq_iff_eq] at hc
     exact hc.1.1
    subst hk
    have h' : NameKind.cell = k := by simpa using h
    exact .inr ⟨h'.symm, rfl⟩
   | false => rw [hx] at h; exact zbg (scope := scope) h
  ·rw [if_neg hc, xbw] at h
   rw [xbw]
   cases hx : x == n with
   | true => rw [hx] at h; exact .inl h
   | false => rw [hx] at h; exact zbg (scope := scope) h
def zvI (k : Nat) (NY N : List Str) (sc : Scope) : Bool :=
 NY.length == k + N.length && ((NY.drop k).zip N).all fun p => (sc.names.lookup p.1).isNone || (p.1 == p.2 && sc.names.lookup p.1 != some .local)
structure LC (X : Cx) (k : Nat) (scope : Scope) (NY : List Str) : Prop where
 cells : ∀ y ∈ scope.names, y.2 ≠ .cell
 kind : scope.kind = .function
 names : ∀ y ∈ scope.names, y.2 = .local -> scope.names.lookup y.1 = some .local
 free : ∀ y ∈ scope.names, y.2 = .free -> X.env.kindOf y.1 = some .cell \/ X.env.kindOf y.1 = some .free
 ny : zvI k NY X.N scope = true
 nd : NY.Nodup
def lcOk (k : Nat) (N : List Str) (sc0 scope : Scope) (NY : List Str) : Bool :=
 (scope.names.all fun y => y.2 != .cell) && (scope.kind == .function) && (scope.names.all fun y => y.2 != .local || scope.names.lookup y.1 == some .local) &&
 (scope.names.all fun y => y.2 != .free || sc0.names.lookup y.1 == some .cell || sc0.names.lookup y.1 == some .free) && zvI k NY N scope && decide NY.Nodup
theorem LC.of {X : Cx} {k : Nat} {N NY : List Str} {sc0 scope : Scope} (hN : X.N = N) (hs : X.env.scope = sc0) (h : lcOk k N sc0 scope NY = true) : LC X k scope NY := by
 unfold lcOk at h
 simp only [xav, xay, Bool.or_eq_true, bne_iff_ne, beq_iff_eq, ne_eq] at h
 obtain ⟨⟨⟨⟨⟨h1, h2⟩, h3⟩, h4⟩, h5⟩, h6⟩ := h
 refine ⟨h1, h2, fun y hy e => ?_, fun y hy e => ?_, by rw [hN]; exact h5, of_decide_eq_true h6⟩
 ·rcases h3 y hy with z | z
  ·exact absurd e z
  ·exact z
 ·show X.env.scope.names.lookup y.1 = _ \/ X.env.scope.names.lookup y.1 = _
  rw [hs]
  rcases h4 y hy with (z | z) | z
  ·exact absurd e z
  ·exact .inl z
  ·exact .inr z
def zdy (X : Cx) (scope : Scope) (NY : List Str) (s₀ : Shared) (H₀ : Hp) (C : Addr) (ex : List Addr) : Cx :=
 { X with N := NY, s₀ := s₀, H₀ := H₀, env := compEnvC scope (zs3 X.env scope.names) C X.env, outer := X.stack, ex := ex, fn := fun _ => false, pn := [], xe := fun _ _ => False }
def PTs (X : Cx) (cs : List Expr) (t : TT) : Prop :=
 ∀ (pins : List (Addr × Obj)) (s : Shared) (Z : St) (H : Hp) (Q : Bool -> Hp -> Prop), Inv X pins Z H s -> t Z H Q ->
  wpAny (model X.prog X.w) X.A (forIn cs true fun c r => if r = true then do let ok <- isTrue c X.env (eval c X.env); pure (ForInStep.yield ok) else pure (ForInStep.yield r)) (TP X pins Z Q) X.xe s
def zvJ : TT := fun _ H Q => Q true H
theorem zr3 {X : Cx} : PTs X [] zvJ := fun _ _ _ H _ I h => wpAny_tests_nil ⟨H, I, h⟩
theorem zr4 {X : Cx} {c : Expr} {t : TT} (hc : PT X c t) : PTs X [c] t := fun pins s Z H Q I h => wpAny_tests_one (hc pins s Z H Q I h)
def zr5 (Z Z2 : St) : Prop := Z2.length = Z.length /\ ∀ (j : Nat) (v : V), Z[j]? = some (some v) -> Z2[j]? = some (some v)
def tLC (k : Nat) (wi : TI) (g : TG) (tc : TT) (te : TE) : TE := fun Z H Q => wi Z H fun J H1 => ∃ W : Nat -> Nat -> List V -> Hp -> Prop, (∃ m, W 0 m [] H1) /\ ∀ i m ys H, W i m ys H -> ys.length < sizeLine /\
 ((J.stop i H /\ ∀ D, H D = none -> Q (.ref D) (upd H D (.lst ys))) \/
  (J.go i H /\ ∃ N : List V -> Hp -> Prop, (∀ ys' H', N ys' H' -> ∃ m', m' < m /\ W (i + 1) m' ys' H') /\
    ∀ v H', J.yld i H v H' -> g v (List.replicate k none ++ Z) H' fun Z2 H2 => zr5 (List.replicate k none ++ Z) Z2 /\
      tc Z2 H2 fun b H3 => if b = true then te Z2 H3 fun y H4 => N (ys ++ [y]) H4 else N ys H3))
theorem zvK {α : Type} {t : Sem α} {Q Q' : α -> Shared -> Prop} {M : Model} {A : Around} {E : Value -> Shared -> Prop} {s : Shared} (h : wpAny M A t Q (fun _ _ => False) s) (hQ : ∀ a s, Q a s -> Q' a s) : wpAny M A t Q' E s :=
 wpAny_mono h hQ fun _ _ z => False.elim z
section
variable {prog : Program} {w : World} {A : Around} {R : Result -> Shared -> Prop} {s : Shared}
theorem ziI {elt tg iter : Expr} {ifs : List Expr} {scope : Scope} {pos : Pos} {it acc : Value} {env : Env} (W : Nat -> Shared -> Prop)
  (turn : ∀ n s, W n s -> ∀ E', wpAny (model prog w) A (pyNext it) (fun r s1 => match r with
   | none => R (.ok .next) s1
   | some v => wpAny (model prog w) A (letOwnedTupleGo tg it v) (fun _ s2 => wpAny (model prog w) A (assign tg env v) (fun _ s3 =>
     wpAny (model prog w) A (forIn ifs true fun c r => if r = true then do let ok <- isTrue c env (eval c env); pure (ForInStep.yield ok) else pure (ForInStep.yield r)) (fun ok s4 =>
      if ok = true then wpAny (model prog w) A (eval elt env) (fun x s5 => wpAny (model prog w) A (call (.builtin "list.append") [acc, x]) (fun _ s6 => ∃ m, m < n /\ W m s6) E' s5) E' s4
      else ∃ m, m < n /\ W m s4) E' s3) E' s2) E' s1) E' s)
  (n : Nat) (h : W n s) : codeAny (model prog w) A (.compLoop (.ListComp elt [⟨tg, iter, ifs, 0⟩] scope pos) 0 it acc env) R s := by
 refine codeAny_loop rfl W (fun n s hW => ?_) n h
 show wpAny _ A ((compTurn (.ListComp elt [⟨tg, iter, ifs, 0⟩] scope pos) 0 it acc env).onRaise (fun x => do noteFrame x env; theTreesLotGoes x)) _ _ s
 refine wpAny_noted ?_
 rw [compTurn_list]
 refine wpAny_bind (wpAny_standAt (wpAny_bind (thn (turn n s hW _) fun r s1 h1 => ?_)))
 cases r with
 | none => exact wpAny_pure h1
 | some v =>
  refine wpAny_bind (thn h1 fun _ s2 h2 => wpAny_bind (thn h2 fun _ s3 h3 => wpAny_bind (thn h3 fun ok s4 h4 => ?_)))
  cases ok with
  | false => exact wpAny_pure ⟨rfl, h4⟩
  | true => exact wpAny_bind (wpAny_bind (thn h4 fun x s5 h5 => wpAny_bind (thn h5 fun _ s6 h6 => wpAny_pure (wpAny_pure ⟨rfl, h6⟩))))
end
section
variable {X : Cx} {pins : List (Addr × Obj)} {Z : St} {H2 : Hp} {s2 : Shared} {scope : Scope} {NY : List Str} {k : Nat} {C D : Addr} {fp : List Addr}
theorem zvL (I2 : Inv X pins Z H2 s2) (lc : LC X k scope NY) (hf : ∀ b ∈ fp, zm6 X pins H2 b) (hfl : ∀ b ∈ fp, b < s2.heap.objs.size) (hC : s2.heap.objs.size <= C) : (zdy X scope NY s2 H2 C fp).Ok := by
 have hfree : ∀ x ∈ scope.names, x.2 = .free -> ∃ c, X.env.cells.lookup x.1 = some c := fun x hx e => I2.ok.has x.1 (lc.free x hx e)
 have sub : ∀ x c, (zs3 X.env scope.names).lookup x = some c -> X.env.cells.lookup x = some c := zhI scope.names [] hfree (fun y c e => by simp at e)
 refine ⟨I2.ok.mod, ?_, I2.ok.glob, I2.ok.blt, hC, fun x y c e1 e2 => I2.ok.inj x y c (sub x c e1) (sub y c e2), fun x hx => ?_, fun x c z => absurd z (by show ¬ (false = true); decide), I2.ok.hd, I2.ok.frames, .inl rfl, fun b hb => ⟨xa0 (xak (hfl b hb) hC), fun x c e => (hf b hb).2.2.2.2.1 x c (sub x c e)⟩,
  I2.bs, xba I2.ok.bsz I2.sz, fun b o e hb => ?_, fun b hb z => ?_, I2.stack, I2.stkFree⟩
 ·show (relabel scope X.env).kind = .function
  exact lc.kind
 ·have hx : (relabel scope X.env).names.lookup x = some .cell \/ (relabel scope X.env).names.lookup x = some .free := hx
  have key : scope.names.lookup x = some .free := by
   rcases hx with hx | hx
   ·rcases zbg (scope := scope) hx with z | ⟨_, z⟩
    ·exact absurd rfl (lc.cells _ (PySem.mem_of_lookup z))
    ·exact z
   ·rcases zbg (scope := scope) hx with z | ⟨_, z⟩
    ·exact z
    ·exact z
  exact zf5 scope.names [] x (.inr (PySem.mem_of_lookup key))
 ·have q : b ∈ X.ex \/ X.s₀.heap.objs.size <= b := (hf b hb).2.2.2.1
  rcases q with q | q
  ·exact I2.ok.noex b o e q
  ·exact absurd (xak (xai e) (xba I2.ok.bsz q)) (xbh _)
 ·rcases xaf.mp (I2.stkSub b z) with e | e
  ·exact (hf b hb).2.1 e
  ·exact (hf b hb).2.2.1 e
theorem zpx {h1 : Heap} {tk : Nat} {m : Str -> Option Value} {oD : Obj} (I2 : Inv X pins Z H2 s2) (lc : LC X k scope NY) (hf : ∀ b ∈ fp, zm6 X pins H2 b) (hfl : ∀ b ∈ fp, b < s2.heap.objs.size) (hC : s2.heap.objs.size <= C) (hD : s2.heap.objs.size <= D) (hDC : D ≠ C)
  (old : ∀ b o, s2.heap.get? b = some o -> h1.get? b = some o) (hn : h1.Ns C m) (ho : h1.get? D = some oD) (hoD : ∀ v, oD.data ≠ .cell v) :
  Inv (zdy X scope NY s2 H2 C fp) [(D, oD)] (List.replicate k none ++ Z) H2 { s2 with heap := h1, toks := tk } := by
 have hfree : ∀ x ∈ scope.names, x.2 = .free -> ∃ c, X.env.cells.lookup x.1 = some c := fun x hx e => I2.ok.has x.1 (lc.free x hx e)
 have sub : ∀ x c, (zs3 X.env scope.names).lookup x = some c -> X.env.cells.lookup x = some c := zhI scope.names [] hfree (fun y c e => by simp at e)
 have hny := lc.ny
 unfold zvI at hny
 simp only [xav, beq_iff_eq, xay, Bool.or_eq_true, bne_iff_ne, ne_eq] at hny
 obtain ⟨hlen, hz⟩ := hny
 refine ⟨zvL I2 lc hf hfl hC, rfl, I2.bare, Un.kept old, ⟨m, hn, fun i x v e1 e2 e3 => ?_⟩, fun x c e => ?_, I2.hok.fresh hC, fun x c e => I2.freeC x c (sub x c e), fun p hp => ?_, I2.hok.kept old, ?_⟩
 ·have e1 : NY[i]? = some x := e1
  have hik : k <= i := by
   refine Nat.le_of_not_lt fun z => ?_
   rw [xb4 (by simpa using z), xcr, if_pos z] at e2
   cases e2
  rw [xcf (by simpa using hik), xc1] at e2
  have hi2 : i - k < X.N.length := by
   rw [<- I2.len]; exact (xah.mp e2).1
  obtain ⟨y, ey⟩ : ∃ y, X.N[i - k]? = some y := ⟨_, xao hi2⟩
  have em : (x, y) ∈ (NY.drop k).zip X.N := by
   refine xbf (i := i - k) ?_
   rw [List.getElem?_zip_eq_some]
   refine ⟨?_, ey⟩
   rw [List.getElem?_drop, show k + (i - k) = i by omega]; exact e1
  have e3 : Vis (relabel scope X.env) x := e3
  have kf : scope.names.lookup x = some .free := by
   have kk : ∃ q, scope.names.lookup x = some q := by
    rcases e3 with z | z | z <;> rcases zbg (scope := scope) z with z | ⟨_, z⟩ <;> exact ⟨_, z⟩
   have zz := hz (x, y) em
   have nl : scope.names.lookup x ≠ some .local := by
    rcases zz with zz | zz
    ·obtain ⟨q, hq⟩ := kk
     have zz : (scope.names.lookup x).isNone = true := zz
     rw [hq] at zz; cases zz
    ·exact zz.2
   rcases e3 with z | z | z <;> rcases zbg (scope := scope) z with z | ⟨_, z⟩
   ·exact absurd z nl
   ·exact z
   ·exact absurd rfl (lc.cells _ (PySem.mem_of_lookup z))
   ·exact z
   ·exact z
   ·exact z
  have exy : x = y := by
   rcases hz (x, y) em with zz | zz
   ·have zz : (scope.names.lookup x).isNone = true := zz
    rw [kf] at zz; cases zz
   ·exact zz.1
  subst exy
  obtain ⟨mX, hnX, hlX⟩ := I2.loc
  have hk := lc.free (x, .free) (PySem.mem_of_lookup kf) rfl
  have hk : X.env.kindOf x = some .cell \/ X.env.kindOf x = some .free := hk
  obtain ⟨u, ru, lu⟩ := hlX (i - k) x v ey e2 (.inr hk)
  refine ⟨u, ru, ?_⟩
  rcases lu with ⟨z, _⟩ | ⟨_, c, hc, hcell⟩
  ·rcases hk with q | q <;> rw [q] at z <;> cases z
  ·obtain ⟨c', hc'⟩ := zf5 (env := X.env) scope.names [] x (.inr (PySem.mem_of_lookup kf))
   have : c' = c := by
    have q := sub x c' hc'
    rw [hc] at q; exact (Option.some.inj q).symm
   subst this
   refine .inr ⟨?_, c', hc', hcell.keeps old⟩
   show (relabel scope X.env).names.lookup x = some .cell \/ (relabel scope X.env).names.lookup x = some .free
   rcases e3 with z | z
   ·rcases zbg (scope := scope) z with z | ⟨z, _⟩
    ·rw [kf] at z; cases z
    ·cases z
   ·exact z
 ·obtain ⟨v, z⟩ := I2.cell x c (sub x c e)
  exact ⟨v, z.keeps old⟩
 ·have e : p = (D, oD) := by simpa [zdy] using hp
  subst e
  refine ⟨ho, I2.hok.fresh hD, hDC, fun z => ?_, hoD⟩
  have z : D ∈ frs X.stack := z
  rcases xaf.mp (I2.stkSub D z) with q | q
  ·exact absurd (xak I2.lt hD) (by rw [q]; exact xbh _)
  ·exact I2.nofs hD q
 ·show (List.replicate k none ++ Z).length = NY.length
  rw [hlen, xby, xc1, I2.len]
theorem ztM {H4 : Hp} {s4 : Shared} {Z' : St} {ys : List V} {us : List Value} (I2 : Inv X pins Z H2 s2) (hf : ∀ b ∈ fp, zm6 X pins H2 b) (hC : s2.heap.objs.size <= C) (hD : s2.heap.objs.size <= D)
  (I4 : Inv (zdy X scope NY s2 H2 C fp) [(D, LCg.lst us)] Z' H4 s4) (rv : zbf ys us) (hz : ys.length <= sizeLine) : Inv X pins Z (upd H4 D (.lst ys)) s4 := by
 obtain ⟨pD, nD, neD, nfD, dD⟩ := I4.pin (D, LCg.lst us) (by simp)
 have u0 : Un (frs X.stack) fp H2 H4 s2.heap s4.heap := I4.base
 have neb : ∀ b o, s2.heap.get? b = some o -> b ≠ D := fun b o e => xa0 (xak (xai e) hD)
 have hok : HOk X.prog X.w (upd H4 D (.lst ys)) s4.heap := fun b u e => by
  by_cases hb : b = D
  ·subst hb
   rw [zav] at e; cases e
   exact ⟨hz, us, us.length, rv, pD⟩
  ·rw [zap hb] at e
   exact (I4.hok b u e).stay (fun _ _ _ q => q) (fun c q => by rw [zap (zal q nD)]; exact q) fun c xs q => by rw [zap (zal q nD)]; exact q
 refine I2.call' (ch := fp) I4.os ⟨u0.keep, u0.slot, fun b o e n hx => ?_, u0.there, fun b xs q => ?_, fun b o u q => ?_, fun b ps q => ?_⟩ hok I4.bare fun b hb => ⟨(hf b hb).2.2.2.1, (hf b hb).2.1, (hf b hb).2.2.2.2.1, (hf b hb).2.2.2.2.2⟩
 ·rw [zap (neb b o e)]; exact u0.free b o e n hx
 ·have z := u0.tups b xs q
  rw [zap (zal z nD)]; exact z
 ·have z := u0.frzs b o u q
  rw [zap (zal z nD)]; exact z
 ·obtain ⟨more, z⟩ := u0.tbls b ps q
  exact ⟨more, by rw [zap (zal z nD)]; exact z⟩
end
theorem zqu {X : Cx} {tg elt iter : Expr} {ifs : List Expr} {scope : Scope} {pos : Pos} {NY : List Str} {k : Nat} {g : TG} {tc : TT} {te : TE} (hc : X.calm = true) (lc : LC X k scope NY)
  (hb : ∀ (s₀ : Shared) (H₀ : Hp) (C : Addr) (ex : List Addr), NY.Nodup -> PG (zdy X scope NY s₀ H₀ C ex) tg g /\ PTs (zdy X scope NY s₀ H₀ C ex) ifs tc /\ PE (zdy X scope NY s₀ H₀ C ex) elt te)
  {pins : List (Addr × Obj)} {Z : St} {H2 : Hp} {s2 : Shared} {it : Addr} {fp : List Addr} {tn : Nat -> Heap -> Prop} {J : It} {RR : Value -> Addr -> Result -> Shared -> Prop} {E : Value -> Shared -> Prop} {Fin : List V -> Hp -> Prop}
  (I2 : Inv X pins Z H2 s2) (T : ztv X.prog X.w X.K tg J fp it tn) (st2 : tn 0 s2.heap) (f2 : ∀ b ∈ fp, zm6 X pins H2 b) {W : Nat -> Nat -> List V -> Hp -> Prop} {m0 : Nat} (w0 : W 0 m0 [] H2)
  (turn : ∀ i m ys H, W i m ys H -> ys.length < sizeLine /\ ((J.stop i H /\ Fin ys H) \/ (J.go i H /\ ∃ N : List V -> Hp -> Prop, (∀ ys' H', N ys' H' -> ∃ m', m' < m /\ W (i + 1) m' ys' H') /\
   ∀ v H', J.yld i H v H' -> g v (List.replicate k none ++ Z) H' fun Z2 H2 => zr5 (List.replicate k none ++ Z) Z2 /\ tc Z2 H2 fun b H3 => if b = true then te Z2 H3 fun y H4 => N (ys ++ [y]) H4 else N ys H3)))
  (fin : ∀ (C D : Addr) (H4 : Hp) (s4 : Shared) (ys : List V) (m : Str -> Option Value), s2.heap.objs.size <= C -> H4 D = none -> H4 C = none -> D ≠ C -> s4.heap.Ns C m -> Inv X pins Z (upd H4 D (.lst ys)) s4 -> Fin ys H4 -> RR (.ref D) C (.ok .next) s4) :
  wpAny (model X.prog X.w) X.A (newList []) (fun acc s3 => wpAny (model X.prog X.w) X.A (newFunctionEnv scope X.env.globals (zs3 X.env scope.names) [] X.env.qual none .none (some X.env)) (fun cenv s4 =>
   codeAny (model X.prog X.w) X.A (.compStart (.ListComp elt [⟨tg, iter, ifs, 0⟩] scope pos) 0 (.ref it) acc { cenv with scope := relabel scope X.env }) (RR acc cenv.locals) s4) E s3) E s2 := by
 refine wpAny_newObj_type (wpAny_newFunctionEnv lc.cells (by intro y hy; simp at hy) (fun h1 hns1 hsb1 => ?_) lc.kind)
 dsimp only at hns1 hsb1 ⊢
 generalize hG : s2.heap.push { cls := .type "list", dict := none, data := .seq ([] : List Value).toArray } = G at hns1 hsb1 ⊢
 have hC : G.objs.size = s2.heap.objs.size + 1 := by rw [<- hG, xc8]
 have hCle : s2.heap.objs.size <= G.objs.size := by omega
 have hDC : s2.heap.objs.size ≠ G.objs.size := by omega
 have hfl : ∀ b ∈ fp, b < s2.heap.objs.size := fun b hb => by obtain ⟨o, e, _⟩ := T.obj 0 _ st2 b hb; exact xai e
 have old : ∀ b o, s2.heap.get? b = some o -> h1.get? b = some o := fun b o e => by
  have lt := xai e
  refine hsb1.extBut b o (xa0 (xak lt hCle)) (xaa _ ?_)
  rw [<- hG]; exact xaa _ e
 have hacc : h1.get? s2.heap.objs.size = some (LCg.lst []) := by
  refine hsb1.extBut _ _ hDC (xaa _ ?_)
  rw [<- hG]; exact xau _ rfl
 have dl : ∀ (us : List Value) v, (LCg.lst us).data ≠ .cell v := fun us v z => by
  have z' : Data.seq us.toArray us.length = Data.cell v := z
  cases z'
 have I3 := zpx (h1 := h1) (tk := s2.toks + ([] : List (Str × Value)).length) I2 lc f2 hfl hCle (xaj _) hDC old hns1 hacc (dl [])
 have fpY : ∀ {us : List Value} {H' : Hp}, (∀ b ∈ fp, H' b = none) -> ∀ b ∈ fp, zm6 (zdy X scope NY s2 H2 G.objs.size fp) [(s2.heap.objs.size, LCg.lst us)] H' b := fun {us H'} hn b hb => by
  have lt := hfl b hb
  have okY := I3.ok
  refine ⟨hn b hb, (okY.exf b hb).1, okY.exfs b hb, .inl hb, (okY.exf b hb).2, fun p hp => ?_⟩
  have e : p = (s2.heap.objs.size, LCg.lst us) := by simpa [zdy] using hp
  subst e
  exact xc4 lt
 obtain ⟨hg, ht, he⟩ := hb s2 H2 G.objs.size fp lc.nd
 have loop : ∀ s3 : Shared, s3 = { s2 with heap := h1, toks := s2.toks + ([] : List (Str × Value)).length } ->
   codeAny (model X.prog X.w) X.A (.compLoop (.ListComp elt [⟨tg, iter, ifs, 0⟩] scope pos) 0 (.ref it) (.ref s2.heap.objs.size) (compEnvC scope (zs3 X.env scope.names) G.objs.size X.env)) (RR (.ref s2.heap.objs.size) G.objs.size) s3 := by
  rintro s3 rfl
  refine ziI (fun n s' => ∃ i H' ys us, Inv (zdy X scope NY s2 H2 G.objs.size fp) [(s2.heap.objs.size, LCg.lst us)] (List.replicate k none ++ Z) H' s' /\ zbf ys us /\ tn i s'.heap /\ (∀ b ∈ fp, H' b = none) /\ W i n ys H') ?_ m0
   ⟨0, H2, [], [], I3, .nil, T.keep _ _ _ st2 fun b _ o e => old b o e, fun b hb => (f2 b hb).1, w0⟩
  rintro n s3 ⟨i, H3, ys, us, I3, rv, st3, fr3, w3⟩ E'
  obtain ⟨hsz, hturn⟩ := turn i n ys H3 w3
  rcases hturn with ⟨stop, qn⟩ | ⟨go, N, hN, step⟩
  ·refine thn (T.done (zdy X scope NY s2 H2 G.objs.size fp) rfl rfl rfl hc i _ s3 _ H3 E' I3 (fpY fr3) st3 stop) fun r s4 ⟨hr, I4⟩ => ?_
   subst hr
   obtain ⟨m4, hn4, _⟩ := I4.loc
   exact fin _ _ H3 s4 ys m4 hCle (I4.pin (s2.heap.objs.size, LCg.lst us) (by simp)).2.1 I4.free hDC hn4 (ztM I2 f2 hCle (xaj _) I4 rv (xcp hsz)) qn
  ·refine thn (T.item (zdy X scope NY s2 H2 G.objs.size fp) rfl rfl rfl hc i _ s3 _ H3 E' I3 (fpY fr3) st3 go) fun r s4 ⟨u, hr, h4⟩ => ?_
   subst hr
   refine thn h4 fun _ s5 ⟨x, H5, I5, r5, y5, st5, fr5⟩ => ?_
   have I5' := I5.pinned (fpY fr5) (T.obj _ _ st5)
   refine zvK (hg _ s5 _ H5 x u _ I5' r5 (step x H5 y5)) fun _ s6 ⟨Z6, H6, I6, sub6, q6⟩ => ?_
   have keep : ∀ {Z7 : St} {H7 : Hp} {s7 : Shared}, Inv (zdy X scope NY s2 H2 G.objs.size fp) ([(s2.heap.objs.size, LCg.lst us)] ++ ziv fp s5.heap) Z7 H7 s7 -> tn (i + 1) s7.heap /\ (∀ b ∈ fp, H7 b = none) := fun {Z7 H7 s7} I7 => by
    refine ⟨T.keep _ _ _ st5 fun b hb o e => (I7.pin (b, o) (xa9 _ (xa9 _ (zd7 hb e)))).1, fun b hb => ?_⟩
    obtain ⟨o, e, d⟩ := T.obj _ _ st5 b hb
    exact (I7.pin (b, o) (xa9 _ (xa9 _ (zd7 hb e)))).2.1
   refine zvK (ht _ s6 Z6 H6 _ I6 q6) fun ok s7 ⟨H7, I7, q7⟩ => ?_
   cases ok with
   | false =>
    rw [if_neg xa1] at q7 ⊢
    obtain ⟨m', hm, w7⟩ := hN _ _ q7
    obtain ⟨k1, k2⟩ := keep I7
    exact ⟨m', hm, i + 1, H7, ys, us, (I7.weak (by rw [I7.len, I5.len]) sub6.2).unpinned, rv, k1, k2, w7⟩
   | true =>
    rw [if_pos rfl] at q7 ⊢
    refine zvK (he _ s7 Z6 H7 _ I7 q7) fun y s8 ⟨v, H8, I8, r8, q8⟩ => ?_
    obtain ⟨m', hm, w8⟩ := hN _ _ q8
    obtain ⟨k1, k2⟩ := keep I8
    obtain ⟨pD, nD, neD, nfD, dD⟩ := I8.pin (s2.heap.objs.size, LCg.lst us) (by simp)
    have hul : us.toArray.size <= sizeLine := by rw [xag, <- rv.length]; exact xcp hsz
    refine append_at pD (fun h9 sb9 hD9 => ?_) hul
    have I8' : Inv (zdy X scope NY s2 H2 G.objs.size fp) [] (List.replicate k none ++ Z) H8 s8 := (I8.weak (by rw [I8.len, I5.len]) sub6.2).pins_of fun p hp => absurd hp (by simp)
    have hDfp : s2.heap.objs.size ∉ fp := fun z => xbh _ (hfl _ z)
    have I9 : Inv (zdy X scope NY s2 H2 G.objs.size fp) [] (List.replicate k none ++ Z) H8 { s8 with heap := h9 } :=
     I8'.turned (t' := s8.toks) (it := s2.heap.objs.size) (fun b o hb e => (sb9.2 b hb).trans e) nD neD (.inr (xaj _)) (fun x c e z => by
      obtain ⟨v', o', e1, e2⟩ := I8.cell x c e
      rw [z, pD] at e1
      have e1' : LCg.lst us = o' := Option.some.inj e1
      rw [<- e1'] at e2
      exact dl us v' e2) (fun p hp => absurd hp (by simp [zdy]))
    refine ⟨m', hm, i + 1, H8, ys ++ [v], us ++ [y], I9.pins_of fun p hp => ?_, rv.append (.cons r8 .nil), T.keep _ _ _ k1 fun b hb o e => (sb9.2 b fun z => hDfp (z ▸ hb)).trans e, k2, w8⟩
    have e : p = (s2.heap.objs.size, LCg.lst (us ++ [y])) := by simpa using hp
    subst e
    exact ⟨hD9.trans (congrArg some (LCg.lst_snoc us y)), nD, neD, nfD, dl _⟩
 exact codeAny_compStart_list (loop _ rfl) (T.self _ 0 _ _ _ (T.keep _ _ _ st2 fun b _ o e => old b o e) (loop _ rfl))
section
variable {X : Cx} {tg elt iter : Expr} {ifs : List Expr} {scope : Scope} {pos : Pos} {NY : List Str} {k : Nat} {wi : TI} {g : TG} {tc : TT} {te : TE}
theorem zvM (hc : X.calm = true) (lc : LC X k scope NY) (hi : PI X tg iter wi)
  (hb : ∀ (s₀ : Shared) (H₀ : Hp) (C : Addr) (ex : List Addr), NY.Nodup -> PG (zdy X scope NY s₀ H₀ C ex) tg g /\ PTs (zdy X scope NY s₀ H₀ C ex) ifs tc /\ PE (zdy X scope NY s₀ H₀ C ex) elt te)
  (hs : ∀ x, foldedSetIterable iter X.env x = pure x := by intro _; rfl) : PE X (.ListComp elt [⟨tg, iter, ifs, 0⟩] scope pos) (tLC k wi g tc te) := by
 intro pins s Z H Q I h
 rw [eval_ListComp]
 refine wpAny_comprehension_free (use := none) rfl hs (znl fun x hx e => I.ok.has x.1 (lc.free x hx e)) lc.kind lc.names (thn (hi pins s Z H _ I h) fun v s1 h1 => thn h1 fun itv s2 h2 => ?_)
 obtain ⟨it, fp, tn, J, H2, e, I2, T, st2, f2, W, ⟨m0, w0⟩, turn⟩ := h2
 subst e
 refine zqu (RR := fun acc C => compPost (model X.prog X.w) X.A X.xe none (EP X pins Z Q) acc C) hc lc hb I2 T st2 f2 w0 turn fun C D H4 s4 ys m hC nD nC hDC hn I4 q => ?_
 refine ⟨m, hn, fun h' sb => ?_⟩
 have hCn : upd H4 D (.lst ys) C = none := by rw [zap (xa3 hDC)]; exact nC
 obtain ⟨f0, f1, f2', f3, f4, f5⟩ := I2.fpOk (H' := upd H4 D (.lst ys)) hC hCn
 exact ⟨.ref D, _, I4.turned (t' := s4.toks) (fun b o hb e => (sb.2 b hb).trans e) f0 f1 f3 f4 f5, rfl, q D nD⟩
theorem zvN {i : Nat} {y : Str} {py spos : Pos} (hc : X.calm = true) (hN : X.N.Nodup) (hi' : X.N[i]? = some y) (hy : X.env.kindOf y = some .local) (lc : LC X k scope NY) (hi : PI X tg iter wi)
  (hb : ∀ (s₀ : Shared) (H₀ : Hp) (C : Addr) (ex : List Addr), NY.Nodup -> PG (zdy X scope NY s₀ H₀ C ex) tg g /\ PTs (zdy X scope NY s₀ H₀ C ex) ifs tc /\ PE (zdy X scope NY s₀ H₀ C ex) elt te)
  (hsw : swapsWith (.ListComp elt [⟨tg, iter, ifs, 0⟩] scope pos) (some (.Name y py)) spos.line X.env = pure true := by rfl)
  (hs : ∀ x, foldedSetIterable iter X.env x = pure x := by intro _; rfl) : PS X (.Assign [.Name y py] (.ListComp elt [⟨tg, iter, ifs, 0⟩] scope pos) spos) (zrO (tLC k wi g tc te) (ziu i)) := by
 intro pins s Z H D0 I h
 rw [exec_Assign_Name_used _ _ _ _ hsw]
 refine wpAny_bind (wpAny_standAt (wpAny_bind ?_))
 show wpAny _ X.A (do let _ <- comprehension (.ListComp elt [⟨tg, iter, ifs, 0⟩] scope pos) scope X.env _ (newList []) false (eval iter X.env) (some (assign (.Name y py) X.env))) _ _ s
 refine wpAny_bind (thn (wpAny_comprehension_free (use := some (assign (.Name y py) X.env)) (Q := fun _ s' => SP X pins D0 .next s') rfl hs (znl fun x hx e => I.ok.has x.1 (lc.free x hx e)) lc.kind lc.names
  (thn (hi pins s Z H _ I h) fun v s1 h1 => thn h1 fun itv s2 h2 => ?_)) fun _ s' q => wpAny_pure (wpAny_pure q))
 obtain ⟨it, fp, tn, J, H2, e, I2, T, st2, f2, W, ⟨m0, w0⟩, turn⟩ := h2
 subst e
 refine zqu (RR := fun acc C => compPost (model X.prog X.w) X.A X.xe (some (assign (.Name y py) X.env)) (fun _ s' => SP X pins D0 .next s') acc C) hc lc hb I2 T st2 f2 w0 turn fun C D H4 s4 ys m hC nD nC hDC hn I4 q => ?_
 have hCn : upd H4 D (.lst ys) C = none := by rw [zap (xa3 hDC)]; exact nC
 obtain ⟨f0, f1, f2', f3, f4, f5⟩ := I2.fpOk (H' := upd H4 D (.lst ys)) hC hCn
 obtain ⟨oC, es, ep, eC, dC, rC⟩ := id hn
 have I5 : Inv X (pins ++ [(C, oC)]) Z (upd H4 D (.lst ys)) s4 := I4.pins_of fun p hp => by
  rcases xb1.mp hp with z | z
  ·exact I4.pin p (xa9 _ z)
  ·have e : p = (C, oC) := by simpa using z
   subst e
   exact ⟨eC, hCn, f1, f2', fun v z => by rw [show (C, oC).2.data = oC.data from rfl, dC] at z; cases z⟩
 show wpAny _ X.A (assign (.Name y py) X.env (.ref D)) _ _ _
 refine wpAny_assign_Name (zd6 (v := .ref D) I5 hN hi' (.inl hy) rfl (fun s5 I6 => ?_) (.inr hy))
 refine ⟨m, ⟨oC, es, ep, (I6.pin (C, oC) (by simp)).1, dC, rC⟩, fun h' sb => ?_⟩
 exact ⟨_, _, I6.unpinned.turned (t' := s5.toks) (fun b o hb e => (sb.2 b hb).trans e) f0 f1 f3 f4 f5, q D nD⟩
end
end L2
namespace L2
open PySem.Spec PyProof.Rows
theorem zmj {n k : Nat} (hk : 0 < k) (h : n < 2 ^ k) : n.log2 < k := by
 rcases Nat.eq_zero_or_pos n with h0 | hp
 ·rw [h0]; simpa using hk
 ·exact (Nat.log2_lt (xc4 hp)).mpr h
section
variable {X : Cx}
def gLst (K : xFg) (n : Nat) (t : TGs) : TG := fun v Z H Q => ∃ a xs, v = .ref a /\ SqL K H a xs /\ xs.length = n /\ t xs Z H Q
theorem ztN {es : List Expr} {k : Nat} {t : TGs} {n : Nat} {pos : Pos} (hc : X.calm = true) (h : PGs X es t)
  (hn : (assignEach es X.env).length = n := by rfl) (hst : (assignEach es X.env).findIdx? (·.1) = none := by rfl) : PG X (.Tuple es k pos) (gLst X.K n t) := by
 intro pins s Z H v u Q I r hw
 obtain ⟨a, xs, e1, hq, hl, hw⟩ := hw
 subst e1
 cases r
 obtain ⟨its, rv, pl, hz⟩ := I.list hq
 have hsz : (assignEach es X.env).length = its.toArray.size := by simp [hn, <- hl, rv.length]
 rw [assign_Tuple]
 refine wpAny_bind (wpAny_standAt ?_)
 unfold unpack
 rw [hsz, hst]
 refine wpAny_bind (wpAny_holding (PySem.W.kun_itemsOf (I.ok.hd hc) pl.isList fun h' hx => ?_))
 have I1 : Inv X pins Z H { s with heap := h' } := I.kept (t' := s.toks) fun b o e => hx b o (xa0 (xai e)) e
 exact h pins _ Z H xs _ Q I1 (by simpa using rv) hw
end
end L2
namespace Mth
theorem gcd_step (m n : Nat) : Nat.gcd n (m % n) = Nat.gcd m n := by
 rw [Nat.gcd_comm n (m % n), <- Nat.gcd_rec n m, Nat.gcd_comm]
structure zhJ (s x y z x' y' z' : Int) : Prop where
 ne : s ≠ 0
 x : x = s * x'
 y : y = s * y'
 z : z = s * z'
theorem zf6 {s x x' : Int} (h : s ≠ 0) (e : x = s * x') : x.fdiv s = x' := by
 rw [e]; exact Int.mul_fdiv_cancel_left x' h
theorem zf7 {s x x' : Int} (h : s ≠ 0) (e : x = s * x') : x'.natAbs <= x.natAbs := by
 rw [e, xcd]
 exact Nat.le_mul_of_pos_left _ (by omega)
theorem zmk (x y z : Int) (h : ¬ (x = 0 /\ y = 0 /\ z = 0)) : ∃ x' y' z', zhJ ((Nat.gcd (Nat.gcd x.natAbs y.natAbs) z.natAbs : Nat) : Int) x y z x' y' z' := by
 have d1 : (Nat.gcd (Nat.gcd x.natAbs y.natAbs) z.natAbs) ∣ x.natAbs := Nat.dvd_trans (xcz _ _) (xcz _ _)
 have d2 : (Nat.gcd (Nat.gcd x.natAbs y.natAbs) z.natAbs) ∣ y.natAbs := Nat.dvd_trans (xcz _ _) (Nat.gcd_dvd_right _ _)
 have d3 : (Nat.gcd (Nat.gcd x.natAbs y.natAbs) z.natAbs) ∣ z.natAbs := Nat.gcd_dvd_right _ _
 have n0 : Nat.gcd (Nat.gcd x.natAbs y.natAbs) z.natAbs ≠ 0 := by
  intro e
  rw [e] at d1 d2 d3
  exact h ⟨by have := xcs d1; omega, by have := xcs d2; omega, by have := xcs d3; omega⟩
 have c1 : ((Nat.gcd (Nat.gcd x.natAbs y.natAbs) z.natAbs : Nat) : Int) ∣ x := xc2.mp (by rw [xcq]; exact d1)
 have c2 : ((Nat.gcd (Nat.gcd x.natAbs y.natAbs) z.natAbs : Nat) : Int) ∣ y := xc2.mp (by rw [xcq]; exact d2)
 have c3 : ((Nat.gcd (Nat.gcd x.natAbs y.natAbs) z.natAbs : Nat) : Int) ∣ z := xc2.mp (by rw [xcq]; exact d3)
 obtain ⟨x', e1⟩ := c1
 obtain ⟨y', e2⟩ := c2
 obtain ⟨z', e3⟩ := c3
 exact ⟨x', y', z', by omega, e1, e2, e3⟩
theorem zhJ.neg {s x y z x' y' z' : Int} (p : zhJ s x y z x' y' z') : zhJ (0 - s) x y z (-x') (-y') (-z') := by
 refine ⟨by have := p.ne; omega, ?_, ?_, ?_⟩
 ·rw [p.x, Int.zero_sub, Int.neg_mul_neg]
 ·rw [p.y, Int.zero_sub, Int.neg_mul_neg]
 ·rw [p.z, Int.zero_sub, Int.neg_mul_neg]
theorem zf8 {a b B : Nat} (ha : a <= B) (hb : b <= B) : Nat.gcd a b <= B := by
 rcases Nat.eq_zero_or_pos a with h | h
 ·rw [h, Nat.gcd_zero_left]; exact hb
 ·exact xba (Nat.gcd_le_left b h) ha
end Mth
namespace L2
open PySem.Spec PyProof.Rows
theorem zpy {H : Hp} {p : Addr} (h : H p = none) (o : HO) : zaI H (upd H p o) := fun b u q => by rw [zap (zal q h)]; exact q
theorem zaI.tup {K : xFg} {H H' : Hp} {a : Addr} {xs : List V} (e : zaI H H') (h : SqT K H a xs) : SqT K H' a xs := by
 rcases h with (h | ⟨o, h⟩) | h
 ·exact .inl (.inl (e _ _ h))
 ·exact .inl (.inr ⟨o, e _ _ h⟩)
 ·exact .inr h
theorem zvO {n : Nat} (h : n <= 1000) : n <= sizeLine := xcp (znk h)
section
variable {K : xFg} {a : Addr} {xs : List V} {H : Hp}
theorem lgo (h : SqL K H a xs) : (Itl K a).stop xs.length H /\ ∀ i, i < xs.length -> (Itl K a).go i H /\ ∀ v H', (Itl K a).yld i H v H' -> H' = H /\ xs[i]? = some v :=
 ⟨⟨xs, h, xaj _⟩, fun i hi => ⟨⟨xs, xs[i], h, by simp [hi]⟩, fun v H' y => ⟨y.1, y.2 xs h⟩⟩⟩
theorem tgo (h : SqT K H a xs) : (Itt K a).stop xs.length H /\ ∀ i, i < xs.length -> (Itt K a).go i H /\ ∀ v H', (Itt K a).yld i H v H' -> H' = H /\ xs[i]? = some v :=
 ⟨⟨xs, h, xaj _⟩, fun i hi => ⟨⟨xs, xs[i], h, by simp [hi]⟩, fun v H' y => ⟨y.1, y.2 xs h⟩⟩⟩
end
end L2
namespace L2
open PySem.Spec PyProof.Rows
structure Fly (B : Heap) (l : List Env) (x : Addr) (cls : Value) (dct : Option Addr) (fl : Value) (h : Heap) : Prop where
 stays : B.StaysIn h
 new : B.get? x = none
 frames : h.FunFrames B l
 obj : ∃ ox vs T oT ts, h.get? x = some ox /\ ox.cls = cls /\ ox.dict = dct /\ ox.data = .fields vs /\ vs[1]? = some (.ref T) /\ B.get? T = none /\ T ≠ x /\ h.get? T = some oT /\ oT.data = .fields ts /\ ts[3]? = some fl
theorem znm (o : Obj) (f : Array Value -> Array Value) : (o.mapFields f).dict = o.dict := by
 obtain ⟨c, d, dt, sl⟩ := o; cases dt <;> rfl
section
variable {M : Model} {A : Around} {E : Value -> Shared -> Prop} {s : Shared} {B : Heap} {env : Env} {outer : List Env} {L x : Addr} {Q : Unit -> Shared -> Prop}
theorem zcB {h : Heap} {y : Addr} {oy : Obj} {ws : Array Value} (ey : h.get? y = some oy) (dy : oy.data = .fields ws) {b : Addr} {o : Obj} (eb : h.get? b = some o) (nf : ∀ us, o.data ≠ .fields us) : b ≠ y := fun z => by
 rw [z, ey] at eb
 have z' : oy = o := Option.some.inj eb
 rw [<- z'] at nf
 exact nf ws dy
theorem ziJ {ox : Obj} {vs : Array Value} {head : Value} {hadNext : Bool} (hfr : A.frames = some (env :: outer)) (hl : s.heap.FunFrames B (env :: outer)) (hf : env.frame = some L)
  (ex : s.heap.get? x = some ox) (hB : B.StaysIn s.heap) (nx : B.get? x = none) (dx : ox.data = .fields vs) (sz : 1 < vs.size)
  (k : ∀ h', Fly B (env :: outer) x ox.cls ox.dict (rawInt L) h' -> s.heap.UpToSlots h' -> Q () { s with heap := h' }) :
  wpAny M A (do let a <- frameOf env; let pl <- entryPlaceOf L hadNext; let b <- EntryCells.newEntry head a .none (rawInt L) .none pl; setField (.ref x) 1 b) Q E s := by
 have nfr : x ∉ (env :: outer).filterMap (·.frame) := fun hm => by
  obtain ⟨_, o, ho, nf⟩ := hl.mem hm
  exact zcB ex dx ho nf rfl
 refine wpAny_bind (wpAny_frameOf_fun hfr hl hf fun g1 so => wpAny_bind (wpAny_entryPlaceOf fun pl hpl => ?_))
 unfold EntryCells.newEntry newFields
 refine wpAny_bind (wpAny_newObj_type ?_ (hpl.sizeOk5 _ _ _ _ _))
 have ex1 : g1.get? x = some ox := (so.2.1 x nfr).trans ex
 have B1 : B.StaysIn g1 := fun b o eb => (so.2.1 b fun hm => by rw [(hl.mem hm).1] at eb; cases eb).trans (hB b o eb)
 generalize eo : ({ cls := .type "traceback", dict := none, data := .fields ([head, .ref L, .none, rawInt L, .none] ++ (if pl.isEmpty then List.replicate 6 Value.none else pl)).toArray } : Obj) = ob
 have ex2 := xaa (h := g1) ob ex1
 refine wpAny_setField ex2 dx sz (k _ ?_ ?_)
 ·have Tx : g1.objs.size ≠ x := xc4 (xai ex1)
  have d3 := Obj.data_mapFields dx (·.setIfInBounds 1 (Value.ref g1.objs.size))
  have e3 := xcc (Obj.mapFields (·.setIfInBounds 1 (Value.ref g1.objs.size))) ex2 (Obj.isFreed_of_fields d3)
  have freeOb : ob.isFreed = false := by rw [<- eo]; rfl
  have T3 := (xbg (g1.push ob) (Obj.mapFields (·.setIfInBounds 1 (Value.ref g1.objs.size))) (xa3 Tx)).trans (xau g1 freeOb)
  refine ⟨fun b o eb => ?_, nx, hl.of_keeps fun b o eb nf => ?_, _, _, g1.objs.size, ob, _, e3, Obj.cls_mapFields _ _, znm _ _, d3, by simp [sz], B1.fresh, Tx, T3, by rw [<- eo], ?_⟩
  ·rw [xbg _ _ (fun z => by rw [<- z, nx] at eb; cases eb)]
   exact xaa _ (B1 b o eb)
  ·obtain ⟨sl, q⟩ := so.2.2 b o eb
   refine ⟨{ o with slots := sl }, ?_, rfl⟩
   rw [xbg _ _ (xa3 (zcB ex dx eb nf))]
   exact xaa _ q
  ·rcases hpl with rfl | ⟨_, _, _, _, _, _, _, rfl⟩ <;> simp
 ·intro b o eb nf
  obtain ⟨sl, q⟩ := so.2.2 b o eb
  refine ⟨sl, ?_⟩
  rw [xbg _ _ (xa3 (zcB ex dx eb nf))]
  exact xaa _ q
theorem znn {ox : Obj} {vs : Array Value} (hfr : A.frames = some (env :: outer)) (hl : s.heap.FunFrames B (env :: outer)) (hf : env.frame = some L)
  (ex : s.heap.get? x = some ox) (hB : B.StaysIn s.heap) (nx : B.get? x = none) (dx : ox.data = .fields vs) (v1 : vs[1]? = some .none)
  (k : ∀ h', Fly B (env :: outer) x ox.cls ox.dict (rawInt L) h' -> s.heap.UpToSlots h' -> Q () { s with heap := h' }) : wpAny M A (noteFrame (.ref x) env) Q E s := by
 unfold noteFrame
 simp only [hf]
 refine wpAny_bind (wpAny_field ex dx v1 ?_)
 rw [if_neg (show ¬ ((Value.none != Value.none) = true) by decide)]
 exact ziJ hfr hl hf ex hB nx dx (xaz.mp v1).1 k
theorem zkK {cls : Value} {dct : Option Addr} (hfr : A.frames = some (env :: outer)) (hf : env.frame = some L) (F : Fly B (env :: outer) x cls dct .none s.heap)
  (k : ∀ h', Fly B (env :: outer) x cls dct (rawInt L) h' -> s.heap.UpToSlots h' -> Q () { s with heap := h' }) : wpAny M A (noteFrame (.ref x) env) Q E s := by
 obtain ⟨ox, vs, T, oT, ts, ex, hc, hd, dx, v1, nT, Tx, eT, dT, t3⟩ := F.obj
 subst hc hd
 unfold noteFrame
 simp only [hf]
 refine wpAny_bind (wpAny_field ex dx v1 ?_)
 rw [if_pos (show (Value.ref T != Value.none) = true by simp)]
 refine wpAny_bind (wpAny_field eT dT t3 ?_)
 rw [if_neg (show ¬ ((Value.none == rawInt L) = true) by simp [rawInt])]
 refine wpAny_bind (wpAny_setField eT dT (xaz.mp t3).1 ?_)
 have oth : ∀ b, b ≠ T -> (s.heap.update T (Obj.mapFields (·.setIfInBounds 3 Value.none))).get? b = s.heap.get? b := fun b hb => xbg _ _ (xa3 hb)
 have up : s.heap.UpToSlots (s.heap.update T (Obj.mapFields (·.setIfInBounds 3 Value.none))) := fun b o eb nf => ⟨o.slots, (oth b (zcB eT dT eb nf)).trans eb⟩
 refine ziJ hfr (F.frames.of_keeps fun b o eb nf => ⟨o, (oth b (zcB eT dT eb nf)).trans eb, rfl⟩) hf ((oth x (xa3 Tx)).trans ex) (fun b o eb => (oth b fun z => by rw [z, nT] at eb; cases eb).trans (F.stays b o eb)) F.new dx
  (xaz.mp v1).1 fun h' f u => k h' f (up.trans u)
theorem zfV {l : List Env} {cls fl : Value} {dct : Option Addr} (F : Fly B l x cls dct fl s.heap)
  (k : ∀ h', Fly B l x cls dct .none h' -> s.heap.UpToSlots h' -> Q () { s with heap := h' }) : wpAny M A (setFlight (.ref x) none) Q E s := by
 obtain ⟨ox, vs, T, oT, ts, ex, hc, hd, dx, v1, nT, Tx, eT, dT, t3⟩ := F.obj
 have sz : 3 < ts.size := (xaz.mp t3).1
 unfold setFlight
 refine wpAny_bind (wpAny_field ex dx v1 ?_)
 rw [if_pos (show (Value.ref T != Value.none) = true by simp)]
 have oth : ∀ b, b ≠ T -> (s.heap.update T (Obj.mapFields (·.setIfInBounds 3 ((none : Option Addr).elim Value.none fun f => rawInt f)))).get? b = s.heap.get? b := fun b hb => xbg _ _ (xa3 hb)
 refine wpAny_setField eT dT sz (k _ ⟨fun b o eb => (oth b fun z => by rw [z, nT] at eb; cases eb).trans (F.stays b o eb), F.new, F.frames.of_keeps fun b o eb nf => ⟨o, (oth b (zcB eT dT eb nf)).trans eb, rfl⟩,
  ox, vs, T, _, _, (oth x (xa3 Tx)).trans ex, hc, hd, dx, v1, nT, Tx, xcc _ eT (Obj.isFreed_of_fields (Obj.data_mapFields dT _)), Obj.data_mapFields dT _, by simp [sz]⟩
  fun b o eb nf => ⟨o.slots, (oth b (zcB eT dT eb nf)).trans eb⟩)
theorem Fly.out {cls : Value} {dct : Option Addr} {fl : Value} {h : Heap} (F : Fly B (env :: outer) x cls dct fl h) : Fly B outer x cls dct fl h := ⟨F.stays, F.new, F.frames.2.2, F.obj⟩
end
end L2
namespace L2
open PySem.Spec PyProof.Rows
theorem zdc.there {P : Program} {w : World} {H : Hp} {h : Heap} {a : Addr} {o : HO} (x : zdc P w H h a o) : ∃ ob, h.get? a = some ob := by
 cases o with
 | lst xs => obtain ⟨_, _, _, _, e⟩ := x; exact ⟨_, e⟩
 | tup xs => obtain ⟨_, _, _, ob, e, _⟩ := x; exact ⟨ob, e⟩
 | dK kvs => obtain ⟨_, _, _, _, o, _, _, e, _⟩ := x; exact ⟨o, e⟩
 | dT kvs => obtain ⟨_, _, _, _, o, _, _, e, _⟩ := x; exact ⟨o, e⟩
 | set S n => obtain ⟨o, _, _, _, e, _⟩ := x; exact ⟨o, e⟩
 | ins C dx fs => obtain ⟨_, _, _, e, _⟩ := x; exact ⟨_, e⟩
 | own y => exact x
 | xd fs => obtain ⟨_, ⟨o, _, _, e, _⟩, _⟩ := x; exact ⟨o, e⟩
 | rng lo hi => obtain ⟨_, _, _, e⟩ := x; exact ⟨_, e⟩
 | frz ob u => obtain ⟨e, _⟩ := x; exact ⟨_, e⟩
 | tbl ps => exact ⟨_, (show h.get? a = some _ from x)⟩
 | met f y => exact ⟨_, (show h.get? a = some _ from x)⟩
 | ext φ => exact x.2.1
structure InB (B : Heap) (fs : List Addr) (h0 : Heap) (H' : Hp) (h' : Heap) : Prop where
 old : ∀ b o, h0.get? b = some o -> b ∉ fs -> ∀ o', h'.get? b = some o' -> B.get? b = some o'
 trk : ∀ b u, H' b = some u -> ∀ o', h'.get? b = some o' -> B.get? b = some o'
def CXe (P : Program) (w : World) : CXT := fun outer H s E e s' => ∃ (x C : Addr) (dct : Option Addr) (H' : Hp) (B : Heap), e = .ref x /\ s'.os = s.os /\ AllBare s'.gens /\ Un (frs outer) [] H H' s.heap s'.heap /\ HOk P w H' s'.heap /\
 Fly B outer x (.ref C) dct .none s'.heap /\ InB B (frs outer) s.heap H' s'.heap /\ H' x = none /\ E (.ref C) dct H'
section
variable {X : Cx} {pins : List (Addr × Obj)} {Z : St} {H H' : Hp} {s s' : Shared} {x C : Addr} {B : Heap} {E : XK} {dct : Option Addr} {M : Model} {EE : Value -> Shared -> Prop}
theorem zkL {env : Env} {outer : List Env} {L : Addr} (hf : env.frame = some L) : frs (env :: outer) = L :: frs outer := by
 unfold frs; rw [xch, hf]
theorem zml {h' : Heap} {args : List Value} {tk : Nat} (I : Inv X pins Z H s) (hst : X.stack = X.env :: X.outer) (hf : X.env.frame = some X.env.locals) (hex : X.ex = []) (m : Heap.MadeExcOf s.heap h' x (.ref C) args) (hE : E (.ref C) none H) :
  wpAny M X.A (leaving X.env (.ref x)) (fun _ s2 => CXe X.prog X.w X.outer X.H₀ X.s₀ E (.ref x) s2) EE { s with heap := h', toks := tk } := by
 have stk := I.stack
 have hfr : X.A.frames = some (X.env :: X.outer) := by rw [<- hst]; exact I.ok.frames
 rw [hst] at stk
 have fc : frs (X.env :: X.outer) = X.env.locals :: X.fs := zkL hf
 have hin : ∀ env ∈ (X.env :: X.outer), ∀ b, env.frame = some b -> b ∈ frs (X.env :: X.outer) := fun env he b hb => xbp.mpr ⟨env, he, hb⟩
 generalize eB : PySem.W.hideAll s.heap (frs (X.env :: X.outer)) = B
 have inB : ∀ b o, s.heap.get? b = some o -> b ∉ frs (X.env :: X.outer) -> B.get? b = some o := fun b o e n => by rw [<- eB]; exact PySem.W.hideAll_get _ e n
 have ofB : ∀ b o, B.get? b = some o -> s.heap.get? b = some o := fun b o e => by rw [<- eB] at e; exact PySem.W.of_hideAll _ e
 have fl0 : s.heap.FunFrames B (X.env :: X.outer) := by rw [<- eB]; exact PySem.W.funFrames_hide stk hin
 have nx : B.get? x = none := by
  cases q : B.get? x with
  | none => rfl
  | some o => have := ofB x o q; rw [m.new] at this; cases this
 obtain ⟨t, et, _, _⟩ := m.there
 have tfree : ∀ b u, H b = some u -> b ∉ frs (X.env :: X.outer) := fun b u e hb => by
  have := I.stkFree b (by rw [hst]; exact hb)
  rw [e] at this; cases this
 have hHx : H x = none := by
  cases q : H x with
  | none => rfl
  | some u =>
   obtain ⟨ob, e⟩ := (I.hok x u q).there
   rw [m.new] at e; cases e
 unfold leaving
 refine wpAny_bind (znn (s := { s with heap := h', toks := tk }) hfr (fl0.of_keeps fun b o e _ => ⟨o, m.keeps b o e, rfl⟩) hf et (fun b o e => m.keeps b o (ofB b o e)) nx rfl rfl fun h1 F1 u1 => zfV F1 fun h2 F2 u2 => ?_)
 have up : s.heap.UpToSlots h2 := (Heap.UpToSlots.of_keeps m.keeps).trans (u1.trans u2)
 have keep2 : ∀ b o, s.heap.get? b = some o -> b ∉ frs (X.env :: X.outer) -> h2.get? b = some o := fun b o e n => F2.stays b o (inB b o e n)
 have below : ∀ b o, X.s₀.heap.get? b = some o -> b ∉ X.fs -> b ∉ frs (X.env :: X.outer) := fun b o e nb hb => by
  rw [fc] at hb
  rcases xaf.mp hb with z | z
  ·exact absurd (xak (xai e) I.ok.above) (by rw [z]; exact xbh _)
  ·exact nb z
 have noex : ∀ b, b ∉ X.ex := fun b z => by rw [hex] at z; cases z
 have slot2 : ∀ b o, s.heap.get? b = some o -> b ∈ X.fs -> ∃ sl, h2.get? b = some { o with slots := sl } := fun b o e hb => by
  obtain ⟨_, o1, e1, nf⟩ := stk.mem (b := b) (by show b ∈ frs (X.env :: X.outer); rw [fc]; exact xab _ hb)
  rw [e] at e1; cases e1
  exact up b o e nf
 refine ⟨x, C, none, H, B, rfl, I.os, I.bare, ⟨fun b o e n hb _ => keep2 b o (I.base.keep b o e n hb (noex b)) (below b o e hb), fun b o e n hb _ => ?_, fun b o e n _ => I.base.free b o e n (noex b), fun b o e _ => ?_, I.base.tups, I.base.frzs, I.base.tbls⟩,
  fun b u e => (I.hok b u e).stay (fun c v hc q => keep2 c v q ?_) (fun _ q => q) fun _ _ q => q, F2.out, ⟨fun b o e nb o' e' => ?_, fun b u e o' e' => ?_⟩, hHx, hE⟩
 ·obtain ⟨sl, e1⟩ := I.base.slot b o e n hb (noex b)
  obtain ⟨sl2, e2⟩ := slot2 b _ e1 hb
  exact ⟨sl2, e2⟩
 ·obtain ⟨o1, e1⟩ := I.base.there b o e (noex b)
  by_cases hb : b ∈ X.fs
  ·obtain ⟨sl2, e2⟩ := slot2 b _ e1 hb
   exact ⟨_, e2⟩
  ·exact ⟨o1, keep2 b o1 e1 (below b o e hb)⟩
 ·rcases hc with z | z
  ·rw [z]; exact tfree b u e
  ·exact tfree c _ z
 ·obtain ⟨o1, e1⟩ := I.base.there b o e (noex b)
  have q := inB b o1 e1 (below b o e nb)
  rw [F2.stays b o1 q] at e'
  cases e'; exact q
 ·obtain ⟨o1, e1⟩ := (I.hok b u e).there
  have q := inB b o1 e1 (tfree b u e)
  rw [F2.stays b o1 q] at e'
  cases e'; exact q
theorem zpz {e : Value} (I : Inv X pins Z H s) (hst : X.stack = X.env :: X.outer) (hf : X.env.frame = some X.env.locals) (hex : X.ex = []) (h : CXe X.prog X.w X.stack H s E e s') :
  wpAny M X.A (leaving X.env e) (fun _ s2 => CXe X.prog X.w X.outer X.H₀ X.s₀ E e s2) EE s' := by
 obtain ⟨x, C, dct, H', B, rfl, ho, hg, un, hok, F, ib, nx, hE⟩ := h
 have stk := I.stack
 have hfr : X.A.frames = some (X.env :: X.outer) := by rw [<- hst]; exact I.ok.frames
 rw [hst] at stk F ib un
 have fc : frs (X.env :: X.outer) = X.env.locals :: X.fs := zkL hf
 unfold leaving
 refine wpAny_bind (zkK hfr hf F fun h1 F1 u1 => zfV F1 fun h2 F2 u2 => ?_)
 have up : s'.heap.UpToSlots h2 := u1.trans u2
 have below : ∀ b o, X.s₀.heap.get? b = some o -> b ∉ X.fs -> b ∉ frs (X.env :: X.outer) := fun b o e nb hb => by
  rw [fc] at hb
  rcases xaf.mp hb with z | z
  ·exact absurd (xak (xai e) I.ok.above) (by rw [z]; exact xbh _)
  ·exact nb z
 have inFs : ∀ b, b ∈ X.fs -> b ∈ frs (X.env :: X.outer) := fun b hb => by rw [fc]; exact xab _ hb
 have noex : ∀ b, b ∉ X.ex := fun b z => by rw [hex] at z; cases z
 have no0 : ∀ b : Addr, b ∉ ([] : List Addr) := fun b => by simp
 have slot2 : ∀ b o, s.heap.get? b = some o -> H b = none -> b ∈ X.fs -> ∃ sl, h2.get? b = some { o with slots := sl } := fun b o e n hb => by
  obtain ⟨_, o1, e1, nf⟩ := stk.mem (b := b) (inFs b hb)
  rw [e] at e1; cases e1
  obtain ⟨sl, e2⟩ := un.slot b o e n (inFs b hb) (no0 b)
  obtain ⟨sl2, e3⟩ := up b _ e2 nf
  exact ⟨sl2, e3⟩
 have free1 : ∀ b o, X.s₀.heap.get? b = some o -> X.H₀ b = none -> H b = none := fun b o e n => I.base.free b o e n (noex b)
 refine ⟨x, C, dct, H', B, rfl, ho.trans I.os, hg, ⟨fun b o e n hb _ => ?_, fun b o e n hb _ => ?_, fun b o e n _ => ?_, fun b o e _ => ?_, fun b xs q => un.tups b xs (I.base.tups b xs q), fun b o u q => un.frzs b o u (I.base.frzs b o u q), fun b ps q => ?_⟩,
  fun b u e => (hok b u e).stay (fun c v hc q => F2.stays c v ?_) (fun _ q => q) fun _ _ q => q, F2.out, ⟨fun b o e nb o' e' => ?_, fun b u e o' e' => ?_⟩, nx, hE⟩
 ·have e1 := I.base.keep b o e n hb (noex b)
  have e2 := un.keep b o e1 (free1 b o e n) (below b o e hb) (no0 b)
  exact F2.stays b o (ib.old b o e1 (below b o e hb) o e2)
 ·obtain ⟨sl, e1⟩ := I.base.slot b o e n hb (noex b)
  obtain ⟨sl2, e2⟩ := slot2 b _ e1 (free1 b o e n) hb
  exact ⟨sl2, e2⟩
 ·obtain ⟨o1, e1⟩ := I.base.there b o e (noex b)
  exact un.free b o1 e1 (free1 b o e n) (no0 b)
 ·obtain ⟨o1, e1⟩ := I.base.there b o e (noex b)
  obtain ⟨o2, e2⟩ := un.there b o1 e1 (no0 b)
  by_cases hb : b ∈ X.fs
  ·have n : H b = none := I.stkFree b (by rw [hst]; exact inFs b hb)
   obtain ⟨sl2, e3⟩ := slot2 b _ e1 n hb
   exact ⟨_, e3⟩
  ·exact ⟨o2, F2.stays b o2 (ib.old b o1 e1 (below b o e hb) o2 e2)⟩
 ·obtain ⟨m1, e1⟩ := I.base.tbls b ps q
  obtain ⟨m2, e2⟩ := un.tbls b _ e1
  exact ⟨m1 ++ m2, by rw [e2, Array.append_assoc]⟩
 ·rcases hc with z | z
  ·subst z; exact ib.trk c u e v q
  ·exact ib.trk c _ z v q
 ·obtain ⟨o1, e1⟩ := I.base.there b o e (noex b)
  obtain ⟨o2, e2⟩ := un.there b o1 e1 (no0 b)
  have q := ib.old b o1 e1 (below b o e nb) o2 e2
  rw [F2.stays b o2 q] at e'
  cases e'; exact q
 ·obtain ⟨o1, e1⟩ := (hok b u e).there
  have q := ib.trk b u e o1 e1
  rw [F2.stays b o1 q] at e'
  cases e'; exact q
def zno (x C : Addr) (dct : Option Addr) : HO := .ext fun h => ∃ o, h.get? x = some o /\ o.cls = .ref C /\ o.dict = dct /\ PySem.W.notCls o = true
theorem zhh {h3 : Heap} {tk : Nat} (I : Inv X pins Z H s) (ho : s'.os = s.os) (hg : AllBare s'.gens) (un : Un (frs X.stack) [] H H' s.heap s'.heap) (hok : HOk X.prog X.w H' s'.heap) (F : Fly B X.stack x (.ref C) dct .none h3)
  (ib : InB B (frs X.stack) s.heap H' s'.heap) (up : s'.heap.UpToSlots h3) (nx : H' x = none) : Inv X pins Z (upd H' x (zno x C dct)) { s' with heap := h3, toks := tk } := by
 have stk := I.stack
 have no0 : ∀ b : Addr, b ∉ ([] : List Addr) := fun b => by simp
 have nex : ∀ b o, s.heap.get? b = some o -> b ∉ frs X.stack -> b ≠ x := fun b o e nb z => by
  obtain ⟨o2, e2⟩ := un.there b o e (no0 b)
  have q := ib.old b o e nb o2 e2
  rw [z, F.new] at q; cases q
 have nfx : ∀ b, b ∈ frs X.stack -> b ≠ x := fun b hb z => by
  obtain ⟨_, o1, e1, nf⟩ := F.frames.mem (b := b) hb
  obtain ⟨ox, vs, T, oT, ts, ex, _, _, dx, _⟩ := F.obj
  rw [z, ex] at e1; cases e1
  exact nf vs dx
 have ne : ∀ b o, s.heap.get? b = some o -> b ≠ x := fun b o e => by
  by_cases hb : b ∈ frs X.stack
  ·exact nfx b hb
  ·exact nex b o e hb
 have hok3 : HOk X.prog X.w (upd H' x (zno x C dct)) h3 := fun b u e => by
  by_cases hb : b = x
  ·subst hb
   rw [zav] at e; cases e
   obtain ⟨ox, vs, T, oT, ts, ex, hc, hd, dx, _⟩ := F.obj
   have nc : PySem.W.notCls ox = true := by unfold PySem.W.notCls; rw [dx]
   exact ⟨⟨ox, ex, hc, hd, nc⟩, ⟨ox, ex⟩, fun h1 h2 ⟨o, q, r⟩ k => ⟨o, k o q, r⟩⟩
  ·rw [zap hb] at e
   refine (hok b u e).stay (fun c v hc q => F.stays c v ?_) (fun c q => by rw [zap (zal q nx)]; exact q) fun c xs q => by rw [zap (zal q nx)]; exact q
   rcases hc with z | z
   ·subst z; exact ib.trk c u e v q
   ·exact ib.trk c _ z v q
 have U : Un (frs X.stack) [] H (upd H' x (zno x C dct)) s.heap h3 := by
  refine ⟨fun b o e n hb _ => ?_, fun b o e n hb _ => ?_, fun b o e n _ => ?_, fun b o e _ => ?_, fun b xs q => ?_, fun b o u q => ?_, fun b ps q => ?_⟩
  ·exact F.stays b o (ib.old b o e hb o (un.keep b o e n hb (no0 b)))
  ·obtain ⟨sl, e1⟩ := un.slot b o e n hb (no0 b)
   obtain ⟨_, o1, e2, nf⟩ := stk.mem (b := b) hb
   rw [e] at e2; cases e2
   obtain ⟨sl2, e3⟩ := up b _ e1 nf
   exact ⟨sl2, e3⟩
  ·rw [zap (ne b o e)]; exact un.free b o e n (no0 b)
  ·obtain ⟨o2, e2⟩ := un.there b o e (no0 b)
   by_cases hb : b ∈ frs X.stack
   ·have n : H b = none := I.stkFree b hb
    obtain ⟨sl, e1⟩ := un.slot b o e n hb (no0 b)
    obtain ⟨_, o1, e3, nf⟩ := stk.mem (b := b) hb
    rw [e] at e3; cases e3
    obtain ⟨sl2, e4⟩ := up b _ e1 nf
    exact ⟨_, e4⟩
   ·exact ⟨o2, F.stays b o2 (ib.old b o e hb o2 e2)⟩
  ·have z := un.tups b xs q
   rw [zap (zal z nx)]; exact z
  ·have z := un.frzs b o u q
   rw [zap (zal z nx)]; exact z
  ·obtain ⟨more, z⟩ := un.tbls b ps q
   exact ⟨more, by rw [zap (zal z nx)]; exact z⟩
 have J := I.call (g' := s'.gens) (t' := tk) (d' := s'.drawn) (ch := []) U hok3 hg (fun b z => absurd z (no0 b))
 obtain ⟨hh, g, d, t, os⟩ := s'
 have e : os = s.os := ho
 subst e
 exact J
end
end L2
namespace L2
open PySem.Spec PyProof.Rows PySem.W
section
variable {prog : Program} {w : World} {A : Around} {E : Value -> Shared -> Prop} {s : Shared} {K : Frag} {x D : Addr} {ox : Obj} {od : Option Obj} {name : Str} {tk : Tok}
theorem znp {M : Model} {nameV : Value} {Q : Unit -> Shared -> Prop} (X : K.In s.heap) (I : InstAt s.heap x ox D od) (hb : mroIn K D (.type "BaseException") = some true) (hq : Q () s) :
  wpAny M A (checkBuiltinCall "BaseException.__getattribute__" ⟨[.ref x, nameV], []⟩) Q E s := by
 have hk : builtinKind "BaseException.__getattribute__" = some .slot := by decide +kernel
 have hsp : splitId "BaseException.__getattribute__" = some ("BaseException", "__getattribute__") := by decide +kernel
 have ha := F.args_bexc_ga (.ref x) nameV
 obtain ⟨hh, g, d, t, os⟩ := s
 have L0 : Looks M hh (isInstance (.ref x) (.type "BaseException")) true := (I.type (M := M)).andThen (looks_mroIn X hb)
 simp only [checkBuiltinCall, hk, hsp]
 refine wpAny_bind (L0.at ?_)
 repeat (any_goals (first | assumption | wp_step))
theorem ztO {R : Result -> Shared -> Prop} {g a : Value} (X : K.In s.heap) (I : InstAt s.heap x ox D od) (hb : mroIn K D (.type "BaseException") = some true) (hf : findObj K D od name = some (.bind g a))
  (h : wpAny (model prog w) A.in1 (call g [a, .ref x, .ref D]) (fun v s' => R (.ok (.ret v)) s') (fun e s' => R (.error e) s') s) :
  codeAny (model prog w) A (.call (.builtin "BaseException.__getattribute__") ⟨[.ref x, .str name tk], []⟩) R s := by
 refine codeAny_call_builtin F.attr_ValueError.ga.plain F.entry_bexc_ga (znp X I hb ?_)
 obtain ⟨hh, gg, d, t, os⟩ := s
 have L0 := I.type (M := model prog w)
 have L1 := looks_find (M := model prog w) X I hf
 unfold Builtin.«object.__getattribute__»
 refine wpAny_bind (wpAny_of_eq (a := (Value.ref x, [Value.str name tk])) rfl ?_)
 refine wpAny_bind (wpAny_of_eq (a := name) rfl ?_)
 refine wpAny_bind (L0.at (wpAny_bind (L1.at ?_)))
 show wpAny _ _ (do ret (<- holding [a] (call g [a, Value.ref x, Value.ref D]))) _ _ _
 exact wpAny_bind (wpAny_holding (wpAny_mono h (fun v s' q => wpAny_pure q) fun e s' q => q))
theorem ziK {a g : Value} (hc : (clsIn K D).isSome = true) (ha : findIn K (.ref D) name = some (some a)) (hg : specialIn K a "__get__" = some (some g)) (ht : takesIn K a = some true) : findObj K D od name = some (.bind g a) := by
 obtain ⟨cd, hc⟩ := xbc.mp hc
 unfold findObj
 rw [hc, Option.bind_some, ha, Option.bind_some]
 simp [hg, ht]
structure zr6 (K : Frag) (D : Addr) : Prop where
 cls : (clsIn K D).isSome = true
 ga : findIn K (.ref D) "__getattribute__" = some (some (.builtin "BaseException.__getattribute__"))
 gh : findIn K (.ref D) "__getattr__" = some none
 base : mroIn K D (.type "BaseException") = some true
 obj : mroIn K D (.type "object") = some true
 ca : findIn K (.ref D) "__class__" = some (some (.builtin "object.__class__"))
 cg : specialIn K (.builtin "object.__class__") "__get__" = some (some (.builtin "getset_descriptor.__get__"))
 ct : takesIn K (.builtin "object.__class__") = some true
theorem znq {Q : Option Value -> Shared -> Prop} (c : zr6 K D) (X : K.In s.heap) (I : InstAt s.heap x ox D od) (h : Q (some (.ref D)) { s with toks := s.toks + 1 }) :
  wpAny (model prog w) A (getAttr? (.ref x) "__class__") Q E s := by
 obtain ⟨hh, gg, d, t, os⟩ := s
 have L0 := I.type (M := model prog w)
 have L1 := looks_findIn (M := model prog w) X c.ga
 have L2 := looks_findIn (M := model prog w) X c.gh
 have hf : findObj K D od "__class__" = some (.bind (.builtin "getset_descriptor.__get__") (.builtin "object.__class__")) := ziK c.cls c.ca c.cg c.ct
 have hx1 : (onTheHeap (Value.ref D) && Value.builtin "BaseException.__getattribute__" == Value.builtin "object.__getattribute__") = false := by
  rw [show (Value.builtin "BaseException.__getattribute__" == Value.builtin "object.__getattribute__") = false by decide +kernel]; rfl
 unfold getAttr? getAttrBy? getAttrBy
 refine wpAny_bind (wpAny_mkText (wpAny_bind (wpAny_attempt (wpAny_holding (wpAny_bind (L0.at (wpAny_bind (L1.at ?_))))))))
 dsimp only
 rw [hx1, if_neg xa1]
 unfold getAttrByItsOwn
 refine wpAny_bind ?_
 show wpAny _ _ (typeLookup (.ref D) "__getattr__") _ _ _
 refine L2.at ?_
 refine wpAny_bind (wpAny_attempt (wpAny_holding ?_))
 show wpAny _ _ (boundAndCalled (.builtin "BaseException.__getattribute__") (.ref x) (.str "__class__" t)) _ _ _
 unfold boundAndCalled
 refine wpAny_bind (wpAny_of_eq (F.attr_ValueError.ga.bind (.ref x)) ?_)
 refine wpAny_call (ztO X I c.base hf ?_)
 refine wpAny_call (class_get X I c.obj ?_)
 exact handed_on rfl (wpAny_pure h)
theorem zkM (c : zr6 K D) : KitX K (.ref x) (.ref D) (fun h => ∃ ox od, InstAt h x ox D od) where
 ty := fun _ _ _ ⟨_, _, I⟩ => I.type
 it := fun _ _ X _ => by
  obtain ⟨cdD, hcD⟩ := xbc.mp c.cls
  unfold clsIn at hcD
  split at hcD
  ·rename_i c' d' cd' sl' ho
   intro A' Q' E' s' k q
   unfold isType loadHead
   exact wpAny_bind (wpAny_loadPart (k _ _ (X _ _ ho)) (wpAny_pure q))
  ·cases hcD
 ne := fun h tp dd its n sl X htp => by
  obtain ⟨cdD, hcD⟩ := xbc.mp c.cls
  refine Bool.eq_false_iff.mpr fun q => ?_
  have e : D = tp := Value.ref.inj (beq_iff_eq.mp q)
  subst e
  unfold clsIn at hcD
  split at hcD
  ·rename_i c' d' cd' sl' ho
   have z := (X _ _ ho).symm.trans htp
   cases z
  ·cases hcD
 ca := fun X ⟨_, _, I⟩ k => znq c X I k
end
end L2
namespace L2
open PySem.Spec PyProof.Rows
section
variable {P : Program} {w : World} {K : xFg} {mg : Str -> Option Value} {base : Heap}
theorem Fun.okX {CX : CXT} {x qual : Str} {st : Stmt} {f : Addr} {fd : FuncData} {N ps : List Str} {k : Nat} {sp : Sp} (F : Fun K x qual st f fd) (S : zas N ps (zae st)) (len : ∀ vs H Q E, sp vs H Q E -> vs.length = ps.length)
  (hbody : ∀ (cdv : Value) (A : Around) (outer : List Env) (s : Shared) (H : Hp) (vs : List V) (Q : VK) (E : XK), zfP k (A.deeper (envOfC qual (zae st) s.heap.objs.size f cdv)) -> sp vs H Q E ->
   ∃ t, PSs (zit CX P w K mg base N qual (zae st) f cdv A outer s H E) (zaq st) t /\ t { nx := fun _ H' => Q .non H', rt := Q } (start N vs) H) : zhe P w K mg base CX (k + 1) f fd ps sp := by
 obtain ⟨oc, od, kV, doc, pm, an, cdv, ct, osl, rfl, lk, hcd⟩ := F.ex
 exact zvC lk hcd S len fun A outer s H vs Q E hr hsp => hbody cdv A outer s H vs Q E hr hsp
theorem ztP {N : List Str} {qual : Str} {scope : Scope} {f : Addr} {cdv : Value} {A : Around} {outer : List Env} {s : Shared} {H : Hp} {E : XK} : zix (CXe P w) (zit (CXe P w) P w K mg base N qual scope f cdv A outer s H E) E :=
 fun pins Z H1 s1 e s' I h => zpz (X := zit (CXe P w) P w K mg base N qual scope f cdv A outer s H E) I rfl rfl rfl h
theorem zvP {X : Cx} : zix (CXe P w) X E0 := fun _ _ _ _ _ _ _ h => by
 obtain ⟨_, _, _, _, _, _, _, _, _, _, _, _, _, z⟩ := h
 exact z.elim
end
theorem zr7 {K : xFg} {h : Heap} {C : Addr} {bmB : List Value} {newId : String} (X : K.In h) (q : PySem.W.excIn K C bmB newId = true) :
  ∃ bm N nm qn bs hdct sn sub ab col dd k0 k1 k2 k3 k5 mN, h.get? C = some (excClassObj nm qn C N bs bm hdct sn sub ab col dd k0 k1 k2 k3 k5 newId) /\ h.Ns N mN /\ mN "__init__" = none /\ OwnTail h bmB bm := by
 unfold PySem.W.excIn at q
 split at q
 ·rename_i dd cd sl lk
  split at q
  ·rename_i C' bm k0 k1 k2 k3 nn k5 hm hs
   simp only [xav, beq_iff_eq, Bool.not_eq_true'] at q
   obtain ⟨⟨⟨⟨⟨rfl, rfl⟩, hdel⟩, ht⟩, hok⟩, hni⟩ := q
   obtain ⟨nm, bs, mro, ns, qn, hd, sn, sub, ab, col, del⟩ := cd
   dsimp only at hm hdel hok hni
   subst hm hdel
   obtain rfl : sl = #[k0, k1, k2, k3, some (.builtin nn), k5] := by
    obtain ⟨l⟩ := sl
    simp only at hs
    rw [hs]
   exact ⟨bm, ns, nm, qn, bs, hd, sn, sub, ab, col, dd, k0, k1, k2, k3, k5, _, X _ _ lk, .of_isNs (PySem.W.isNs_of_in X hok), PySem.W.nsMap_none_of_in X hok hni, PySem.W.tail_of_in X ht⟩
  ·cases q
 ·cases q
def ztQ (C : Addr) (ta : TA) (E : XK) : TS := fun _ Z H => ta Z H fun vs H1 => vs.length <= sizeLine /\ E (.ref C) none H1
section
variable {P : Program} {w : World} {K : xFg} {mg : Str -> Option Value} {base : Heap} {N : List Str} {qual : Str} {scope : Scope} {f : Addr} {cdv : Value} {A : Around} {outer : List Env} {s0 : Shared} {H0 : Hp} {E : XK}
theorem zpA {x : Str} {C : Addr} {e0 : Expr} {zch : List Expr} {np cpos pos : Pos} {ta : TA} (q : PySem.W.excIn K C [.type "ValueError", .type "Exception", .type "BaseException", .type "object"] "ValueError.__new__" = true)
  (hg : Gl (zit (CXe P w) P w K mg base N qual scope f cdv A outer s0 H0 E) x) (hm : mg x = some (.ref C)) (ha : PA (zit (CXe P w) P w K mg base N qual scope f cdv A outer s0 H0 E) (e0 :: zch) ta)
  (hdb : (x == ("__debug__" : Str)) = false := by decide)
  (he : starEach (e0 :: zch) (envOfC qual scope s0.heap.objs.size f cdv) = (false, eval e0 (envOfC qual scope s0.heap.objs.size f cdv)) :: starEach zch (envOfC qual scope s0.heap.objs.size f cdv) := by rfl)
  (hpl : (backTo cpos (starEach zch (envOfC qual scope s0.heap.objs.size f cdv))).any (·.1) = false := by rfl) :
  PS (zit (CXe P w) P w K mg base N qual scope f cdv A outer s0 H0 E) (.Raise (some (.Call (.Name x np) (e0 :: zch) [] cpos)) none pos) (ztQ C ta E) := by
 intro pins s Z H D I h
 obtain ⟨bm, Nn, nm, qn, bs, hdct, sn, sub, ab, col, dd, k0, k1, k2, k3, k5, mN, hC, hN, hni, T⟩ := zr7 I.mod.kin q
 refine wpAny_Raise_call_subT (C := C) (nm := nm) (q := qn) (N := Nn) (bs := bs) (bm := bm) (hdct := hdct) (sn := sn) (sub := sub) (ab := ab) (col := col) (dd := dd) (k0 := k0) (k1 := k1) (k2 := k2) (k3 := k3) (k5 := k5)
  PySem.F.excBase_ValueError (mN := mN) (T.hasType PySem.F.excBase_ValueError.hasBase) (I.ok.hd rfl) (by
   show (backTo cpos (starEach (e0 :: zch) (envOfC qual scope s0.heap.objs.size f cdv))).any (·.1) = false
   rw [he]; show (false || (backTo cpos (starEach zch (envOfC qual scope s0.heap.objs.size f cdv))).any (·.1)) = false; rw [hpl]; rfl) hni (zf2 I hg hm ⟨rfl, ?_⟩ hdb)
 have ha' := ha cpos pins s Z H _ I h
 show wpAny _ _ (evalArgs (.ref C) true (backTo cpos (starEach (e0 :: zch) (envOfC qual scope s0.heap.objs.size f cdv))) []) _ _ _
 change wpAny _ _ (spliced (backTo cpos (starEach (e0 :: zch) (envOfC qual scope s0.heap.objs.size f cdv)))) _ _ _ at ha'
 rw [he] at ha' ⊢
 refine Calls.evalArgs_plain (thn ha' fun us s2 ⟨vs, H1, I1, r, hz, hE⟩ => ?_)
 have hl : us.length <= sizeLine := by rw [<- r.length]; exact hz
 exact ⟨rfl, hl, I1.bk _ _ hC, hN.keeps I1.bk, T.keeps I1.bk, fun h' e m => zml (tk := s2.toks) I1 rfl rfl rfl m hE⟩
end
end L2
namespace L2
open PySem.Spec PyProof.Rows
abbrev TEX := St -> Hp -> VK -> XK -> Prop
abbrev TSX := zmV -> XK -> St -> Hp -> Prop
def XP (X : Cx) (CX : CXT) (pins : List (Addr × Obj)) (Z : St) (E : XK) (e : Value) (s' : Shared) : Prop := ∃ s1 H1, Inv X pins Z H1 s1 /\ CX X.stack H1 s1 E e s'
def PEX (X : Cx) (CX : CXT) (e : Expr) (t : TEX) : Prop :=
 ∀ (pins : List (Addr × Obj)) (s : Shared) (Z : St) (H : Hp) (Q : VK) (E : XK), Inv X pins Z H s -> t Z H Q E -> wpAny (model X.prog X.w) X.A (eval e X.env) (EP X pins Z Q) (XP X CX pins Z E) s
def PSX (X : Cx) (CX : CXT) (st : Stmt) (t : TSX) : Prop :=
 ∀ (pins : List (Addr × Obj)) (s : Shared) (Z : St) (H : Hp) (D : zmV) (E : XK), Inv X pins Z H s -> t D E Z H -> wpAny (model X.prog X.w) X.A (exec st X.env) (SP X pins D) (XP X CX pins Z E) s
def zvQ (X : Cx) (CX : CXT) (st : List Stmt) (t : TSX) : Prop :=
 ∀ (pins : List (Addr × Obj)) (s : Shared) (Z : St) (H : Hp) (D : zmV) (E : XK), Inv X pins Z H s -> t D E Z H -> wpAny (model X.prog X.w) X.A (execs st X.env) (SP X pins D) (XP X CX pins Z E) s
section
variable {X : Cx} {CX : CXT} {k : Nat} {f : Addr} {fd : FuncData} {ps : List Str} {sp : Sp} {dvs : List V} {ds : List Value} {x : Str} {p pos : Pos} {e : Expr} {es : List Expr} {t : TA}
def ztR (sp : Sp) (dvs : List V) (t : TA) : TEX := fun Z H Q E => t Z H fun vs H1 => sp (vs ++ dvs) H1 Q E
theorem zpB (F : zhe X.prog X.w X.K X.mg X.base CX k f fd ps sp) (hr : zfP k X.A) (hg : Gl X x) (hm : X.mg x = some (.ref f)) (hk : PySem.W.keepIn X.K (.ref f) = true) (hb : za6 X.K fd ps ds) (hd : zbf dvs ds)
  (ha : PA X.nox (e :: es) t) (hdb : (x == ("__debug__" : Str)) = false := by decide) (he : starEach (e :: es) X.env = (false, eval e X.env) :: starEach es X.env := by rfl) (hpl : (backTo pos (starEach es X.env)).any (·.1) = false := by rfl) :
  PEX X CX (.Call (.Name x p) (e :: es) [] pos) (ztR sp dvs t) := by
 intro pins s Z H Q E I h
 refine wpAny_Call_Name_kw (zf2 I hg hm ?_ hdb)
 refine PySem.W.callWith_K (h₀ := X.base) I.ok.mod.kin hk (wpAny_mono (ha pos pins s Z H _ (I.wish _) h) (fun us s1 ⟨vs, H1, I1', r, q⟩ => ?_) fun _ _ z => False.elim z) he hpl
 have I1 : Inv X pins Z H1 s1 := I1'.unwish
 refine ⟨I1.kIn, ?_⟩
 have r2 : zbf (vs ++ dvs) (us ++ ds) := r.append hd
 have hl : (us ++ ds).length = ps.length := by rw [<- r2.length]; exact F.len _ _ _ _ q
 refine wpAny_call (codeAny_mono (F.run X.A X.stack s1 H1 ⟨us, []⟩ (us ++ ds) (vs ++ dvs) Q E hr I1.env0 (hb s1 us I1.kIn hl) r2 q) fun r s' hq => ?_)
 cases r with
 | error e => exact ⟨s1, H1, I1, hq⟩
 | ok fl =>
  cases fl with
  | ret u => exact I1.after hq
  | next => exact False.elim hq
  | brk => exact False.elim hq
  | cont => exact False.elim hq
def zvR (t : TEX) : TSX := fun D E Z H => t Z H (fun _ H1 => D.nx Z H1) E
theorem zpC {te : TEX} (he : PEX X CX e te) (hs : swapsWith e none pos.line X.env = pure false := by rfl) : PSX X CX (.Expr e pos) (zvR te) := by
 intro pins s Z H D E I h
 exact wpAny_Expr_any (thn (he pins s Z H _ E I h) fun v s1 ⟨y, H1, I1, r1, q1⟩ => ⟨Z, H1, I1, q1⟩) I.quiet hs
theorem zpD {st : Stmt} {ts : TSX} (h1 : PSX X CX st ts) : zvQ X CX [st] ts := by
 intro pins s Z H D E I h
 refine wpAny_execs_cons (thn (h1 pins s Z H D E I h) fun fl s1 q => ?_)
 cases fl with
 | next => exact wpAny_execs_nil q
 | ret v => exact q
 | brk => exact q
 | cont => exact q
end
theorem Inv.gone {X : Cx} {pins : List (Addr × Obj)} {Z : St} {H : Hp} {s : Shared} {h' : Heap} {m : Str -> Option Value} {n : Str} {v : Option Value} {i : Nat} {tk : Nat} (I : Inv X pins Z H s) (hN : X.N.Nodup) (hi : X.N[i]? = some n)
  (hm : ∀ (j : Nat) (y : Str) (v : V), X.N[j]? = some y -> Z[j]? = some (some v) -> Vis X.env.scope y -> ∃ u, RelV v u /\ Look X.env s.heap m y u) (hn : h'.Ns X.env.locals (fun y => if y = n then v else m y)) (hs : Heap.SameBut X.env.locals s.heap h') :
  Inv X pins (Z.set i none) H { s with heap := h', toks := tk } := by
 have neL : ∀ b o, X.s₀.heap.get? b = some o -> b ≠ X.env.locals := fun b o e => xa0 (xak (xai e) I.ok.above)
 have hiZ : i < Z.length := by rw [I.len]; exact (xah.mp hi).1
 refine ⟨I.ok, I.os, I.bare, ⟨fun b o e nn hb hx => (hs.2 b (neL b o e)).trans (I.base.keep b o e nn hb hx), fun b o e nn hb hx => ?_, I.base.free, fun b o e hx => ?_, I.base.tups, I.base.frzs, I.base.tbls⟩, ⟨_, hn, fun j y v' e1 e2 e3 => ?_⟩, fun y c e => ?_, I.free, I.freeC, fun p hp => ?_, fun b ob e => ?_, by simpa using I.len⟩
 ·obtain ⟨sl, e1⟩ := I.base.slot b o e nn hb hx
  exact ⟨sl, (hs.2 b (neL b o e)).trans e1⟩
 ·obtain ⟨o', e1⟩ := I.base.there b o e hx
  exact ⟨o', (hs.2 b (neL b o e)).trans e1⟩
 ·have hj : j ≠ i := fun z => by rw [z, xa5 hiZ] at e2; cases e2
  rw [xam (xa3 hj)] at e2
  obtain ⟨u, r, l⟩ := hm j y v' e1 e2 e3
  refine ⟨u, r, ?_⟩
  rcases l with ⟨k, e⟩ | ⟨k, c, e, z⟩
  ·have ny : y ≠ n := fun z => hj (zhE hN e1 (z ▸ hi))
   exact .inl ⟨k, by simp [ny, e]⟩
  ·exact .inr ⟨k, c, e, z.sameBut hs (I.cne y c e)⟩
 ·obtain ⟨w', z⟩ := I.cell y c e
  exact ⟨w', z.sameBut hs (I.cne y c e)⟩
 ·obtain ⟨e, nn, ne, nf, d⟩ := I.pin p hp
  exact ⟨(hs.2 p.1 ne).trans e, nn, ne, nf, d⟩
 ·refine (I.hok b ob e).stay (fun c w' hc q => (hs.2 c ?_).trans q) (fun _ q => q) fun _ _ q => q
  rintro rfl
  rcases hc with z | z
  ·rw [<- z, I.free] at e; cases e
  ·rw [I.free] at z; cases z
def hdl (X : Cx) (x : Addr) : Cx := { X with A := X.A.mark (some (.ref x)), calm := false, xe := fun _ _ => False }
section
variable {X : Cx} {pins : List (Addr × Obj)} {Z : St} {H : Hp} {s : Shared} {x : Addr}
theorem Inv.hdl (I : Inv X pins Z H s) (x : Addr) : Inv (hdl X x) pins Z H s :=
 ⟨⟨I.ok.mod, I.ok.kind, I.ok.glob, I.ok.blt, I.ok.above, I.ok.inj, I.ok.has, I.ok.cab, fun z => absurd z (by show ¬ (false = true); decide), I.ok.frames, I.ok.stk, I.ok.exf, I.ok.bs, I.ok.bsz, I.ok.noex, I.ok.exfs, I.ok.funs, I.ok.frf⟩, I.os, I.bare, I.base, I.loc, I.cell, I.free, I.freeC, I.pin, I.hok, I.len⟩
theorem Inv.unhdl (I : Inv (L2.hdl X x) pins Z H s) (ok : X.Ok) : Inv X pins Z H s := ⟨ok, I.os, I.bare, I.base, I.loc, I.cell, I.free, I.freeC, I.pin, I.hok, I.len⟩
end
def tTry (K : xFg) (Dc : Addr) (i : Nat) (tb : TSX) (th : TS) : TS := fun D Z H => ∃ E : XK, tb D E Z H /\ ∀ (C : Addr) (dct : Option Addr) (H' : Hp) (x : Addr), E (.ref C) dct H' -> H' x = none ->
 PySem.W.exmOne K (.ref C) (.ref Dc) = some true /\ th { nx := fun Z' H'' => D.nx (Z'.set i none) H'', rt := fun _ _ => False } (Z.set i (some (.ref x))) (upd H' x (zno x C dct))
theorem ztS {X : Cx} {body : List Stmt} {c n : Str} {np hpos pos : Pos} {b0 : Stmt} {suite : List Stmt} {tb : TSX} {th : TS} {i : Nat} {Dc : Addr} (hst : X.stack = X.env :: X.outer) (hf : X.env.frame = some X.env.locals)
  (hN : X.N.Nodup) (hi : X.N[i]? = some n) (hn : X.env.scope.names.lookup n = some .local) (hg : Gl X c) (hm : X.mg c = some (.ref Dc)) (hb : zvQ X (CXe X.prog X.w) body tb) (hh : ∀ x, PSs (hdl X x) (b0 :: suite) th)
  (hdb : (c == ("__debug__" : Str)) = false := by decide) : PS X (.Try body [.ExceptHandler (some (.Name c np)) (some n) (b0 :: suite) hpos] [] [] pos) (tTry X.K Dc i tb th) := by
 intro pins s Z H D I h
 obtain ⟨Ex, hbody, hhand⟩ := h
 refine wpAny_Try_except (wpAny_mono (hb pins s Z H D Ex I hbody) (fun fl s1 q => ?_) (fun e s1 q => ?_))
 ·cases fl with
  | next => exact wpAny_execs_nil q
  | ret v => exact q
  | brk => exact q
  | cont => exact q
 obtain ⟨s2, H2, I2, x, C, dct, H', B, rfl, ho, hg', un, hok, F, ib, nx, hE⟩ := q
 obtain ⟨hx, hth⟩ := hhand C dct H' x hE nx
 have hfr : X.A.frames = some (X.env :: X.outer) := by rw [<- hst]; exact I.ok.frames
 have F' : Fly B (X.env :: X.outer) x (.ref C) dct .none s1.heap := by rw [<- hst]; exact F
 refine zkK hfr hf F' fun h1 F1 u1 => zfV F1 fun h2 F2 u2 => ?_
 have I3 := zhh (tk := s1.toks) I2 ho hg' un hok (hst ▸ F2) ib (u1.trans u2) nx
 refine wpAny_handleBy_cons (codeAny_handlers_test ?_) (by intro z; cases z)
 refine zf2 (X := hdl X x) (I3.hdl x) hg hm ?_ hdb
 obtain ⟨ox, vs, T, oT, ts, ex, hcl, _⟩ := F2.obj
 have LT : PySem.W.Looks (model X.prog X.w) h2 (typeOf (.ref x)) (.ref C) := hcl ▸ (PySem.W.Looks.ld ex).andThen .now
 refine (PySem.W.exm_one (M := model X.prog X.w) I3.kIn LT hx) _ _ _ _ (fun _ _ e => e) ?_
 refine codeAny_handlers_suite_as ?_
 refine zfV F2 fun h3 F3 u3 => ?_
 have I4 := zhh (tk := s1.toks) I2 ho hg' un hok (hst ▸ F3) ib (u1.trans (u2.trans u3)) nx
 refine zd6 (X := hdl X x) (v := .ref x) (I4.hdl x) hN hi (.inl hn) rfl (fun s5 I5 => ?_) (.inr hn)
 refine wpAny_mono (hh x pins s5 _ _ _ I5 hth) (fun fl s6 q6 => ?_) fun _ _ z => False.elim z
 cases fl with
 | ret v => obtain ⟨_, _, _, _, _, z⟩ := q6; exact False.elim z
 | brk => obtain ⟨_, _, _, z⟩ := q6; exact False.elim z
 | cont => obtain ⟨_, _, _, z⟩ := q6; exact False.elim z
 | next =>
  obtain ⟨Z6, H6, I6, q⟩ := q6
  have I7 : Inv X pins Z6 H6 s6 := I6.unhdl I.ok
  obtain ⟨m, hnm, hl⟩ := I7.loc
  have hp : (X.env.scope.kind == .class || (X.env.scope.kind == .module && X.env.locals != X.env.globals)) = false := by rw [I.ok.kind]; rfl
  exact wpAny_nameGoes_keeps hn hnm hp fun h' v hn' hs' => ⟨_, H6, I7.gone hN hi hl hn' hs', q⟩
theorem znr {X : Cx} : zdd X (.builtin "isinstance") (fun xs H Q => ∃ (a C : Addr) (c : V) (cv : Value) (b : Bool), xs = [.ref a, c] /\ H a = some (zno a C none) /\ ((∃ D, c = .ref D /\ cv = .ref D) \/ ∃ T, c = .ty T /\ cv = .type T) /\ zr6 X.K C /\ PySem.W.kitOne X.K (.ref C) cv = some b /\ Q (.bl b) H) := by
 intro pins s Z H xs us Q I r h
 obtain ⟨a, C, c, cv, b, rfl, ha, hc, ec, hk, q⟩ := h
 obtain ⟨u, w', rfl, ru, rw'⟩ := zpr r
 obtain rfl : u = Value.ref a := ru
 have e : w' = cv := by
  rcases hc with ⟨D, rfl, rfl⟩ | ⟨T, rfl, rfl⟩
  ·exact rw'
  ·exact rw'
 subst e
 obtain ⟨⟨o, e1, e2, e3, e4⟩, _, _⟩ := I.hok a _ ha
 have hI : PySem.W.InstAt s.heap a o C none := ⟨e1, e2, e4, by rw [e3]; trivial⟩
 exact PySem.W.kia_one (zkM ec) I.kIn ⟨o, none, hI⟩ hk (fun z => nomatch z) fun tk => ⟨.bl b, H, I.tok tk, rfl, q⟩
end L2
namespace L2
open PySem.Spec PyProof.Rows
section
variable {X : Cx}
theorem zns (bs : List Bool) : (List.range bs.length).all (fun i => bs.getD i false) = bs.all id := by
 rw [xc5]
 simp only [xay, xa2, id]
 constructor
 ·intro h b hb
  obtain ⟨i, hi, rfl⟩ := List.mem_iff_getElem.mp hb
  have q := h i hi
  simpa [List.getD, hi] using q
 ·intro h i hi
  have q := h _ (xbx hi)
  simpa [List.getD, hi] using q
theorem zpE {bs : List Bool} {its : List Value} (r : zbf (bs.map V.bl) its) {i : Nat} {v : Value} (h : its.toArray[i]? = some v) : v = .bool (bs.getD i false) := by
 have hl := r.length
 rw [xal] at hl
 have hi : i < bs.length := by
  rw [hl]
  have : its[i]? = some v := by simpa using h
  exact (xah.mp this).1
 obtain ⟨u, hu, ru⟩ := r.get (i := i) (x := .bl bs[i]) (by simp [hi])
 have e : its[i]? = some v := by simpa using h
 rw [hu] at e
 cases e
 rw [show v = .bool bs[i] from ru]
 simp [List.getD, hi]
theorem zpF (hc : X.calm = true) : zdd X (.builtin "all") (fun xs H Q => ∃ (p : Addr) (bs : List Bool), xs = [.ref p] /\ SqL X.K H p (bs.map V.bl) /\ Q (.bl (bs.all id)) H) := by
 intro pins s Z H xs us Q I r h
 obtain ⟨p, bs, rfl, hq, q⟩ := h
 obtain ⟨u, rfl, e⟩ := zhF r
 cases e
 obtain ⟨its, rv, pl, hz⟩ := I.list hq
 have hl : its.toArray.size = bs.length := by rw [xag, <- rv.length, xal]
 have hlt : p < s.heap.objs.size := by obtain ⟨o, e, _⟩ := pl.isList; exact xai e
 refine call_all_walk (wpAny_pyIter_list pl.isList ⟨_, _, _, _, _, _, fun i => bs.getD i false, rfl, Walks.list (A := X.A.in1) (I.ok.hd hc) s.heap.objs.size p (xa0 hlt) its.toArray, ⟨⟨_, xau _ rfl, rfl, rfl⟩, pl.isList.push _⟩, fun i v s' Q' E' hv hQ => ?_, fun h' tk k => ?_⟩)
 ·rw [zpE rv hv]; exact wpAny_truthy_bool hQ
 ·refine ⟨.bl (bs.all id), H, I.kept fun b o e => k b o (fun z => xa0 (xai e) (by simpa using z)) (xaa _ e), ?_, q⟩
  rw [hl, zns]; rfl
end
end L2
namespace Mth
def zaE (x y z : Int) : Int := if z ≠ 0 then z else if y ≠ 0 then y else x
def g3 (x y z : Int) : Nat := Nat.gcd (Nat.gcd x.natAbs y.natAbs) z.natAbs
def zdO (x y z : Int) : Int := if zaE x y z < 0 then 0 - ((g3 x y z : Nat) : Int) else ((g3 x y z : Nat) : Int)
abbrev NZ (x y z : Int) : Prop := ¬ (x = 0 /\ y = 0 /\ z = 0)
theorem zcC {x y z : Int} (h : NZ x y z) : zhJ (zdO x y z) x y z (x.fdiv (zdO x y z)) (y.fdiv (zdO x y z)) (z.fdiv (zdO x y z)) := by
 obtain ⟨x', y', z', p⟩ := zmk x y z h
 have key : ∃ x' y' z', zhJ (zdO x y z) x y z x' y' z' := by
  unfold zdO
  by_cases c : zaE x y z < 0
  ·rw [if_pos c]; exact ⟨-x', -y', -z', p.neg⟩
  ·rw [if_neg c]; exact ⟨x', y', z', p⟩
 obtain ⟨x', y', z', p⟩ := key
 rw [zf6 p.ne p.x, zf6 p.ne p.y, zf6 p.ne p.z]
 exact p
theorem zhJ.nz {s x y z x' y' z' : Int} (p : zhJ s x y z x' y' z') (h : NZ x y z) : NZ x' y' z' := fun q => h (by rw [p.x, p.y, p.z, q.1, q.2.1, q.2.2]; simp)
theorem zvS {x y z : Int} (h : NZ x y z) : g3 x y z ≠ 0 := by
 unfold g3
 intro e
 have e1 := Nat.eq_zero_of_gcd_eq_zero_left e
 have e2 := Nat.eq_zero_of_gcd_eq_zero_right e
 have e3 := Nat.eq_zero_of_gcd_eq_zero_left e1
 have e4 := Nat.eq_zero_of_gcd_eq_zero_right e1
 exact h ⟨by omega, by omega, by omega⟩
theorem zkN (x y z : Int) : (zdO x y z).natAbs = g3 x y z := by
 unfold zdO
 split <;> omega
theorem znt (s x y z : Int) : g3 (s * x) (s * y) (s * z) = s.natAbs * g3 x y z := by
 unfold g3
 rw [xcd, xcd, xcd, Nat.gcd_mul_left, Nat.gcd_mul_left]
theorem zmm {s : Int} (hs : s ≠ 0) (x y z : Int) : zaE (s * x) (s * y) (s * z) = s * zaE x y z := by
 unfold zaE
 by_cases hz : z = 0
 ·subst hz
  by_cases hy : y = 0
  ·subst hy; simp
  ·have : s * y ≠ 0 := fun e => by rcases xa6.mp e with q | q <;> contradiction
   simp [hy, this]
 ·have : s * z ≠ 0 := fun e => by rcases xa6.mp e with q | q <;> contradiction
  simp [hz, this]
theorem ziL {x y z : Int} (h : NZ x y z) : zaE x y z ≠ 0 := by
 unfold zaE
 by_cases hz : z = 0
 ·by_cases hy : y = 0
  ·have : x ≠ 0 := fun e => h ⟨e, hy, hz⟩
   simp [hz, hy, this]
  ·simp [hz, hy]
 ·simp [hz]
theorem zpG {x y z x' y' z' : Int} (h : NZ x y z) (p : zhJ (zdO x y z) x y z x' y' z') : zdO x' y' z' = 1 := by
 have hg : g3 x y z = (zdO x y z).natAbs * g3 x' y' z' := by
  have e := znt (zdO x y z) x' y' z'
  rw [<- p.x, <- p.y, <- p.z] at e
  exact e
 rw [zkN] at hg
 have n0 := zvS h
 have g1 : g3 x' y' z' = 1 := by
  have : g3 x y z * 1 = g3 x y z * g3 x' y' z' := by rw [Nat.mul_one]; exact hg
  exact (Nat.eq_of_mul_eq_mul_left (Nat.pos_of_ne_zero n0) this).symm
 have hl : zaE x y z = zdO x y z * zaE x' y' z' := by
  have e := zmm p.ne x' y' z'
  rw [<- p.x, <- p.y, <- p.z] at e
  exact e
 have ln := ziL (p.nz h)
 have lp : 0 < zaE x' y' z' := by
  by_cases c : zaE x y z < 0
  ·have es : zdO x y z < 0 := by unfold zdO; rw [if_pos c]; omega
   rcases (show 0 < zaE x' y' z' \/ zaE x' y' z' <= 0 by omega) with q | q
   ·exact q
   ·have q' : zaE x' y' z' < 0 := by omega
    have := Int.mul_pos_of_neg_of_neg es q'
    rw [<- hl] at this; omega
  ·have es : 0 < zdO x y z := by unfold zdO; rw [if_neg c]; omega
   rcases (show 0 < zaE x' y' z' \/ zaE x' y' z' <= 0 by omega) with q | q
   ·exact q
   ·have q' : zaE x' y' z' < 0 := by omega
    have := Int.mul_neg_of_pos_of_neg es q'
    rw [<- hl] at this; omega
 unfold zdO
 rw [if_neg (by omega), g1]; rfl
theorem zhK (x : Int) : x.fdiv 1 = x := by
 rw [Int.fdiv_eq_ediv_of_nonneg _ (by decide)]; exact Int.ediv_one x
theorem zvT {x y z : Int} {B : Nat} (hx : x.natAbs <= B) (hy : y.natAbs <= B) (hz : z.natAbs <= B) : g3 x y z <= B := zf8 (zf8 hx hy) hz
theorem zr8 {x y z : Int} {B : Nat} (hx : x.natAbs <= B) (hy : y.natAbs <= B) (hz : z.natAbs <= B) : (zdO x y z).natAbs <= B := by rw [zkN]; exact zvT hx hy hz
end Mth
namespace Mth
abbrev P3 := Int × Int × Int
def dot (p q : P3) : Int := p.1 * q.1 + p.2.1 * q.2.1 + p.2.2 * q.2.2
def crs (p q : P3) : P3 := (p.2.1 * q.2.2 - p.2.2 * q.2.1, p.2.2 * q.1 - p.1 * q.2.2, p.1 * q.2.1 - p.2.1 * q.1)
abbrev Nz (p : P3) : Prop := NZ p.1 p.2.1 p.2.2
abbrev sOf (p : P3) : Int := zdO p.1 p.2.1 p.2.2
def low (p : P3) : P3 := (p.1.fdiv (sOf p), p.2.1.fdiv (sOf p), p.2.2.fdiv (sOf p))
structure Nrm (p : P3) : Prop where
 nz : Nz p
 one : sOf p = 1
theorem zeM {p : P3} (h : Nz p) : sOf p ≠ 0 /\ p.1 = sOf p * (low p).1 /\ p.2.1 = sOf p * (low p).2.1 /\ p.2.2 = sOf p * (low p).2.2 :=
 ⟨(zcC h).ne, (zcC h).x, (zcC h).y, (zcC h).z⟩
theorem zdR {p : P3} (h : Nz p) : Nrm (low p) := ⟨(zcC h).nz h, zpG h (zcC h)⟩
theorem zj7 {p q : P3} (h : Nz q) : dot p (low q) = 0 ↔ dot p q = 0 := by
 obtain ⟨h0, h1, h2, h3⟩ := zeM h
 have e : dot p q = sOf q * dot p (low q) := by unfold dot; grind
 rw [e, xa6]
 exact ⟨.inr, fun z => z.resolve_left h0⟩
theorem zr9 {p : P3} (h : Nz p) : (low p).1.natAbs <= p.1.natAbs /\ (low p).2.1.natAbs <= p.2.1.natAbs /\ (low p).2.2.natAbs <= p.2.2.natAbs := by
 obtain ⟨h0, h1, h2, h3⟩ := zeM h
 exact ⟨zf7 h0 h1, zf7 h0 h2, zf7 h0 h3⟩
theorem Nrm.last {p : P3} (h : Nrm p) : 0 < zaE p.1 p.2.1 p.2.2 /\ g3 p.1 p.2.1 p.2.2 = 1 := by
 have h1 := h.one
 have h2 := ziL h.nz
 unfold sOf zdO at h1
 split at h1 <;> constructor <;> omega
theorem zmn {p q : P3} (hp : Nz p) (hq : Nz q) (h : crs p q = (0, 0, 0)) :
  zaE q.1 q.2.1 q.2.2 * p.1 = zaE p.1 p.2.1 p.2.2 * q.1 /\ zaE q.1 q.2.1 q.2.2 * p.2.1 = zaE p.1 p.2.1 p.2.2 * q.2.1 /\ zaE q.1 q.2.1 q.2.2 * p.2.2 = zaE p.1 p.2.1 p.2.2 * q.2.2 := by
 obtain ⟨a, b, c⟩ := p
 obtain ⟨x, y, z⟩ := q
 simp only [crs, Prod.mk.injEq] at h
 obtain ⟨h1, h2, h3⟩ := h
 simp only [Nz, NZ] at hp hq
 unfold zaE
 simp only
 by_cases hc : c = 0
 ·subst hc
  by_cases hz : z = 0
  ·subst hz
   by_cases hb : b = 0
   ·subst hb
    by_cases hy : y = 0
    ·subst hy; grind
    ·have : a = 0 := by
      have := h3
      simp at this
      exact (xa6.mp this).resolve_right hy
     exact absurd ⟨this, rfl, rfl⟩ hp
   ·by_cases hy : y = 0
    ·subst hy
     have : x = 0 := by
      have := h3
      simp at this
      exact (xa6.mp this).resolve_left hb
     exact absurd ⟨this, rfl, rfl⟩ hq
    ·simp only [ne_eq, not_true_eq_false, if_false, hb, hy, not_false_eq_true, if_true]
     grind
  ·have hb : b = 0 := by
    have := h1
    simp at this
    exact (xa6.mp this).resolve_right hz
   have ha : a = 0 := by
    have := h2
    simp at this
    exact (xa6.mp this).resolve_right hz
   exact absurd ⟨ha, hb, rfl⟩ hp
 ·by_cases hz : z = 0
  ·subst hz
   have hy : y = 0 := by
    have := h1
    simp at this
    exact (xa6.mp this).resolve_left hc
   have hx : x = 0 := by
    have := h2
    simp at this
    exact (xa6.mp this).resolve_left hc
   exact absurd ⟨hx, hy, rfl⟩ hq
  ·simp only [ne_eq, hc, hz, not_false_eq_true, if_true]
   grind
theorem zck {p q : P3} (hp : Nrm p) (hq : Nrm q) (h : p ≠ q) : Nz (crs p q) := by
 intro hz
 apply h
 obtain ⟨e1, e2, e3⟩ := zmn hp.nz hq.nz (xax hz.1 (xax hz.2.1 hz.2.2))
 obtain ⟨sp, gp⟩ := hp.last
 obtain ⟨sq, gq⟩ := hq.last
 have g1 := znt (zaE q.1 q.2.1 q.2.2) p.1 p.2.1 p.2.2
 have g2 := znt (zaE p.1 p.2.1 p.2.2) q.1 q.2.1 q.2.2
 rw [e1, e2, e3, g2, gp, gq] at g1
 have e : zaE q.1 q.2.1 q.2.2 = zaE p.1 p.2.1 p.2.2 := by omega
 rw [e] at e1 e2 e3
 have ne : zaE p.1 p.2.1 p.2.2 ≠ 0 := by omega
 exact xax (xcl ne e1) (xax (xcl ne e2) (xcl ne e3))
def Col (ps : List P3) : Prop := ∀ p ∈ ps, ∀ q ∈ ps, ∀ r ∈ ps, dot p (crs q r) = 0
theorem zsa {L p q r : P3} (hL : Nz L) (hp : dot p L = 0) (hq : dot q L = 0) (hr : dot r L = 0) : dot p (crs q r) = 0 := by
 have e1 : dot p (crs q r) * L.1 = 0 := by unfold dot crs at *; grind
 have e2 : dot p (crs q r) * L.2.1 = 0 := by unfold dot crs at *; grind
 have e3 : dot p (crs q r) * L.2.2 = 0 := by unfold dot crs at *; grind
 by_cases h : dot p (crs q r) = 0
 ·exact h
 ·exact absurd ⟨(xa6.mp e1).resolve_left h, (xa6.mp e2).resolve_left h, (xa6.mp e3).resolve_left h⟩ hL
theorem Col.iff {ps : List P3} {p0 o : P3} (h0 : p0 ∈ ps) (ho : o ∈ ps) (hL : Nz (crs p0 o)) : Col ps ↔ ∀ p ∈ ps, dot p (crs p0 o) = 0 :=
 ⟨fun c p hp => c p hp p0 h0 o ho, fun c p hp q hq r hr => zsa hL (c p hp) (c q hq) (c r hr)⟩
theorem Col.same {ps : List P3} {p0 : P3} (h : ∀ p ∈ ps, p = p0) : Col ps := fun p hp q hq r hr => by
 rw [h p hp, h q hq, h r hr]; unfold dot crs; grind
end Mth
namespace Mth
abbrev M3 := P3 × P3 × P3
def mul (m : M3) (p : P3) : P3 := (dot m.1 p, dot m.2.1 p, dot m.2.2 p)
def cof (m : M3) : M3 := (crs m.2.1 m.2.2, crs m.2.2 m.1, crs m.1 m.2.1)
def det (m : M3) : Int := dot m.1 (crs m.2.1 m.2.2)
theorem zhL (a b p q : P3) : dot a p * dot b q - dot b p * dot a q = dot (crs a b) (crs p q) := by unfold dot crs; grind
theorem znu (m : M3) (p q : P3) : crs (mul m p) (mul m q) = mul (cof m) (crs p q) := by
 have h1 := zhL m.2.1 m.2.2 p q
 have h2 := zhL m.2.2 m.1 p q
 have h3 := zhL m.1 m.2.1 p q
 exact xax h1 (xax h2 h3)
theorem zvU (m : M3) (p : P3) : det m * p.1 = dot m.1 p * (crs m.2.1 m.2.2).1 + dot m.2.1 p * (crs m.2.2 m.1).1 + dot m.2.2 p * (crs m.1 m.2.1).1 := by unfold det dot crs; grind
theorem zvV (m : M3) (p : P3) : det m * p.2.1 = dot m.1 p * (crs m.2.1 m.2.2).2.1 + dot m.2.1 p * (crs m.2.2 m.1).2.1 + dot m.2.2 p * (crs m.1 m.2.1).2.1 := by unfold det dot crs; grind
theorem zvW (m : M3) (p : P3) : det m * p.2.2 = dot m.1 p * (crs m.2.1 m.2.2).2.2 + dot m.2.1 p * (crs m.2.2 m.1).2.2 + dot m.2.2 p * (crs m.1 m.2.1).2.2 := by unfold det dot crs; grind
theorem zvX (m : M3) (p : P3) : det m * p.1 = dot (crs m.2.1 m.2.2) p * m.1.1 + dot (crs m.2.2 m.1) p * m.2.1.1 + dot (crs m.1 m.2.1) p * m.2.2.1 := by unfold det dot crs; grind
theorem zvY (m : M3) (p : P3) : det m * p.2.1 = dot (crs m.2.1 m.2.2) p * m.1.2.1 + dot (crs m.2.2 m.1) p * m.2.1.2.1 + dot (crs m.1 m.2.1) p * m.2.2.2.1 := by unfold det dot crs; grind
theorem zvZ (m : M3) (p : P3) : det m * p.2.2 = dot (crs m.2.1 m.2.2) p * m.1.2.2 + dot (crs m.2.2 m.1) p * m.2.1.2.2 + dot (crs m.1 m.2.1) p * m.2.2.2.2 := by unfold det dot crs; grind
theorem zbh {a b : Int} (h : a ≠ 0) (e : a * b = 0) : b = 0 := (xa6.mp e).resolve_left h
theorem ziM {m : M3} {p : P3} (h : det m ≠ 0) (hp : Nz p) : Nz (mul m p) := by
 rintro ⟨h1, h2, h3⟩
 have h1 : dot m.1 p = 0 := h1
 have h2 : dot m.2.1 p = 0 := h2
 have h3 : dot m.2.2 p = 0 := h3
 exact hp ⟨zbh h (by rw [zvU, h1, h2, h3]; simp), zbh h (by rw [zvV, h1, h2, h3]; simp), zbh h (by rw [zvW, h1, h2, h3]; simp)⟩
theorem ztT {m : M3} {p : P3} (h : det m ≠ 0) (hp : Nz p) : Nz (mul (cof m) p) := by
 rintro ⟨h1, h2, h3⟩
 have h1 : dot (crs m.2.1 m.2.2) p = 0 := h1
 have h2 : dot (crs m.2.2 m.1) p = 0 := h2
 have h3 : dot (crs m.1 m.2.1) p = 0 := h3
 exact hp ⟨zbh h (by rw [zvX, h1, h2, h3]; simp), zbh h (by rw [zvY, h1, h2, h3]; simp), zbh h (by rw [zvZ, h1, h2, h3]; simp)⟩
def tms (s : Int) (p : P3) : P3 := (s * p.1, s * p.2.1, s * p.2.2)
theorem zeD {p : P3} (h : Nz p) : p = tms (sOf p) (low p) := by
 obtain ⟨_, h1, h2, h3⟩ := zeM h
 exact xax h1 (xax h2 h3)
theorem zj8 (s t : Int) (p q : P3) : crs (tms s p) (tms t q) = tms (s * t) (crs p q) := by
 unfold crs tms; exact xax (by grind) (xax (by grind) (by grind))
theorem zsb (m : M3) (s : Int) (p : P3) : mul m (tms s p) = tms s (mul m p) := by
 unfold mul tms dot; exact xax (by grind) (xax (by grind) (by grind))
theorem zkO {s : Int} {p : P3} (hs : s ≠ 0) (h : tms s p = (0, 0, 0)) : p = (0, 0, 0) := by
 unfold tms at h
 simp only [Prod.mk.injEq] at h
 exact xax (zbh hs h.1) (xax (zbh hs h.2.1) (zbh hs h.2.2))
theorem znv {p : P3} (h : Nz p) : p ≠ (0, 0, 0) := fun e => h (by rw [e]; exact ⟨rfl, rfl, rfl⟩)
theorem ztU {p : P3} (h : p ≠ (0, 0, 0)) : Nz p := fun ⟨a, b, c⟩ => h (xax a (xax b c))
theorem znw {s : Int} {p : P3} (hs : s ≠ 0) (h : Nz p) : Nz (tms s p) := ztU fun e => znv h (zkO hs e)
theorem zeN {a b : Int} (ha : a ≠ 0) (hb : b ≠ 0) : a * b ≠ 0 := fun e => by rcases xa6.mp e with q | q <;> contradiction
theorem zsc {u v : P3} (hu : Nz u) (hv : Nz v) (h : crs u v = (0, 0, 0)) : low u = low v := by
 refine xaw fun hne => ?_
 have hz := zck (zdR hu) (zdR hv) hne
 have e := h
 rw [zeD hu, zeD hv, zj8] at e
 exact znv hz (zkO (zeN (zeM hu).1 (zeM hv).1) e)
theorem ztV {p q L : P3} (h1 : dot p L = 0) (h2 : dot q L = 0) : crs (crs p q) L = (0, 0, 0) := by
 have e1 : (crs (crs p q) L).1 = dot p L * q.1 - dot q L * p.1 := by unfold crs dot; grind
 have e2 : (crs (crs p q) L).2.1 = dot p L * q.2.1 - dot q L * p.2.1 := by unfold crs dot; grind
 have e3 : (crs (crs p q) L).2.2 = dot p L * q.2.2 - dot q L * p.2.2 := by unfold crs dot; grind
 rw [h1, h2] at e1 e2 e3
 exact xax (by rw [e1]; simp) (xax (by rw [e2]; simp) (by rw [e3]; simp))
end Mth
namespace Mth
def zpH (ns : List Int) : Nat := ns.foldl (fun g n => Nat.gcd g n.natAbs) 0
def zaY : List Int -> Int
 | [] => 0
 | n :: ns => if n = 0 then zaY ns else n
def zg1 (ns : List Int) : Int := if zaY ns < 0 then -((zpH ns : Nat) : Int) else ((zpH ns : Nat) : Int)
def zvb (ns : List Int) : List Int := ns.map fun n => n.fdiv (zg1 ns)
theorem ziN : ∀ (ns : List Int) (g : Nat), (ns.foldl (fun g n => Nat.gcd g n.natAbs) g ∣ g) /\ ∀ n ∈ ns, ns.foldl (fun g n => Nat.gcd g n.natAbs) g ∣ n.natAbs
 | [], g => ⟨Nat.dvd_refl _, fun n h => by cases h⟩
 | m :: ns, g => by
  obtain ⟨h1, h2⟩ := ziN ns (Nat.gcd g m.natAbs)
  refine ⟨Nat.dvd_trans h1 (xcz _ _), fun n hn => ?_⟩
  rcases xaf.mp hn with rfl | hn
  ·exact Nat.dvd_trans h1 (Nat.gcd_dvd_right _ _)
  ·exact h2 n hn
theorem ziO (c : Int) : ∀ (ns : List Int) (g : Nat), (ns.map (c * ·)).foldl (fun g n => Nat.gcd g n.natAbs) (c.natAbs * g) = c.natAbs * ns.foldl (fun g n => Nat.gcd g n.natAbs) g
 | [], g => rfl
 | m :: ns, g => by
  rw [xat, xcm, xcm, xcd, Nat.gcd_mul_left]
  exact ziO c ns _
theorem zpI (c : Int) (ns : List Int) : zpH (ns.map (c * ·)) = c.natAbs * zpH ns := by
 have := ziO c ns 0
 rw [Nat.mul_zero] at this
 exact this
theorem zf9 {c : Int} (hc : c ≠ 0) : ∀ ns : List Int, zaY (ns.map (c * ·)) = c * zaY ns
 | [] => by simp [zaY]
 | n :: ns => by
  rw [xat]
  unfold zaY
  by_cases h : n = 0
  ·subst h; simp [zf9 hc ns]
  ·rw [if_neg h, if_neg (zeN hc h)]
theorem zga : ∀ {ns : List Int}, zaY ns ≠ 0 -> zaY ns ∈ ns
 | [], h => absurd rfl h
 | n :: ns, h => by
  unfold zaY at h ⊢
  by_cases e : n = 0
  ·rw [if_pos e] at h ⊢; exact xab _ (zga h)
  ·rw [if_neg e]; exact xae
theorem zfe : ∀ {ns : List Int} {n : Int}, n ∈ ns -> n ≠ 0 -> zaY ns ≠ 0
 | m :: ns, n, h, hn => by
  unfold zaY
  by_cases e : m = 0
  ·rw [if_pos e]
   rcases xaf.mp h with rfl | h
   ·exact absurd e hn
   ·exact zfe h hn
  ·rw [if_neg e]; exact e
theorem zhM {ns : List Int} {n : Int} (h : n ∈ ns) : ((zpH ns : Nat) : Int) ∣ n := Int.ofNat_dvd_left.mpr ((ziN ns 0).2 n h)
theorem zsd {ns : List Int} (h : zaY ns ≠ 0) : zpH ns ≠ 0 := fun e => h (by
 have := zhM (zga h)
 rw [e] at this
 obtain ⟨k, hk⟩ := this
 rw [hk]; simp)
theorem zj9 {ns : List Int} (h : zaY ns ≠ 0) : zg1 ns ≠ 0 := by
 have := zsd h
 unfold zg1; split <;> omega
theorem zpJ {ns : List Int} {n : Int} (h : n ∈ ns) : zg1 ns ∣ n := by
 unfold zg1; split
 ·exact Int.neg_dvd.mpr (zhM h)
 ·exact zhM h
theorem zmo {ns : List Int} (h : zaY ns ≠ 0) {n : Int} (hn : n ∈ ns) : n = zg1 ns * n.fdiv (zg1 ns) := by
 obtain ⟨k, hk⟩ := zpJ hn
 rw [zf6 (zj9 h) hk]; exact hk
theorem zpK {c : Int} (hc : c ≠ 0) {ns : List Int} (h : zaY ns ≠ 0) : zg1 (ns.map (c * ·)) = c * zg1 ns := by
 unfold zg1
 rw [zf9 hc, zpI, Int.natCast_mul]
 rcases Int.lt_or_gt_of_ne hc with h1 | h1
 ·have e : ((c.natAbs : Nat) : Int) = -c := by omega
  rw [e]
  rcases Int.lt_or_gt_of_ne h with h2 | h2
  ·rw [if_neg (by have := Int.mul_pos_of_neg_of_neg h1 h2; omega), if_pos h2]; grind
  ·rw [if_pos (Int.mul_neg_of_neg_of_pos h1 h2), if_neg (by omega)]; grind
 ·have e : ((c.natAbs : Nat) : Int) = c := by omega
  rw [e]
  rcases Int.lt_or_gt_of_ne h with h2 | h2
  ·rw [if_pos (Int.mul_neg_of_pos_of_neg h1 h2), if_pos h2]; grind
  ·rw [if_neg (by have := Int.mul_pos h1 h2; omega), if_neg (by omega)]
theorem zpL {c : Int} (hc : c ≠ 0) {ns : List Int} (h : zaY ns ≠ 0) : zvb (ns.map (c * ·)) = zvb ns := by
 unfold zvb
 rw [zpK hc h, List.map_map]
 apply List.map_congr_left
 intro n hn
 have e := zmo h hn
 show (c * n).fdiv (c * zg1 ns) = n.fdiv (zg1 ns)
 refine zf6 (zeN hc (zj9 h)) ?_
 rw [Int.mul_assoc, <- e]
theorem zkP : ∀ (ns : List Int) (g : Nat) (k : Nat), g <= k -> (∀ n ∈ ns, n.natAbs <= k) -> ns.foldl (fun g n => Nat.gcd g n.natAbs) g <= k
 | [], g, k, hg, _ => hg
 | m :: ns, g, k, hg, h => zkP ns _ k (zf8 hg (h m xae)) fun n hn => h n (xab _ hn)
theorem zse {ns : List Int} {k : Nat} (h : ∀ n ∈ ns, n.natAbs <= k) : (zg1 ns).natAbs <= k := by
 have := zkP ns 0 k (xbt _) h
 unfold zg1 zpH; split <;> omega
end Mth
namespace Mth
def zka (x y z : P3) : Int := dot x (crs y z)
theorem zsf (a b : Int) (p : P3) : tms a (tms b p) = tms (a * b) p := by
 unfold tms; exact xax (by grind) (xax (by grind) (by grind))
end Mth
namespace Mth
abbrev P2 := Int × Int
def dp (s t : P2) : Int := s.1 * t.2 - s.2 * t.1
def cmb (s : P2) (p q : P3) : P3 := (s.1 * p.1 + s.2 * q.1, s.1 * p.2.1 + s.2 * q.2.1, s.1 * p.2.2 + s.2 * q.2.2)
theorem znx (s t : P2) (p q : P3) : crs (cmb s p q) (cmb t p q) = tms (dp s t) (crs p q) := by
 unfold crs cmb tms dp; exact xax (by grind) (xax (by grind) (by grind))
theorem zfp {s : P2} {p q : P3} (hs : s ≠ (0, 0)) (h : Nz (crs p q)) : Nz (cmb s p q) := ztU fun e => by
 have e1 : crs (cmb s p q) q = tms s.1 (crs p q) := by unfold crs cmb tms; exact xax (by grind) (xax (by grind) (by grind))
 have e2 : crs p (cmb s p q) = tms s.2 (crs p q) := by unfold crs cmb tms; exact xax (by grind) (xax (by grind) (by grind))
 have z1 : s.1 = 0 := xaw fun n => znv (znw n h) (by rw [<- e1, e]; unfold crs; simp)
 have z2 : s.2 = 0 := xaw fun n => znv (znw n h) (by rw [<- e2, e]; unfold crs; simp)
 exact hs (xax z1 z2)
theorem ztW (s : P2) (p q : P3) : dot (cmb s p q) (crs p q) = 0 := by unfold dot cmb crs; grind
structure By (p q : P3) (s : P2) (a : P3) : Prop where
 nrm : Nrm a
 part : ∃ g : Int, g ≠ 0 /\ tms g a = cmb s p q
theorem zkQ {s : P2} {p q : P3} (hs : s ≠ (0, 0)) (h : Nz (crs p q)) : By p q s (low (cmb s p q)) :=
 ⟨zdR (zfp hs h), sOf (cmb s p q), (zeM (zfp hs h)).1, (zeD (zfp hs h)).symm⟩
theorem By.on {p q : P3} {s : P2} {a : P3} (h : By p q s a) : dot a (crs p q) = 0 := by
 obtain ⟨g, g0, e⟩ := h.part
 have e1 := ztW s p q
 rw [<- e] at e1
 refine zbh g0 ?_
 rw [<- e1]; unfold dot tms; grind
theorem zsg (m : M3) (s : P2) (p q : P3) : mul m (cmb s p q) = cmb s (mul m p) (mul m q) := by unfold mul cmb dot; exact xax (by grind) (xax (by grind) (by grind))
theorem By.led {p q : P3} {s : P2} {a : P3} {m : M3} (hd : det m ≠ 0) (h : By p q s a) : By (mul m p) (mul m q) s (low (mul m a)) := by
 have nz := ziM hd h.nrm.1
 obtain ⟨g, g0, e⟩ := h.part
 refine ⟨zdR nz, g * sOf (mul m a), zeN g0 (zeM nz).1, ?_⟩
 rw [<- zsf, <- zeD nz, <- zsb, e, zsg]
theorem By.two {p q : P3} {s t : P2} {a b : P3} (h : By p q s a) (k : By p q t b) : ∃ g : Int, g ≠ 0 /\ tms g (crs a b) = tms (dp s t) (crs p q) := by
 obtain ⟨g, g0, e⟩ := h.part
 obtain ⟨f, f0, e'⟩ := k.part
 refine ⟨g * f, zeN g0 f0, ?_⟩
 rw [<- zj8, e, e', znx]
theorem By.eq {p q : P3} {s t : P2} {a b : P3} (h : By p q s a) (k : By p q t b) (z : dp s t = 0) : a = b := xaw fun ne => by
 obtain ⟨g, g0, e⟩ := h.two k
 refine znv (znw g0 (zck h.nrm k.nrm ne)) ?_
 rw [e, z]; unfold tms; simp
def cx (n : Nat) (p : P3) : Int := if n = 0 then p.1 else if n = 1 then p.2.1 else p.2.2
theorem ziP (n : Nat) (s : Int) (p : P3) : cx n (tms s p) = s * cx n p := by unfold cx tms; by_cases h : n = 0 <;> by_cases k : n = 1 <;> simp [h, k]
theorem By.cx {p q : P3} {s t : P2} {a b : P3} (h : By p q s a) (k : By p q t b) {n : Nat} (hn : cx n (crs a b) ≠ 0) : cx n (crs p q) ≠ 0 := fun z => by
 obtain ⟨g, g0, e⟩ := h.two k
 have e1 := congrArg (Mth.cx n) e
 rw [ziP, ziP, z, xb7] at e1
 exact hn (zbh g0 e1)
def rT (sa sb sc sd : P2) : Int := dp sa sc * dp sb sd
def rB (sa sb sc sd : P2) : Int := dp sa sd * dp sb sc
theorem zpM {p q a b c d : P3} {sa sb sc sd : P2} (ha : By p q sa a) (hb : By p q sb b) (hc : By p q sc c) (hd : By p q sd d) (n : Nat) :
  ∃ G : Int, G ≠ 0 /\ G * (cx n (crs a c) * cx n (crs b d)) = cx n (crs p q) * cx n (crs p q) * rT sa sb sc sd /\ G * (cx n (crs a d) * cx n (crs b c)) = cx n (crs p q) * cx n (crs p q) * rB sa sb sc sd := by
 obtain ⟨ga, a0, ea⟩ := ha.part
 obtain ⟨gb, b0, eb⟩ := hb.part
 obtain ⟨gc, c0, ec⟩ := hc.part
 obtain ⟨gd, d0, ed⟩ := hd.part
 have two : ∀ {g f : Int} {x y : P3} {s t : P2}, tms g x = cmb s p q -> tms f y = cmb t p q -> g * f * cx n (crs x y) = dp s t * cx n (crs p q) := fun e1 e2 => by
  rw [<- ziP, <- zj8, e1, e2, znx, ziP]
 refine ⟨ga * gb * (gc * gd), zeN (zeN a0 b0) (zeN c0 d0), ?_, ?_⟩
 ·have e1 := two ea ec
  have e2 := two eb ed
  have e3 : ga * gb * (gc * gd) * (cx n (crs a c) * cx n (crs b d)) = ga * gc * cx n (crs a c) * (gb * gd * cx n (crs b d)) := by grind
  rw [e3, e1, e2]; unfold rT; grind
 ·have e1 := two ea ed
  have e2 := two eb ec
  have e3 : ga * gb * (gc * gd) * (cx n (crs a d) * cx n (crs b c)) = ga * gd * cx n (crs a d) * (gb * gc * cx n (crs b c)) := by grind
  rw [e3, e1, e2]; unfold rB; grind
def zmp (t b : Int) : P2 := (t.fdiv (zg1 [b, t]), b.fdiv (zg1 [b, t]))
theorem zhN {c t b : Int} (hc : c ≠ 0) (h : zaY [b, t] ≠ 0) : zmp (c * t) (c * b) = zmp t b := by
 have e := zpL hc h
 simp only [zvb, xat, xbz, List.cons.injEq, and_true] at e
 exact xax e.2 e.1
theorem zkR {b t : Int} (h : ¬ (b = 0 /\ t = 0)) : zaY [b, t] ≠ 0 := by
 by_cases hb : b = 0
 ·exact zfe (n := t) (by simp) fun z => h ⟨hb, z⟩
 ·exact zfe (n := b) (by simp) hb
theorem zsh {t b T B G K : Int} (g : G ≠ 0) (k : K ≠ 0) (h : ¬ (T = 0 /\ B = 0)) (e1 : G * t = K * T) (e2 : G * b = K * B) : zmp t b = zmp T B := by
 have hT : ¬ (B = 0 /\ T = 0) := fun q => h ⟨q.2, q.1⟩
 have ht : ¬ (b = 0 /\ t = 0) := fun q => h ⟨zbh k (by rw [<- e1, q.2, xb7]), zbh k (by rw [<- e2, q.1, xb7])⟩
 rw [<- zhN g (zkR ht), e1, e2, zhN k (zkR hT)]
theorem ztX {t : Int} (h : t ≠ 0) : zmp t 0 = (1, 0) := by
 have e := zhN (c := t) (t := 1) (b := 0) h (by decide)
 rw [Int.mul_one, xb7] at e
 rw [e]; decide
theorem sgn2 (b t : Int) : zg1 [b, t] = if b < 0 \/ b = 0 /\ t < 0 then 0 - ((Nat.gcd t.natAbs b.natAbs : Nat) : Int) else ((Nat.gcd t.natAbs b.natAbs : Nat) : Int) := by
 have e1 : zpH [b, t] = Nat.gcd t.natAbs b.natAbs := by simp [zpH, Nat.gcd_comm]
 have e2 : zaY [b, t] < 0 ↔ (b < 0 \/ b = 0 /\ t < 0) := by
  simp only [zaY]
  by_cases hb : b = 0
  ·subst hb
   by_cases ht : t = 0
   ·subst ht; simp
   ·simp [ht]
  ·simp [hb]
 unfold zg1
 rw [e1]
 by_cases h : b < 0 \/ b = 0 /\ t < 0
 ·rw [if_pos (e2.mpr h), if_pos h]; omega
 ·rw [if_neg (fun q => h (e2.mp q)), if_neg h]
theorem zpN {p q x y r : P3} (hx : Nrm x) (hy : Nrm y) (hne : x ≠ y) (h : Nz (crs p q)) (ox : dot x (crs p q) = 0) (oy : dot y (crs p q) = 0) (hr : dot r (crs p q) ≠ 0) : dot r (crs x y) ≠ 0 := fun z => by
 have nz := zck hx hy hne
 have par := ztV ox oy
 have e := zsc nz h par
 refine hr ?_
 rw [zeD h, <- e]
 have e2 := zeD nz
 rw [e2] at z
 have z2 : sOf (crs x y) * dot r (low (crs x y)) = 0 := by rw [<- z]; unfold dot tms; grind
 have z3 := zbh (zeM nz).1 z2
 have e4 : dot r (tms (sOf (crs p q)) (low (crs x y))) = sOf (crs p q) * dot r (low (crs x y)) := by unfold dot tms; grind
 rw [e4, z3, xb7]
end Mth
namespace Mth
theorem ziQ {α : Type} {L : List α} (nd : L.Nodup) : 3 <= L.length ↔ ∃ x ∈ L, ∃ y ∈ L, ∃ z ∈ L, x ≠ y /\ x ≠ z /\ y ≠ z := by
 constructor
 ·intro h
  match L, h, nd with
  | x :: y :: z :: r, _, nd =>
   simp only [xbn, xaf, not_or] at nd
   exact ⟨x, by simp, y, by simp, z, by simp, nd.1.1, nd.1.2.1, nd.2.1.1⟩
 ·rintro ⟨x, hx, y, hy, z, hz, h1, h2, h3⟩
  match L, hx, hy, hz with
  | [a], hx, hy, hz =>
   rw [xbr] at hx hy
   exact absurd (hx.trans hy.symm) h1
  | [a, b], hx, hy, hz =>
   simp only [xaf, xas, or_false] at hx hy hz
   rcases hx with rfl | rfl <;> rcases hy with rfl | rfl <;> rcases hz with rfl | rfl <;> contradiction
  | _ :: _ :: _ :: _, _, _, _ => simp
def U3 (ps : List P3) : Prop := ∃ x ∈ ps, ∃ y ∈ ps, ∃ z ∈ ps, x ≠ y /\ x ≠ z /\ y ≠ z
theorem U3.sub {ps qs : List P3} (h : ∀ p ∈ ps, p ∈ qs) (u : U3 ps) : U3 qs := by
 obtain ⟨x, hx, y, hy, z, hz, r⟩ := u
 exact ⟨x, h x hx, y, h y hy, z, h z hz, r⟩
theorem Col.sub {ps qs : List P3} (h : ∀ p ∈ ps, p ∈ qs) (c : Col qs) : Col ps := fun p hp q hq r hr => c p (h p hp) q (h q hq) r (h r hr)
theorem zqv {ps : List P3} {p r : P3} (h : ∀ x ∈ ps, x = p \/ x = r) : ¬ U3 ps := by
 rintro ⟨x, hx, y, hy, z, hz, h1, h2, h3⟩
 rcases h x hx with rfl | rfl <;> rcases h y hy with rfl | rfl <;> rcases h z hz with rfl | rfl <;> contradiction
def ad (xs : List P3) (p : P3) : List P3 := if p ∈ xs then xs else xs ++ [p]
theorem ztY {xs : List P3} {p q : P3} : q ∈ ad xs p ↔ q ∈ xs \/ q = p := by
 unfold ad
 split
 ·rename_i h
  exact ⟨.inl, fun k => k.elim id fun e => by rw [e]; exact h⟩
 ·simp
theorem zpO {xs : List P3} {p : P3} (h : xs.Nodup) : (ad xs p).Nodup := by
 unfold ad
 split
 ·exact h
 ·rename_i n
  rw [List.nodup_append]
  refine ⟨h, by simp, fun a ha b hb e => n ?_⟩
  rw [<- xbr.mp hb, <- e]; exact ha
def unl (a b c d : P3) : List P3 := ad (ad (ad (ad [] a) b) c) d
theorem zny {a b c d q : P3} : q ∈ unl a b c d ↔ q ∈ [a, b, c, d] := by
 unfold unl
 simp only [ztY, xas, false_or, xaf, or_false, or_assoc]
theorem zqw (a b c d : P3) : (unl a b c d).Nodup := zpO (zpO (zpO (zpO List.Pairwise.nil)))
theorem zv0 (a b c d : P3) : 3 <= (unl a b c d).length ↔ U3 [a, b, c, d] := by
 rw [ziQ (zqw a b c d)]
 unfold U3
 simp only [zny]
theorem ztZ {ps : List P3} (hn : ∀ p ∈ ps, Nrm p) {u v : P3} {r us : List P3} (e : us = u :: v :: r) (nd : us.Nodup) (hm : ∀ q, q ∈ us ↔ q ∈ ps) (h : ∀ x ∈ r, dot u (crs v x) = 0) : Col ps := by
 subst e
 have hu : u ∈ ps := (hm u).mp (by simp)
 have hv : v ∈ ps := (hm v).mp (by simp)
 have ne : u ≠ v := fun z => by rw [z] at nd; simp at nd
 refine (Col.iff hu hv (zck (hn u hu) (hn v hv) ne)).mpr fun p hp => ?_
 have hp := (hm p).mpr hp
 rcases xaf.mp hp with rfl | hp
 ·unfold dot crs; grind
 ·rcases xaf.mp hp with rfl | hp
  ·unfold dot crs; grind
  ·have := h p hp
   rw [<- this]; unfold dot crs; grind
theorem zv1 {ps : List P3} {u v : P3} {r us : List P3} (e : us = u :: v :: r) (hm : ∀ q, q ∈ us ↔ q ∈ ps) (c : Col ps) : ∀ x ∈ r, dot u (crs v x) = 0 := fun x hx => by
 subst e
 exact c u ((hm u).mp (by simp)) v ((hm v).mp (by simp)) x ((hm x).mp (by simp [hx]))
inductive znz (a b c d : P3) (sa sb sc sd : P2) : Prop
 | by' (p q : P3) (ha : By p q sa a) (hb : By p q sb b) (hc : By p q sc c) (hd : By p q sd d)
 | few (x y : P3) (h : ∀ z ∈ [a, b, c, d], z = x \/ z = y)
 | off (p q r : P3) (n : Nz (crs p q)) (hr : r ∈ [a, b, c, d]) (o : dot r (crs p q) ≠ 0) (h : ∀ z ∈ [a, b, c, d], z = r \/ dot z (crs p q) = 0)
theorem zt0 {p q r : P3} {ps : List P3} (hn : ∀ p ∈ ps, Nrm p) (n : Nz (crs p q)) (hr : r ∈ ps) (o : dot r (crs p q) ≠ 0) (h : ∀ z ∈ ps, z = r \/ dot z (crs p q) = 0) : ¬ (U3 ps /\ Col ps) := by
 rintro ⟨⟨x, hx, y, hy, z, hz, h1, h2, h3⟩, c⟩
 have two : ∀ x ∈ ps, ∀ y ∈ ps, x ≠ y -> dot x (crs p q) = 0 -> dot y (crs p q) = 0 -> False := fun x hx y hy ne ox oy =>
  zpN (hn x hx) (hn y hy) ne n ox oy o (c r hr x hx y hy)
 rcases h x hx with e1 | e1
 ·rcases h y hy with e2 | e2
  ·exact h1 (e1.trans e2.symm)
  ·rcases h z hz with e3 | e3
   ·exact h2 (e1.trans e3.symm)
   ·exact two y hy z hz h3 e2 e3
 ·rcases h y hy with e2 | e2
  ·rcases h z hz with e3 | e3
   ·exact h3 (e2.trans e3.symm)
   ·exact two x hx z hz h2 e1 e3
  ·exact two x hx y hy h1 e1 e2
theorem znz.cases {a b c d : P3} {sa sb sc sd : P2} (F : znz a b c d sa sb sc sd) (hn : ∀ p ∈ [a, b, c, d], Nrm p) (g : U3 [a, b, c, d] /\ Col [a, b, c, d]) : ∃ p q, By p q sa a /\ By p q sb b /\ By p q sc c /\ By p q sd d := by
 cases F with
 | by' p q ha hb hc hd => exact ⟨p, q, ha, hb, hc, hd⟩
 | few x y h => exact absurd g.1 (zqv h)
 | off p q r n hr o h => exact absurd g (zt0 hn n hr o h)
theorem znA {m : M3} {p q r : P3} : dot (mul m r) (crs (mul m p) (mul m q)) = det m * dot r (crs p q) := by
 rw [znu]; unfold mul cof det dot crs; grind
theorem znB {p l : P3} (h : Nz p) : dot (low p) l = 0 ↔ dot p l = 0 := by
 have e1 : ∀ a b : P3, dot a b = dot b a := fun a b => by unfold dot; grind
 rw [e1, e1 p l]; exact zj7 h
theorem znz.led {a b c d : P3} {sa sb sc sd : P2} {m : M3} (hd : det m ≠ 0) (hn : ∀ p ∈ [a, b, c, d], Nrm p) (F : znz a b c d sa sb sc sd) : znz (low (mul m a)) (low (mul m b)) (low (mul m c)) (low (mul m d)) sa sb sc sd := by
 cases F with
 | by' p q ha hb hc hd' => exact .by' _ _ (ha.led hd) (hb.led hd) (hc.led hd) (hd'.led hd)
 | few x y h =>
  refine .few (low (mul m x)) (low (mul m y)) fun z hz => ?_
  rw [show [low (mul m a), low (mul m b), low (mul m c), low (mul m d)] = [a, b, c, d].map (fun p => low (mul m p)) from rfl] at hz
  obtain ⟨p, hp, rfl⟩ := xbb.mp hz
  exact (h p hp).imp (fun e => by rw [e]) fun e => by rw [e]
 | off p q r n hr o h =>
  have n2 : Nz (crs (mul m p) (mul m q)) := by rw [znu]; exact ztT hd n
  refine .off (mul m p) (mul m q) (low (mul m r)) n2 ?_ (fun z => ?_) fun z hz => ?_
  ·rw [show [low (mul m a), low (mul m b), low (mul m c), low (mul m d)] = [a, b, c, d].map (fun p => low (mul m p)) from rfl]
   exact xci hr
  ·have := (znB (ziM hd (hn r hr).nz)).mp z
   rw [znA] at this
   exact o (zbh hd this)
  ·rw [show [low (mul m a), low (mul m b), low (mul m c), low (mul m d)] = [a, b, c, d].map (fun p => low (mul m p)) from rfl] at hz
   obtain ⟨x, hx, rfl⟩ := xbb.mp hz
   refine (h x hx).imp (fun e => by rw [e]) fun e => ?_
   rw [znB (ziM hd (hn x hx).nz), znA, e, xb7]
theorem znz.swap {a b c d : P3} {sa sb sc sd : P2} (F : znz a b c d sa sb sc sd) : znz b a c d sb sa sc sd := by
 have m : ∀ z : P3, z ∈ [b, a, c, d] -> z ∈ [a, b, c, d] := fun z hz => by
  simp only [xaf, xas, or_false] at hz ⊢
  rcases hz with h | h | h | h <;> simp [h]
 have m' : ∀ z : P3, z ∈ [a, b, c, d] -> z ∈ [b, a, c, d] := fun z hz => by
  simp only [xaf, xas, or_false] at hz ⊢
  rcases hz with h | h | h | h <;> simp [h]
 cases F with
 | by' p q ha hb hc hd => exact .by' p q hb ha hc hd
 | few x y h => exact .few x y fun z hz => h z (m z hz)
 | off p q r n hr o h => exact .off p q r n (m' r hr) o fun z hz => h z (m z hz)
theorem zkS {p q a b c d : P3} {sa sb sc sd : P2} (ha : By p q sa a) (hb : By p q sb b) (hc : By p q sc c) (hd : By p q sd d) (u : U3 [a, b, c, d]) : ¬ (rT sa sb sc sd = 0 /\ rB sa sb sc sd = 0) := by
 rintro ⟨h1, h2⟩
 have mem : ∀ {x y : P3}, a = x \/ a = y -> b = x \/ b = y -> c = x \/ c = y -> d = x \/ d = y -> False := fun h1 h2 h3 h4 => zqv (fun z hz => by
  simp only [xaf, xas, or_false] at hz
  rcases hz with rfl | rfl | rfl | rfl <;> assumption) u
 rcases xa6.mp h1 with e1 | e1 <;> rcases xa6.mp h2 with e2 | e2
 ·exact mem (x := a) (y := b) (.inl rfl) (.inr rfl) (.inl (ha.eq hc e1).symm) (.inl (ha.eq hd e2).symm)
 ·exact mem (x := c) (y := d) (.inl (ha.eq hc e1)) (.inl (hb.eq hc e2)) (.inl rfl) (.inr rfl)
 ·exact mem (x := d) (y := c) (.inl (ha.eq hd e2)) (.inl (hb.eq hd e1)) (.inr rfl) (.inl rfl)
 ·exact mem (x := b) (y := a) (.inr rfl) (.inl rfl) (.inl (hb.eq hc e2).symm) (.inl (hb.eq hd e1).symm)
theorem zpP {p q a b c d : P3} {sa sb sc sd : P2} (ha : By p q sa a) (hb : By p q sb b) (hc : By p q sc c) (hd : By p q sd d) (u : U3 [a, b, c, d]) {n : Nat} (hn : cx n (crs p q) ≠ 0) :
  (if cx n (crs a d) * cx n (crs b c) = 0 then ((1, 0) : P2) else zmp (cx n (crs a c) * cx n (crs b d)) (cx n (crs a d) * cx n (crs b c))) = zmp (rT sa sb sc sd) (rB sa sb sc sd) := by
 obtain ⟨G, g, e1, e2⟩ := zpM ha hb hc hd n
 have ne := zkS ha hb hc hd u
 have k := zeN hn hn
 split
 ·rename_i z
  rw [z, xb7] at e2
  have b0 := zbh k e2.symm
  have t0 : rT sa sb sc sd ≠ 0 := fun q => ne ⟨q, b0⟩
  rw [b0, ztX t0]
 ·exact zsh g k ne e1 e2
theorem zv2 {p : P3} (h : Nrm p) : Nz (p.1 + 1, p.2.1 + 2, p.2.2 + 5) := fun z => by
 have z3 : p.2.2 + 5 = 0 := z.2.2
 have l := h.last.1
 unfold zaE at l
 rw [if_pos (show p.2.2 ≠ 0 by omega)] at l
 omega
end Mth
namespace SetT
open PySem.SetTable
theorem zkT : ∀ (n : Nat) (l : List Nat), (∀ j, j < n -> j ∈ l) -> n <= l.length
 | 0, _, _ => xbt _
 | n + 1, l, h => by
  have hn : n ∈ l := h n (xc0 _)
  have := zkT n (l.erase n) fun j hj => (List.mem_erase_of_ne (by omega)).mpr (h j (by omega))
  rw [List.length_erase_of_mem hn] at this
  have : 0 < l.length := List.length_pos_of_mem hn
  omega
theorem no_has (j : Nat) : has #[] j = false := rfl
theorem slot_cases {t : SetTable} (hd : t.dummies = #[]) (j : Nat) : t.slot j = .empty \/ ∃ i, t.slot j = .live i /\ t.place[i]? = some j := by
 unfold slot
 simp only
 by_cases h : (t.place[below t.place j]? == some j) = true
 ·rw [if_pos h]
  exact .inr ⟨_, rfl, eq_of_beq h⟩
 ·rw [if_neg h, hd, no_has]
  exact .inl rfl
theorem zmq {t : SetTable} (hd : t.dummies = #[]) {n : Nat} (hn : t.place.size < n) : ∃ j, j < n /\ t.slot j = .empty := by
 refine xaw fun h => ?_
 have : n <= t.place.toList.length := zkT n _ fun j hj => by
  rcases slot_cases hd j with e | ⟨i, _, hi⟩
  ·exact absurd ⟨j, hj, e⟩ h
  ·rw [<- xaq] at hi
   exact xbf hi
 rw [xan] at this
 omega
def iter (t : SetTable) : Nat -> Probe -> Probe
 | 0, p => p
 | k + 1, p => iter t k (t.advance p)
theorem iter_add (t : SetTable) : ∀ (a b : Nat) (p : Probe), iter t (a + b) p = iter t b (iter t a p)
 | 0, b, p => by rw [xbo]; rfl
 | a + 1, b, p => by rw [Nat.succ_add]; exact iter_add t a b (t.advance p)
theorem adv_dummy (t : SetTable) (p : Probe) : (t.advance p).dummy = p.dummy := by
 unfold advance; split <;> rfl
def start (mask i perturb : Nat) : Probe := { j := i, more := runEnd mask i - i, i, perturb, dummy := none }
theorem zkU (mask i : Nat) : runEnd mask i - i <= 9 := by unfold runEnd; split <;> omega
theorem znC {t : SetTable} : ∀ (m : Nat) (p : Probe), p.more = m -> p.dummy = none -> iter t (m + 1) p = start t.mask (leap t.mask p.i p.perturb).1 (leap t.mask p.i p.perturb).2
 | 0, p, hm, hd => by
  show t.advance p = _
  unfold advance start
  rw [if_neg (by omega), hd]
 | m + 1, p, hm, hd => by
  show iter t (m + 1) (t.advance p) = _
  have e : t.advance p = { p with j := p.j + 1, more := p.more - 1 } := by unfold advance; rw [if_pos (by omega)]
  rw [e]
  exact znC m { p with j := p.j + 1, more := p.more - 1 } (by show p.more - 1 = m; omega) hd
def zbi (mask : Nat) : Nat -> Nat × Nat -> Nat × Nat
 | 0, s => s
 | n + 1, s => zbi mask n (leap mask s.1 s.2)
theorem zeE (mask : Nat) : ∀ (n : Nat) (s : Nat × Nat), zbi mask (n + 1) s = leap mask (zbi mask n s).1 (zbi mask n s).2
 | 0, _ => rfl
 | n + 1, s => zeE mask n (leap mask s.1 s.2)
theorem zgb {t : SetTable} : ∀ (n : Nat) (s : Nat × Nat), ∃ k, k <= 10 * n /\ iter t k (start t.mask s.1 s.2) = start t.mask (zbi t.mask n s).1 (zbi t.mask n s).2
 | 0, s => ⟨0, xaj _, rfl⟩
 | n + 1, s => by
  obtain ⟨k, hk, e⟩ := zgb n (leap t.mask s.1 s.2)
  have hr := znC (t := t) _ (start t.mask s.1 s.2) rfl rfl
  refine ⟨(runEnd t.mask s.1 - s.1 + 1) + k, ?_, ?_⟩
  ·have := zkU t.mask s.1; omega
  ·rw [iter_add]
   have hr : iter t (runEnd t.mask s.1 - s.1 + 1) (start t.mask s.1 s.2) = start t.mask (leap t.mask s.1 s.2).1 (leap t.mask s.1 s.2).2 := hr
   rw [hr]; exact e
theorem zel (mask : Nat) : ∀ (n : Nat) (s : Nat × Nat), (zbi mask n s).2 = s.2 / 32 ^ n
 | 0, s => by simp [zbi]
 | n + 1, s => by
  rw [zeE]
  show (zbi mask n s).2 / 32 = _
  rw [zel mask n s, Nat.div_div_eq_div_mul, <- Nat.pow_succ]
def zt1 (mask : Nat) : Nat -> Nat -> Nat
 | 0, i => i
 | n + 1, i => zt1 mask n ((i * 5 + 1) % (mask + 1))
theorem zgc (mask : Nat) : ∀ (n i : Nat), zbi mask n (i, 0) = (zt1 mask n i, 0)
 | 0, i => rfl
 | n + 1, i => by
  show zbi mask n (leap mask i 0) = _
  have : leap mask i 0 = ((i * 5 + 1) % (mask + 1), 0) := by unfold leap; simp
  rw [this, zgc mask n]; rfl
theorem zhi (mask : Nat) : ∀ (a b : Nat) (s : Nat × Nat), zbi mask (a + b) s = zbi mask b (zbi mask a s)
 | 0, b, s => by rw [xbo]; rfl
 | a + 1, b, s => by rw [Nat.succ_add]; exact zhi mask a b (leap mask s.1 s.2)
theorem all7 : (List.range 8).all (fun i => (List.range 8).all fun j => (List.range 8).any fun n => zt1 7 n i == j) = true := by decide +kernel
theorem zv3 : (List.range 32).all (fun i => (List.range 32).all fun j => (List.range 32).any fun n => zt1 31 n i == j) = true := by decide +kernel
theorem zpQ {mask : Nat} (hm : mask = 7 \/ mask = 31) {i j : Nat} (hi : i <= mask) (hj : j <= mask) : ∃ n, n <= mask /\ zt1 mask n i = j := by
 rcases hm with rfl | rfl
 ·have h := xay.mp (xay.mp all7 i (xa2.mpr (by omega))) j (xa2.mpr (by omega))
  obtain ⟨n, h1, h2⟩ := List.any_eq_true.mp h
  exact ⟨n, by have := xa2.mp h1; omega, eq_of_beq h2⟩
 ·have h := xay.mp (xay.mp zv3 i (xa2.mpr (by omega))) j (xa2.mpr (by omega))
  obtain ⟨n, h1, h2⟩ := List.any_eq_true.mp h
  exact ⟨n, by have := xa2.mp h1; omega, eq_of_beq h2⟩
theorem znD {mask : Nat} (n : Nat) {s : Nat × Nat} (hs : s.1 <= mask) : (zbi mask n s).1 <= mask := by
 cases n with
 | zero => exact hs
 | succ n =>
  rw [zeE]
  show (_ % (mask + 1)) <= mask
  have := xcb ((zbi mask n s).1 * 5 + 1 + (zbi mask n s).2 / 32) (show 0 < mask + 1 by omega)
  omega
theorem zhj {mask : Nat} (hm : mask = 7 \/ mask = 31) {s : Nat × Nat} (hs : s.1 <= mask) (hb : s.2 < 2 ^ 64) {j : Nat} (hj : j <= mask) : ∃ n, n <= mask + 13 /\ (zbi mask n s).1 = j := by
 have e : (zbi mask 13 s).2 = 0 := by rw [zel]; exact Nat.div_eq_of_lt (xak hb (by decide))
 obtain ⟨n, h1, h2⟩ := zpQ hm (znD 13 hs) hj
 refine ⟨13 + n, by omega, ?_⟩
 rw [zhi]
 have : zbi mask 13 s = ((zbi mask 13 s).1, 0) := xax rfl e
 rw [this, zgc]; exact h2
theorem znE (h : Int) : bits h < 2 ^ 64 := by
 unfold bits
 have h1 := xbu h (show (2 ^ 64 : Int) ≠ 0 by decide)
 have h2 := xb0 h (show (0 : Int) < 2 ^ 64 by decide)
 omega
theorem meets_empty {t : SetTable} (hd : t.dummies = #[]) (hm : t.mask = 7 \/ t.mask = 31) (hs : t.place.size <= t.mask) (h : Int) : ∃ k, k < 10 * turns t.mask /\ t.slot (iter t k (t.probeStart h)).j = .empty := by
 obtain ⟨j, hj, he⟩ := zmq hd (n := t.mask + 1) (by omega)
 have hi : bits h % (t.mask + 1) <= t.mask := by have := xcb (bits h) (show 0 < t.mask + 1 by omega); omega
 obtain ⟨n, h1, h2⟩ := zhj hm (s := (bits h % (t.mask + 1), bits h)) hi (znE h) (show j <= t.mask by omega)
 obtain ⟨k, hk, e⟩ := zgb (t := t) n (bits h % (t.mask + 1), bits h)
 refine ⟨k, by unfold turns; omega, ?_⟩
 have e : iter t k (t.probeStart h) = _ := e
 rw [e]
 show t.slot (zbi t.mask n (bits h % (t.mask + 1), bits h)).1 = .empty
 rw [h2]; exact he
theorem fm_all {α β : Type} (f : α -> Option β) : ∀ l : List α, (∀ a ∈ l, (f a).isSome = true) -> (l.filterMap f).length = l.length
 | [], _ => rfl
 | a :: l, h => by
  obtain ⟨b, hb⟩ := xbc.mp (h a xae)
  rw [xa7 hb, xap, xap, fm_all f l fun x hx => h x (xab _ hx)]
theorem zhO {β : Type} (f : Nat -> Option β) : ∀ l : List Nat, (l.filterMap fun j => (f j).map (j, ·)).length = (l.filterMap f).length
 | [] => rfl
 | a :: l => by
  cases h : f a with
  | none => rw [xbe (by rw [h]; rfl), xbe h, zhO f l]
  | some b => rw [xa7 (by rw [h]; rfl), xa7 h, xap, xap, zhO f l]
theorem zkV {β : Type} {f g : Nat -> Option β} : ∀ l : List Nat, (∀ x ∈ l, g x = f x) -> l.filterMap g = l.filterMap f
 | [], _ => rfl
 | a :: l, h => by
  have ih := zkV l fun x hx => h x (xab _ hx)
  have ha := h a xae
  cases e : f a with
  | none => rw [xbe e, xbe (by rw [ha]; exact e), ih]
  | some b => rw [xa7 e, xa7 (by rw [ha]; exact e), ih]
theorem zqx {β : Type} {f g : Nat -> Option β} {j : Nat} (hj : f j = none) (hg : (g j).isSome = true) (ho : ∀ i, i ≠ j -> g i = f i) : ∀ l : List Nat, l.Nodup -> j ∈ l -> (l.filterMap g).length = (l.filterMap f).length + 1
 | a :: l, hn, hm => by
  rw [xbn] at hn
  by_cases e : a = j
  ·subst e
   obtain ⟨b, hb⟩ := xbc.mp hg
   have same : l.filterMap g = l.filterMap f := zkV l fun x hx => ho x fun z => hn.1 (z ▸ hx)
   rw [xa7 hb, xbe hj, xap, same]
  ·have hm' : j ∈ l := (xaf.mp hm).elim (fun z => absurd z.symm e) id
   have ih := zqx hj hg ho l hn.2 hm'
   cases h : f a with
   | none => rw [xbe h, xbe (by rw [ho a e]; exact h), ih]
   | some b => rw [xa7 h, xa7 (by rw [ho a e]; exact h), xap, xap, ih]
def cnt (n : Nat) (owner : Array (Option Nat)) : Nat := ((List.range n).filterMap fun j => owner.getD j none).length
theorem zpR {n : Nat} {owner : Array (Option Nat)} (h : cnt n owner < n) : ∃ j, j < n /\ owner.getD j none = none := by
 refine xaw fun q => ?_
 have : cnt n owner = (List.range n).length := fm_all _ _ fun j hj => by
  cases e : owner.getD j none with
  | none => exact absurd ⟨j, xa2.mp hj, e⟩ q
  | some b => rfl
 rw [List.length_range] at this
 omega
theorem zhP {owner : Array (Option Nat)} {j : Nat} (h : j < owner.size) (a b : Option Nat) : owner.getD j a = owner.getD j b := by
 rw [xar, xar, xa4 h]; rfl
theorem zsi {mask : Nat} {owner : Array (Option Nat)} : ∀ (n fuel i perturb : Nat), (owner.getD (zbi mask n (i, perturb)).1 (some 0)).isNone = true -> n < fuel -> ∃ j, SetTable.layClean.free mask owner fuel i perturb = some j /\ (owner.getD j (some 0)).isNone = true := by
 intro n
 induction n with
 | zero =>
  intro fuel i perturb h hf
  obtain ⟨f, rfl⟩ : ∃ f, fuel = f + 1 := ⟨fuel - 1, by omega⟩
  unfold SetTable.layClean.free
  cases hx : (List.range (runEnd mask i + 1 - i)).find? fun k => (owner.getD (i + k) (some 0)).isNone with
  | some k => exact ⟨i + k, rfl, List.find?_some (p := fun k => (owner.getD (i + k) (some 0)).isNone) hx⟩
  | none =>
   have := List.find?_eq_none.mp hx 0 (xa2.mpr (by unfold runEnd; split <;> omega))
   exact absurd h this
 | succ n ih =>
  intro fuel i perturb h hf
  obtain ⟨f, rfl⟩ : ∃ f, fuel = f + 1 := ⟨fuel - 1, by omega⟩
  unfold SetTable.layClean.free
  cases hx : (List.range (runEnd mask i + 1 - i)).find? fun k => (owner.getD (i + k) (some 0)).isNone with
  | some k => exact ⟨i + k, rfl, List.find?_some (p := fun k => (owner.getD (i + k) (some 0)).isNone) hx⟩
  | none => exact ih f _ _ h (by omega)
theorem znF {mask : Nat} (hm : mask = 7 \/ mask = 31) : ∀ (hs : List Int) (owner : Array (Option Nat)) (k : Nat), owner.size = mask + 1 -> cnt (mask + 1) owner = k -> (∀ j v, owner.getD j none = some v -> v < k) -> k + hs.length <= mask + 1 ->
  ∃ owner', hs.foldl (fun acc h => do
   let (owner, k) <- acc
   let j <- SetTable.layClean.free mask owner (turns mask) (bits h % (mask + 1)) (bits h)
   pure (owner.setIfInBounds j (some k), k + 1)) (some (owner, k)) = some (owner', k + hs.length) /\ cnt (mask + 1) owner' = k + hs.length /\ ∀ j v, owner'.getD j none = some v -> v < k + hs.length
 | [], owner, k, _, h2, h3, _ => ⟨owner, rfl, h2, h3⟩
 | h :: hs, owner, k, h1, h2, h3, h4 => by
  rw [xap] at h4 ⊢
  obtain ⟨j, hj, he⟩ := zpR (n := mask + 1) (owner := owner) (by omega)
  have hi : bits h % (mask + 1) <= mask := by have := xcb (bits h) (show 0 < mask + 1 by omega); omega
  obtain ⟨n, q1, q2⟩ := zhj hm (s := (bits h % (mask + 1), bits h)) hi (znE h) (show j <= mask by omega)
  obtain ⟨j', f1, f2⟩ := zsi (mask := mask) (owner := owner) n (turns mask) (bits h % (mask + 1)) (bits h) (by rw [q2, zhP (by omega) (some 0) none, he]; rfl) (by unfold turns; omega)
  have hj' : j' < owner.size := by
   refine xaw fun z => ?_
   rw [xar, xcv (by omega)] at f2
   cases f2
  have hn : owner.getD j' none = none := by
   rw [zhP hj' none (some 0)]
   exact Option.isNone_iff_eq_none.mp f2
  have hset : ∀ i, (owner.setIfInBounds j' (some k)).getD i none = if i = j' then some k else owner.getD i none := by
   intro i
   rw [xar, xar, Array.getElem?_setIfInBounds]
   by_cases e : i = j'
   ·subst e; rw [if_pos rfl, if_pos rfl, if_pos hj']; rfl
   ·rw [if_neg (xa3 e), if_neg e]
  obtain ⟨o', g1, g2, g3⟩ := znF hm hs (owner.setIfInBounds j' (some k)) (k + 1) (by rw [Array.size_setIfInBounds]; exact h1) (by
   unfold cnt
   rw [zqx (f := fun j => owner.getD j none) (j := j') hn (by rw [hset, if_pos rfl]; rfl) (fun i hi => by rw [hset, if_neg hi]) _ List.nodup_range (xa2.mpr (by omega))]
   rw [<- h2]; rfl) (by
   intro i v hv
   rw [hset] at hv
   by_cases e : i = j'
   ·rw [if_pos e] at hv; cases hv; omega
   ·rw [if_neg e] at hv; have := h3 i v hv; omega) (by omega)
  refine ⟨o', ?_, by rw [g2]; omega, fun i v hv => by have := g3 i v hv; omega⟩
  rw [xcm]
  have e1 : (do
   let (owner, k) <- some (owner, k)
   let j <- SetTable.layClean.free mask owner (turns mask) (bits h % (mask + 1)) (bits h)
   pure (owner.setIfInBounds j (some k), k + 1)) = some (owner.setIfInBounds j' (some k), k + 1) := by
   show (SetTable.layClean.free mask owner (turns mask) (bits h % (mask + 1)) (bits h)).bind _ = _
   rw [f1]; rfl
  rw [e1, g1]
  congr 2
  omega
theorem znG (t : SetTable) (hashes : Array Int) {n : Nat} (hn : hashes.size = n) (h : n <= 32) : ∃ t' order, t.relaid hashes 20 = some (t', order) /\ t'.mask = 31 /\ t'.dummies = #[] /\ t'.place.size = n /\ order.size = n /\ ∀ k ∈ order.toList, k < n := by
 have e0 : sizeAbove 20 - 1 = 31 := by decide
 obtain ⟨o, g1, g2, g3⟩ := znF (mask := 31) (.inr rfl) hashes.toList (Array.replicate 32 none) 0 (by simp) (by decide) (by
  intro j v hv
  rw [xar, Array.getElem?_replicate] at hv
  split at hv <;> cases hv) (by rw [xan]; omega)
 rw [xbo, xan, hn] at g2
 have hl : layClean 31 hashes = some o := by
  unfold layClean
  rw [<- Array.foldl_toList, g1]; rfl
 unfold relaid
 rw [e0]
 unfold laid
 rw [hl]
 refine ⟨_, _, rfl, rfl, rfl, ?_, ?_, ?_⟩
 ·show (List.toArray _).size = n
  rw [xag, xal, zhO, <- g2]; rfl
 ·show (List.toArray _).size = n
  rw [xag, xal, zhO, <- g2]; rfl
 ·intro k hk
  rw [xcj] at hk
  obtain ⟨⟨j, v⟩, hm, rfl⟩ := xbb.mp hk
  obtain ⟨i, hi, hv⟩ := xbp.mp hm
  cases hx : o.getD i none with
  | none => rw [hx] at hv; cases hv
  | some u =>
   rw [hx] at hv
   have hv : some (i, u) = some (j, v) := hv
   cases hv
   have := g3 _ _ hx
   rw [xbo, xan, hn] at this
   exact this
end SetT
namespace SetT
open PySem.SetTable
theorem zt2 {t : SetTable} : ∀ (k : Nat) (p : Probe), k <= p.more -> (iter t k p).j = p.j + k
 | 0, p, _ => rfl
 | k + 1, p, h => by
  show (iter t k (t.advance p)).j = _
  have e : t.advance p = { p with j := p.j + 1, more := p.more - 1 } := by unfold advance; rw [if_pos (by omega)]
  rw [e, zt2 k _ (by show k <= p.more - 1; omega)]
  show p.j + 1 + k = _
  omega
theorem zqy (mask i : Nat) (h : i <= mask) : i + (runEnd mask i - i) <= mask := by unfold runEnd; split <;> omega
theorem znH {t : SetTable} : ∀ (k : Nat) (p : Probe), p.j + p.more <= t.mask -> (iter t k p).j <= t.mask
 | 0, p, h => by show p.j <= _; omega
 | k + 1, p, h => by
  show (iter t k (t.advance p)).j <= _
  refine znH k _ ?_
  unfold advance
  split
  ·show p.j + 1 + (p.more - 1) <= _; omega
  ·refine zqy _ _ ?_
   show (_ % (t.mask + 1)) <= t.mask
   have := xcb (p.i * 5 + 1 + p.perturb / 32) (show 0 < t.mask + 1 by omega)
   omega
theorem zmr {t : SetTable} {owner : Array (Option Nat)} : ∀ (fuel i perturb j : Nat), SetTable.layClean.free t.mask owner fuel i perturb = some j ->
  ∃ m, m < 10 * fuel /\ (iter t m (start t.mask i perturb)).j = j /\ (owner.getD j (some 0)).isNone = true /\ ∀ m', m' < m -> (owner.getD (iter t m' (start t.mask i perturb)).j (some 0)).isNone = false := by
 intro fuel
 induction fuel with
 | zero => intro i perturb j h; cases h
 | succ f ih =>
  intro i perturb j h
  unfold SetTable.layClean.free at h
  have hr := zkU t.mask i
  have jk : ∀ k, k <= runEnd t.mask i - i -> (iter t k (start t.mask i perturb)).j = i + k := fun k hk => zt2 k (start t.mask i perturb) hk
  cases hx : (List.range (runEnd t.mask i + 1 - i)).find? fun k => (owner.getD (i + k) (some 0)).isNone with
  | some k =>
   rw [hx] at h
   have h : some (i + k) = some j := h
   cases h
   have hp : (owner.getD (i + k) (some 0)).isNone = true := List.find?_some (p := fun k => (owner.getD (i + k) (some 0)).isNone) hx
   obtain ⟨_, as, bs, e, nb⟩ := List.find?_eq_some_iff_append.mp hx
   have hk : k < runEnd t.mask i + 1 - i := by
    have := List.mem_of_find?_eq_some hx
    exact xa2.mp this
   have re : i <= runEnd t.mask i := by unfold runEnd; split <;> omega
   refine ⟨k, by omega, jk k (by omega), hp, fun m' hm => ?_⟩
   rw [jk m' (by omega)]
   have : m' ∈ as := by
    have e2 : (as ++ k :: bs)[m']? = some m' := by rw [<- e, List.getElem?_range (by omega)]
    have ek : as.length = k := by
     have e3 : (as ++ k :: bs)[as.length]? = some k := by rw [xcf (xaj _), Nat.sub_self]; rfl
     rw [<- e, List.getElem?_range] at e3
     ·exact Option.some.inj e3
     ·have := congrArg List.length e
      rw [List.length_range, xby, xap] at this
      omega
    rw [xb4 (by omega)] at e2
    exact xbf e2
   simpa using nb m' this
  | none =>
   rw [hx] at h
   have h : SetTable.layClean.free t.mask owner f (leap t.mask i perturb).1 (leap t.mask i perturb).2 = some j := h
   obtain ⟨m, m1, m2, m3, m4⟩ := ih _ _ j h
   have rt : iter t (runEnd t.mask i - i + 1) (start t.mask i perturb) = start t.mask (leap t.mask i perturb).1 (leap t.mask i perturb).2 := znC (t := t) _ (start t.mask i perturb) rfl rfl
   have no := List.find?_eq_none.mp hx
   have re : i <= runEnd t.mask i := by unfold runEnd; split <;> omega
   refine ⟨(runEnd t.mask i - i + 1) + m, by omega, by rw [iter_add, rt]; exact m2, m3, fun m' hm => ?_⟩
   by_cases hc : m' <= runEnd t.mask i - i
   ·rw [jk m' hc]
    exact Bool.eq_false_iff.mpr (no m' (xa2.mpr (by omega)))
   ·obtain ⟨u, rfl⟩ : ∃ u, m' = (runEnd t.mask i - i + 1) + u := ⟨m' - (runEnd t.mask i - i + 1), by omega⟩
    rw [iter_add, rt]
    exact m4 u (by omega)
def zv4 (t : SetTable) (owner : Array (Option Nat)) (hf : Nat -> Int) (k : Nat) : Prop :=
 ∀ c, c < k -> ∃ j, j <= t.mask /\ owner.getD j none = some c /\ ∃ m, m < 10 * turns t.mask /\ (iter t m (t.probeStart (hf c))).j = j /\ ∀ m', m' < m -> (owner.getD (iter t m' (t.probeStart (hf c))).j none).isSome = true
theorem zhQ {t : SetTable} (h : Int) (m : Nat) : (iter t m (t.probeStart h)).j <= t.mask := by
 refine znH m _ ?_
 show bits h % (t.mask + 1) + (runEnd t.mask (bits h % (t.mask + 1)) - bits h % (t.mask + 1)) <= t.mask
 refine zqy _ _ ?_
 have := xcb (bits h) (show 0 < t.mask + 1 by omega)
 omega
theorem ziR {t : SetTable} (hf : Nat -> Int) : ∀ (hs : List Int) (owner owner' : Array (Option Nat)) (k k' : Nat), owner.size = t.mask + 1 -> (∀ i, i < hs.length -> hs[i]? = some (hf (k + i))) -> zv4 t owner hf k ->
  hs.foldl (fun acc h => do
   let (owner, k) <- acc
   let j <- SetTable.layClean.free t.mask owner (turns t.mask) (bits h % (t.mask + 1)) (bits h)
   pure (owner.setIfInBounds j (some k), k + 1)) (some (owner, k)) = some (owner', k') -> owner'.size = t.mask + 1 /\ zv4 t owner' hf (k + hs.length)
 | [], owner, owner', k, k', h1, _, h3, e => by
  have e : some (owner, k) = some (owner', k') := e
  cases e
  exact ⟨h1, h3⟩
 | h :: hs, owner, owner', k, k', h1, h2, h3, e => by
  rw [xcm] at e
  have hh : hf k = h := by have := h2 0 (by simp); simpa using this.symm
  cases hfr : SetTable.layClean.free t.mask owner (turns t.mask) (bits h % (t.mask + 1)) (bits h) with
  | none =>
   exfalso
   have e1 : (do
    let (owner, k) <- some (owner, k)
    let j <- SetTable.layClean.free t.mask owner (turns t.mask) (bits h % (t.mask + 1)) (bits h)
    pure (owner.setIfInBounds j (some k), k + 1)) = (none : Option (Array (Option Nat) × Nat)) := by
    show (SetTable.layClean.free t.mask owner (turns t.mask) (bits h % (t.mask + 1)) (bits h)).bind _ = _
    rw [hfr]; rfl
   rw [e1] at e
   have nn : ∀ l : List Int, l.foldl (fun acc h => do
    let (owner, k) <- acc
    let j <- SetTable.layClean.free t.mask owner (turns t.mask) (bits h % (t.mask + 1)) (bits h)
    pure (owner.setIfInBounds j (some k), k + 1)) (none : Option (Array (Option Nat) × Nat)) = none := by
    intro l
    induction l with
    | nil => rfl
    | cons a l ih => rw [xcm]; exact ih
   rw [nn] at e
   cases e
  | some j' =>
   have e1 : (do
    let (owner, k) <- some (owner, k)
    let j <- SetTable.layClean.free t.mask owner (turns t.mask) (bits h % (t.mask + 1)) (bits h)
    pure (owner.setIfInBounds j (some k), k + 1)) = some (owner.setIfInBounds j' (some k), k + 1) := by
    show (SetTable.layClean.free t.mask owner (turns t.mask) (bits h % (t.mask + 1)) (bits h)).bind _ = _
    rw [hfr]; rfl
   rw [e1] at e
   obtain ⟨m, m1, m2, m3, m4⟩ := zmr (t := t) _ _ _ _ hfr
   have m2 : (iter t m (t.probeStart h)).j = j' := m2
   have m4 : ∀ m', m' < m -> (owner.getD (iter t m' (t.probeStart h)).j (some 0)).isNone = false := m4
   have jl : j' <= t.mask := by rw [<- m2]; exact zhQ h m
   have hn : owner.getD j' none = none := by
    rw [zhP (by omega) none (some 0)]
    exact Option.isNone_iff_eq_none.mp m3
   have hset : ∀ i, (owner.setIfInBounds j' (some k)).getD i none = if i = j' then some k else owner.getD i none := by
    intro i
    rw [xar, xar, Array.getElem?_setIfInBounds]
    by_cases e : i = j'
    ·subst e; rw [if_pos rfl, if_pos rfl, if_pos (by omega)]; rfl
    ·rw [if_neg (xa3 e), if_neg e]
   have keep : ∀ i, (owner.getD i none).isSome = true -> ((owner.setIfInBounds j' (some k)).getD i none).isSome = true := fun i hi => by
    rw [hset]; split
    ·rfl
    ·exact hi
   have L2 : zv4 t (owner.setIfInBounds j' (some k)) hf (k + 1) := by
    intro c hc
    by_cases ec : c = k
    ·subst ec
     refine ⟨j', jl, by rw [hset, if_pos rfl], m, m1, by rw [hh]; exact m2, fun m' hm => ?_⟩
     rw [hh]
     refine keep _ ?_
     have := m4 m' hm
     rw [zhP (by have := zhQ (t := t) h m'; omega) none (some 0)]
     cases hx : owner.getD (iter t m' (t.probeStart h)).j (some 0) with
     | none => rw [hx] at this; cases this
     | some _ => rfl
    ·obtain ⟨j, j1, j2, m, n1, n2, n3⟩ := h3 c (by omega)
     refine ⟨j, j1, ?_, m, n1, n2, fun m' hm => keep _ (n3 m' hm)⟩
     rw [hset, if_neg (fun z => by rw [z, hn] at j2; cases j2)]
     exact j2
   have := ziR hf hs _ owner' (k + 1) k' (by rw [Array.size_setIfInBounds]; exact h1) (fun i hi => by
    have := h2 (i + 1) (by simp; omega)
    rw [xcu] at this
    rw [this, show k + (i + 1) = k + 1 + i by omega]) L2 e
   rw [xap, show k + (hs.length + 1) = k + 1 + hs.length by omega]
   exact this
theorem fm_get {α β : Type} (f : α -> Option β) : ∀ (l : List α), (∀ a ∈ l, (f a).isSome = true) -> ∀ i : Nat, (l.filterMap f)[i]? = (l[i]?).bind f
 | [], _, i => by simp
 | a :: l, h, i => by
  obtain ⟨b, hb⟩ := xbc.mp (h a xae)
  rw [xa7 hb]
  cases i with
  | zero => simp [hb]
  | succ i => rw [xcu, xcu]; exact fm_get f l (fun x hx => h x (xab _ hx)) i
theorem znI {β : Type} (f : Nat -> Option β) : ∀ l : List Nat, l.Pairwise (· < ·) -> ((l.filterMap fun j => (f j).map (j, ·)).map (·.1)).Pairwise (· < ·)
 | [], _ => List.Pairwise.nil
 | a :: l, h => by
  rw [xbj] at h
  cases e : f a with
  | none => rw [xbe (by rw [e]; rfl)]; exact znI f l h.2
  | some b =>
   rw [xa7 (b := (a, b)) (by rw [e]; rfl), xat, xbj]
   refine ⟨fun x hx => ?_, znI f l h.2⟩
   obtain ⟨⟨j, v⟩, hm, rfl⟩ := xbb.mp hx
   obtain ⟨i, hi, hv⟩ := xbp.mp hm
   cases hx : f i with
   | none => rw [hx] at hv; cases hv
   | some u =>
    rw [hx] at hv
    have hv : some (i, u) = some (j, v) := hv
    cases hv
    exact h.1 _ hi
theorem zqz {β : Type} {f : Nat -> Option β} {l : List Nat} {j : Nat} {b : β} (hj : j ∈ l) (hb : f j = some b) : (j, b) ∈ l.filterMap fun j => (f j).map (j, ·) := xbp.mpr ⟨j, hj, by rw [hb]; rfl⟩
end SetT
namespace DL
open L2
inductive D where
 | non | bl (b : Bool) | int (i : Int) | str (x : Str) | ty (n : String) | cls (c : Str)
 | tup (xs : List D) | lst (xs : List D) | dct (ks : List Key) (vs : List D) | exc (c : Str) (as : List D)
instance : Inhabited D := ⟨.non⟩
inductive R (α : Type) where
 | ok (a : α) | err (e : D) | bad
def R.bind {α β : Type} : R α -> (α -> R β) -> R β
 | .ok a, k => k a
 | .err e, _ => .err e
 | .bad, _ => .bad
def RW {α : Type} (r : R α) (Q : α -> Prop) (E : D -> Prop) : Prop := match r with
 | .ok a => Q a
 | .err e => E e
 | .bad => False
theorem RW.mono {α : Type} {r : R α} {Q Q' : α -> Prop} {E E' : D -> Prop} (h : RW r Q E) (hq : ∀ a, r = .ok a -> Q a -> Q' a) (he : ∀ e, E e -> E' e) : RW r Q' E' := by
 cases r with
 | ok a => exact hq a rfl h
 | err e => exact he e h
 | bad => exact h
theorem RW.of_bind {α β : Type} {r : R α} {k : α -> R β} {Q : β -> Prop} {E : D -> Prop} (h : RW (r.bind k) Q E) : RW r (fun a => RW (k a) Q E) E := by
 cases r with
 | ok a => exact h
 | err e => exact h
 | bad => exact h
def zcO : List Str := ["ChalkError", "NoPlace", "Same", "NoFloor", "Endless", "NoDeed", "NoText", "NoName", "TooMany", "NoChange", "NoFrame", "NoValue", "Unlike", "NoRatio", "NoBow", "NoRow"]
def ziS (c d : Str) : Option Bool := bif zcO.contains c && zcO.contains d then some (c == d || d == "ChalkError") else none
structure znJ (K : xFg) (mg : Str -> Option Value) (c : Str) (C : Addr) : Prop where
 here : mg c = some (.ref C)
 exc : zr6 K C
 isi : ∀ d Dd b, ziS c d = some b -> mg d = some (.ref Dd) -> PySem.W.kitOne K (.ref C) (.ref Dd) = some b
 val : PySem.W.kitOne K (.ref C) (.type "ValueError") = some true
 ctc : ∀ d Dd, ziS c d = some true -> mg d = some (.ref Dd) -> PySem.W.exmOne K (.ref C) (.ref Dd) = some true
def znK (G : Hp) (dct : Option Addr) (vs : List V) : Prop := (dct = none /\ vs = []) \/ ∃ dx v, dct = some dx /\ vs = [v] /\ G dx = some (.xd [("at", v)])
mutual
def Rep (K : xFg) (mg : Str -> Option Value) (G : Hp) : D -> V -> Prop
 | .non, v => v = .non
 | .bl b, v => v = .bl b
 | .int i, v => v = .int i
 | .str x, v => v = .str x
 | .ty n, v => v = .ty n
 | .cls c, v => ∃ C, v = .ref C /\ mg c = some (.ref C)
 | .tup ds, v => ∃ a vs, v = .ref a /\ SqT K G a vs /\ Reps K mg G ds vs
 | .lst ds, v => ∃ a vs, v = .ref a /\ SqL K G a vs /\ Reps K mg G ds vs
 | .dct ks ds, v => ∃ a vs, v = .ref a /\ Rd G a (.dK (ks.zip vs)) /\ ks.length = vs.length /\ Reps K mg G ds vs
 | .exc c as, v => ∃ x C dct vs, v = .ref x /\ G x = some (zno x C dct) /\ znJ K mg c C /\ znK G dct vs /\ Reps K mg G as vs
def Reps (K : xFg) (mg : Str -> Option Value) (G : Hp) : List D -> List V -> Prop
 | [], vs => vs = []
 | d :: ds, vs => ∃ v r, vs = v :: r /\ Rep K mg G d v /\ Reps K mg G ds r
end
def ExcR (K : xFg) (mg : Str -> Option Value) (G : Hp) (e : D) (C : Addr) (dct : Option Addr) : Prop := ∃ c as vs, e = .exc c as /\ znJ K mg c C /\ znK G dct vs /\ Reps K mg G as vs
section
variable {K : xFg} {mg : Str -> Option Value} {G G' H H' : Hp}
theorem zaI.sqT {a : Addr} {xs : List V} (e : zaI G G') (h : SqT K G a xs) : SqT K G' a xs := e.tup h
theorem zaI.rd {a : Addr} {u : HO} (e : zaI G G') (h : Rd G a u) : Rd G' a u := by
 rcases h with h | ⟨o, h⟩
 ·exact .inl (e _ _ h)
 ·exact .inr ⟨o, e _ _ h⟩
theorem znK.mono {dct : Option Addr} {vs : List V} (e : zaI G G') (h : znK G dct vs) : znK G' dct vs := by
 rcases h with h | ⟨dx, v, h1, h2, h3⟩
 ·exact .inl h
 ·exact .inr ⟨dx, v, h1, h2, e _ _ h3⟩
mutual
theorem Rep.mono (e : zaI G G') : ∀ {d : D} {v : V}, Rep K mg G d v -> Rep K mg G' d v
 | .non, _, h => h
 | .bl _, _, h => h
 | .int _, _, h => h
 | .str _, _, h => h
 | .ty _, _, h => h
 | .cls _, _, h => h
 | .tup _, _, ⟨a, vs, h1, h2, h3⟩ => ⟨a, vs, h1, zaI.sqT e h2, Reps.mono e h3⟩
 | .lst _, _, ⟨a, vs, h1, h2, h3⟩ => ⟨a, vs, h1, e.seq h2, Reps.mono e h3⟩
 | .dct _ _, _, ⟨a, vs, h1, h2, h3, h4⟩ => ⟨a, vs, h1, zaI.rd e h2, h3, Reps.mono e h4⟩
 | .exc _ _, _, ⟨x, C, dct, vs, h1, h2, h3, h4, h5⟩ => ⟨x, C, dct, vs, h1, e _ _ h2, h3, h4.mono e, Reps.mono e h5⟩
theorem Reps.mono (e : zaI G G') : ∀ {ds : List D} {vs : List V}, Reps K mg G ds vs -> Reps K mg G' ds vs
 | [], _, h => h
 | _ :: _, _, ⟨v, r, h1, h2, h3⟩ => ⟨v, r, h1, Rep.mono e h2, Reps.mono e h3⟩
end
theorem Reps.length : ∀ {ds : List D} {vs : List V}, Reps K mg G ds vs -> ds.length = vs.length
 | [], _, h => by cases h; rfl
 | _ :: _, _, ⟨v, r, h1, _, h3⟩ => by cases h1; rw [xap, xap, Reps.length h3]
theorem Reps.nil : Reps K mg G [] [] := rfl
theorem Reps.cons {d : D} {v : V} {ds : List D} {vs : List V} (h : Rep K mg G d v) (t : Reps K mg G ds vs) : Reps K mg G (d :: ds) (v :: vs) := ⟨v, vs, rfl, h, t⟩
theorem Reps.append : ∀ {ds es : List D} {vs ws : List V}, Reps K mg G ds vs -> Reps K mg G es ws -> Reps K mg G (ds ++ es) (vs ++ ws)
 | [], _, _, _, h, t => by cases h; exact t
 | _ :: _, _, _, _, ⟨v, r, h1, h2, h3⟩, t => by cases h1; exact ⟨v, r ++ _, rfl, h2, h3.append t⟩
theorem Reps.get : ∀ {ds : List D} {vs : List V} {i : Nat} {d : D}, Reps K mg G ds vs -> ds[i]? = some d -> ∃ v, vs[i]? = some v /\ Rep K mg G d v
 | [], _, _, _, _, e => by simp at e
 | _ :: _, _, 0, _, ⟨v, r, h1, h2, _⟩, e => by simp at e; subst e; subst h1; exact ⟨v, rfl, h2⟩
 | _ :: ds, _, i + 1, d, ⟨v, r, h1, _, h3⟩, e => by
  subst h1
  obtain ⟨w, e1, e2⟩ := Reps.get (i := i) (d := d) h3 (by simpa using e)
  exact ⟨w, by simpa using e1, e2⟩
theorem Reps.set : ∀ {ds : List D} {vs : List V} {d : D} {v : V} (i : Nat), Reps K mg G ds vs -> Rep K mg G d v -> Reps K mg G (ds.set i d) (vs.set i v)
 | [], _, _, _, _, h, _ => by cases h; exact rfl
 | _ :: _, _, _, _, 0, ⟨_, r, h1, _, h3⟩, h => by subst h1; exact ⟨_, r, rfl, h, h3⟩
 | _ :: _, _, _, _, i + 1, ⟨w, r, h1, h2, h3⟩, h => by subst h1; exact ⟨w, _, rfl, h2, h3.set i h⟩
theorem Reps.drop : ∀ {ds : List D} {vs : List V} (n : Nat), Reps K mg G ds vs -> Reps K mg G (ds.drop n) (vs.drop n)
 | _, _, 0, h => h
 | [], _, _ + 1, h => by cases h; exact rfl
 | _ :: _, _, n + 1, ⟨_, _, h1, _, h3⟩ => by subst h1; exact h3.drop n
theorem Reps.take : ∀ {ds : List D} {vs : List V} (n : Nat), Reps K mg G ds vs -> Reps K mg G (ds.take n) (vs.take n)
 | _, _, 0, h => by simp only [List.take_zero]; exact rfl
 | [], _, _ + 1, h => by cases h; exact rfl
 | _ :: _, _, n + 1, ⟨v, _, h1, h2, h3⟩ => by subst h1; exact ⟨v, _, rfl, h2, h3.take n⟩
theorem Reps.ints (ns : List Int) : Reps K mg G (ns.map D.int) (ns.map V.int) := by
 induction ns with
 | nil => exact rfl
 | cons n r ih => exact ⟨_, _, rfl, rfl, ih⟩
theorem Reps.of_ints : ∀ {ns : List Int} {vs : List V}, Reps K mg G (ns.map D.int) vs -> vs = ns.map V.int
 | [], _, h => h
 | _ :: _, _, ⟨_, _, h1, h2, h3⟩ => by subst h1; cases h2; rw [Reps.of_ints h3]; rfl
theorem Reps.of_bools : ∀ {bs : List Bool} {vs : List V}, Reps K mg G (bs.map D.bl) vs -> vs = bs.map V.bl
 | [], _, h => h
 | _ :: _, _, ⟨_, _, h1, h2, h3⟩ => by subst h1; cases h2; rw [Reps.of_bools h3]; rfl
theorem Reps.at {ds : List D} {vs : List V} {i : Int} {d : D} (h : Reps K mg G ds vs) (e : atI ds i = some d) : ∃ v, atI vs i = some v /\ Rep K mg G d v := by
 unfold atI at e ⊢
 rw [h.length] at e
 cases q : ixN vs.length i with
 | none => rw [q] at e; cases e
 | some j => rw [q] at e; exact h.get e
structure zbu (G H G' H' : Hp) : Prop where
 g : zaI G G'
 h : zaI H H'
 e : zaI G' H'
 c : ∀ a o, H a = some o -> G a = none -> G' a = none
theorem zbu.refl (e : zaI G H) : zbu G H G H := ⟨zaI.refl _, zaI.refl _, e, fun _ _ _ h => h⟩
theorem zbu.trans {G1 H1 : Hp} (a : zbu G H G1 H1) (b : zbu G1 H1 G' H') : zbu G H G' H' :=
 ⟨a.g.trans b.g, a.h.trans b.h, b.e, fun x o p q => b.c x o (a.h x o p) (a.c x o p q)⟩
theorem zcl {p : Addr} {o : HO} (h : H p = none) : zaI H (upd H p o) := zpy h o
theorem zbu.pub {p : Addr} {o : HO} (e : zaI G H) (h : H p = none) : zbu G H (upd G p o) (upd H p o) := by
 refine ⟨zcl (e.free h), zcl h, fun b u q => ?_, fun a u p1 q1 => ?_⟩
 ·by_cases hb : b = p
  ·subst hb; rw [zav] at q ⊢; exact q
  ·rw [zap hb] at q ⊢; exact e b u q
 ·have hb : a ≠ p := zal p1 h
  rw [zap hb]; exact q1
theorem zbu.hid {p : Addr} {o : HO} (e : zaI G H) (h : H p = none) : zbu G H G (upd H p o) :=
 ⟨zaI.refl _, zcl h, e.trans (zcl h), fun _ _ _ q => q⟩
theorem zbu.heap (e : zaI G H) (h : zaI H H') : zbu G H G H' := ⟨zaI.refl _, h, e.trans h, fun _ _ _ q => q⟩
end
abbrev DSt := List (Option D)
structure Ok0 (K : xFg) (mg : Str -> Option Value) (Zd : DSt) (Z : St) (G H : Hp) : Prop where
 ext : zaI G H
 len : Zd.length = Z.length
 val : ∀ (i : Nat) (d : D), Zd[i]? = some (some d) -> ∃ v, Z[i]? = some (some v) /\ Rep K mg G d v
section
variable {K : xFg} {mg : Str -> Option Value} {G G' H H' : Hp} {Zd : DSt} {Z : St}
theorem Ok0.step (o : Ok0 K mg Zd Z G H) (s : zbu G H G' H') : Ok0 K mg Zd Z G' H' :=
 ⟨s.e, o.len, fun i d q => let ⟨v, h1, h2⟩ := o.val i d q; ⟨v, h1, h2.mono s.g⟩⟩
theorem Ok0.set {i : Nat} {d : D} {v : V} (o : Ok0 K mg Zd Z G H) (h : Rep K mg G d v) : Ok0 K mg (Zd.set i (some d)) (Z.set i (some v)) G H := by
 refine ⟨o.ext, by simp [o.len], fun j e q => ?_⟩
 by_cases hj : j = i
 ·subst hj
  have hl : j < Zd.length := by have := (xah.mp q).1; simpa using this
  rw [xa5 hl] at q
  cases q
  exact ⟨v, by rw [xa5 (by rw [<- o.len]; exact hl)], h⟩
 ·rw [xam (xa3 hj)] at q ⊢
  exact o.val j e q
theorem Ok0.cons {x : Option D} {y : Option V} (o : Ok0 K mg Zd Z G H) (h : ∀ d, x = some d -> ∃ v, y = some v /\ Rep K mg G d v) : Ok0 K mg (x :: Zd) (y :: Z) G H := by
 refine ⟨o.ext, by simp [o.len], fun j e q => ?_⟩
 cases j with
 | zero =>
  have q' : x = some e := by simpa using q
  obtain ⟨v, h1, h2⟩ := h e q'
  exact ⟨v, by simp [h1], h2⟩
 | succ j => exact o.val j e (by simpa using q)
theorem Ok0.nones (o : Ok0 K mg Zd Z G H) : ∀ k : Nat, Ok0 K mg (List.replicate k none ++ Zd) (List.replicate k none ++ Z) G H
 | 0 => o
 | k + 1 => (Ok0.nones o k).cons (x := none) (y := none) (fun d e => by cases e)
end
section
variable (K : xFg) (mg : Str -> Option Value) (E : XK)
def zay (Q : VK) (G H : Hp) (d : D) : Prop := ∀ v G' H', zbu G H G' H' -> Rep K mg G' d v -> Q v H'
def zeO (Q : Bool -> Hp -> Prop) (G H : Hp) (b : Bool) : Prop := ∀ G' H', zbu G H G' H' -> Q b H'
def zkW (Q : List V -> Hp -> Prop) (G H : Hp) (ds : List D) : Prop := ∀ vs G' H', zbu G H G' H' -> Reps K mg G' ds vs -> Q vs H'
def ziT (Q : VK) (G H : Hp) (ds : List D) : Prop := ∀ a vs G' H', zbu G H G' H' -> H a = none -> H' a = some (.lst vs) -> G' a = none -> Reps K mg G' ds vs -> Q (.ref a) H'
def zaL (G H : Hp) (e : D) : Prop := ∀ G' H' C dct, zbu G H G' H' -> ExcR K mg G' e C dct -> E (.ref C) dct H'
def tE (f : DSt -> R D) : TE := fun Z H Q => ∃ G Zd, Ok0 K mg Zd Z G H /\ RW (f Zd) (zay K mg Q G H) (zaL K mg E G H)
def tT (f : DSt -> R Bool) : TT := fun Z H Q => ∃ G Zd, Ok0 K mg Zd Z G H /\ RW (f Zd) (zeO Q G H) (zaL K mg E G H)
def tAr (f : DSt -> R (List D)) : TA := fun Z H Q => ∃ G Zd, Ok0 K mg Zd Z G H /\ RW (f Zd) (zkW K mg Q G H) (zaL K mg E G H)
def tFr (f : DSt -> R (List D)) : TE := fun Z H Q => ∃ G Zd, Ok0 K mg Zd Z G H /\ RW (f Zd) (ziT K mg Q G H) (zaL K mg E G H)
end
def DE (X : Cx) (E : XK) (e : Expr) (f : DSt -> R D) : Prop := PE X e (tE X.K X.mg E f)
def DT (X : Cx) (E : XK) (e : Expr) (f : DSt -> R Bool) : Prop := PT X e (tT X.K X.mg E f)
def DW (X : Cx) (E : XK) (e : Expr) (f : DSt -> R Bool) : Prop := PW X e (tT X.K X.mg E f)
def DA (X : Cx) (E : XK) (es : List Expr) (f : DSt -> R (List D)) : Prop := PA X es (tAr X.K X.mg E f)
def DF (X : Cx) (E : XK) (e : Expr) (f : DSt -> R (List D)) : Prop := PE X e (tFr X.K X.mg E f)
section
variable {X : Cx} {E : XK} {K : xFg} {mg : Str -> Option Value} {G G1 H H1 : Hp}
theorem PE.mono' {e : Expr} {t t' : TE} (h : PE X e t) (m : ∀ Z H Q, t' Z H Q -> t Z H Q) : PE X e t' := fun pins s Z H Q I q => h pins s Z H Q I (m Z H Q q)
theorem PT.mono' {e : Expr} {t t' : TT} (h : PT X e t) (m : ∀ Z H Q, t' Z H Q -> t Z H Q) : PT X e t' := fun pins s Z H Q I q => h pins s Z H Q I (m Z H Q q)
theorem PW.mono' {e : Expr} {t t' : TT} (h : PW X e t) (m : ∀ Z H Q, t' Z H Q -> t Z H Q) : PW X e t' := fun wh pins s Z H Q I q => h wh pins s Z H Q I (m Z H Q q)
theorem PA.mono' {es : List Expr} {t t' : TA} (h : PA X es t) (m : ∀ Z H Q, t' Z H Q -> t Z H Q) : PA X es t' := fun pos pins s Z H Q I q => h pos pins s Z H Q I (m Z H Q q)
theorem PS.mono' {st : Stmt} {t t' : TS} (h : PS X st t) (m : ∀ D Z H, t' D Z H -> t D Z H) : PS X st t' := fun pins s Z H D I q => h pins s Z H D I (m D Z H q)
theorem PSs.mono' {st : List Stmt} {t t' : TS} (h : PSs X st t) (m : ∀ D Z H, t' D Z H -> t D Z H) : PSs X st t' := fun pins s Z H D I q => h pins s Z H D I (m D Z H q)
theorem zay.step {Q : VK} {d : D} (h : zay K mg Q G H d) (s : zbu G H G1 H1) : zay K mg Q G1 H1 d := fun v G' H' s' r => h v G' H' (s.trans s') r
theorem zaL.step {e : D} (h : zaL K mg E G H e) (s : zbu G H G1 H1) : zaL K mg E G1 H1 e := fun G' H' C dct s' r => h G' H' C dct (s.trans s') r
theorem zeO.step {Q : Bool -> Hp -> Prop} {b : Bool} (h : zeO Q G H b) (s : zbu G H G1 H1) : zeO Q G1 H1 b := fun G' H' s' => h G' H' (s.trans s')
theorem zay.now {Q : VK} {d : D} {v : V} (h : zay K mg Q G H d) (e : zaI G H) (r : Rep K mg G d v) : Q v H := h v G H (.refl e) r
theorem DF.de {e : Expr} {f : DSt -> R (List D)} (h : DF X E e f) : DE X E e (fun Z => (f Z).bind fun ds => .ok (.lst ds)) := by
 refine PE.mono' h fun Z H Q ⟨G, Zd, ok, q⟩ => ⟨G, Zd, ok, q.of_bind.mono (fun ds _ q => ?_) fun _ z => z⟩
 intro a vs G' H' s n e g r
 have q' : zay X.K X.mg Q G H (.lst ds) := q
 have sg : zaI G' (upd G' a (.lst vs)) := zcl g
 refine q' (.ref a) (upd G' a (.lst vs)) H' ⟨s.g.trans sg, s.h, fun b u p => ?_, fun b u p1 p2 => ?_⟩ ⟨a, vs, rfl, SqL.of zav, r.mono sg⟩
 ·by_cases hb : b = a
  ·subst hb; rw [zav] at p; cases p; exact e
  ·rw [zap hb] at p; exact s.e b u p
 ·have hb : b ≠ a := zal p1 n
  rw [zap hb]; exact s.c b u p1 p2
def zag (i : Nat) : DSt -> R D := fun Z => match Z[i]? with
 | some (some d) => .ok d
 | _ => .bad
theorem zaa (i : Nat) {x : Str} {pos : Pos} (hN : X.N[i]? = some x := by rfl) (hv : Vis X.env.scope x := by first | exact Or.inl rfl | exact Or.inr (Or.inl rfl) | exact Or.inr (Or.inr rfl)) (hd : (x == ("__debug__" : Str)) = false := by decide)
  (hcd : (x == ("__classdict__" : Str)) = false := by decide) : DE X E (.Name x pos) (zag i) := by
 refine PE.mono' (pv i hN hv hd hcd) fun Z H Q ⟨G, Zd, ok, q⟩ => ?_
 unfold zag at q
 split at q
 ·rename_i d e
  obtain ⟨v, h1, h2⟩ := ok.val i d e
  exact ⟨v, h1, zay.now q ok.ext h2⟩
 ·exact q.elim
def eC (d : D) : DSt -> R D := fun _ => .ok d
theorem zac {i j pos} : DE X E (.Constant (.int i) j pos) (eC (.int i)) := PE.mono' ztf fun _ _ _ ⟨_, _, ok, q⟩ => zay.now q ok.ext rfl
theorem ziU {b j pos} : DE X E (.Constant (.bool b) j pos) (eC (.bl b)) := PE.mono' zvl fun _ _ _ ⟨_, _, ok, q⟩ => zay.now q ok.ext rfl
theorem zt3 {j pos} : DE X E (.Constant .none j pos) (eC .non) := PE.mono' ztg fun _ _ _ ⟨_, _, ok, q⟩ => zay.now q ok.ext rfl
theorem zt4 {x j pos} : DE X E (.Constant (.str x) j pos) (eC (.str x)) := PE.mono' zth fun _ _ _ ⟨_, _, ok, q⟩ => zay.now q ok.ext rfl
theorem zsj {x : Str} {d : D} {v : V} {u : Value} {pos : Pos} (hm : X.mg x = some u) (r : RelV v u) (rp : ∀ G, Rep X.K X.mg G d v) (hg : Gl X x := by rfl) (hd : (x == ("__debug__" : Str)) = false := by decide) : DE X E (.Name x pos) (eC d) :=
 PE.mono' (zrI hg hm r hd) fun _ _ _ ⟨_, _, ok, q⟩ => zay.now q ok.ext (rp _)
theorem zcD {x : Str} {C : Addr} {pos : Pos} (hm : X.mg x = some (.ref C)) (hg : Gl X x := by rfl) (hd : (x == ("__debug__" : Str)) = false := by decide) : DE X E (.Name x pos) (eC (.cls x)) :=
 zsj hm (v := .ref C) rfl (fun _ => ⟨C, rfl, hm⟩) hg hd
theorem zkb {x : Str} {n : String} {pos : Pos} (hm : X.mg x = none) (hv : bootBuiltins x = some (.type n) := by rfl) (hg : Gl X x := by rfl) (hn : x ≠ "__name__" := by decide) (hd : (x == ("__debug__" : Str)) = false := by decide) : DE X E (.Name x pos) (eC (.ty n)) :=
 PE.mono' (zrJ hg hm hv (v := .ty n) rfl hn hd) fun _ _ _ ⟨_, _, ok, q⟩ => zay.now q ok.ext rfl
def eBad {α : Type} : DSt -> R α := fun _ => .bad
def OpD (K : xFg) (mg : Str -> Option Value) (r : R2) (g : D -> D -> R D) : Prop :=
 ∀ (G H : Hp) (a b : D) (x y : V) (Q : VK), zaI G H -> Rep K mg G a x -> Rep K mg G b y -> RW (g a b) (zay K mg Q G H) (fun _ => False) -> r x y H Q
def eOp (g : D -> D -> R D) (fa fb : DSt -> R D) : DSt -> R D := fun Z => (fa Z).bind fun x => (fb Z).bind fun y => g x y
theorem zeF {f : DSt -> R D} {α : Type} {k : D -> R α} {Z : St} {H : Hp} {Q : VK} {P : Hp -> Hp -> α -> Prop} {G : Hp} {Zd : DSt}
  (ok : Ok0 K mg Zd Z G H) (q : RW ((f Zd).bind k) (P G H) (zaL K mg E G H))
  (h : ∀ d v G' H', zbu G H G' H' -> Ok0 K mg Zd Z G' H' -> Rep K mg G' d v -> RW (k d) (P G H) (zaL K mg E G' H') -> Q v H') : tE K mg E f Z H Q :=
 ⟨G, Zd, ok, q.of_bind.mono (fun d _ q v G' H' s r => h d v G' H' s (ok.step s) r (q.mono (fun _ _ z => z) fun e z => z.step s)) fun _ z => z⟩
theorem noX {α : Type} {r : R α} {Q : α -> Prop} {E' : D -> Prop} (hr : ∀ e, r ≠ .err e) (h : RW r Q E') : RW r Q (fun _ => False) := by
 cases r with
 | ok a => exact h
 | err e => exact absurd rfl (hr e)
 | bad => exact h
def zhR (g : D -> D -> R D) : Prop := ∀ a b e, g a b ≠ .err e
theorem zkX {r : R2} {g : D -> D -> R D} (hd : OpD X.K X.mg r g) (hn : zhR g) {fa fb : DSt -> R D} {Z : St} {H : Hp} {Q : VK} (h : tE X.K X.mg E (eOp g fa fb) Z H Q) : tOp r (tE X.K X.mg E fa) (tE X.K X.mg E fb) Z H Q := by
 obtain ⟨G, Zd, ok, q⟩ := h
 refine zeF (P := zay X.K X.mg Q) ok q fun a x G1 H1 s1 ok1 r1 q1 => ?_
 refine zeF (P := fun _ _ => zay X.K X.mg Q G H) ok1 q1 fun b y G2 H2 s2 ok2 r2 q2 => ?_
 exact hd G2 H2 a b x y Q ok2.ext (r1.mono s2.g) r2 (noX (hn a b) (q2.mono (fun _ _ z => z.step (s1.trans s2)) fun _ z => z))
variable {a b c : Expr} {fa fb fc : DSt -> R D} {pos : Pos}
theorem zms {op : Operator} {r : R2} {g : D -> D -> R D} (ho : OpR X (binaryOp op) r) (hd : OpD X.K X.mg r g) (hn : zhR g) (ha : DE X E a fa) (hb : DE X E b fb) : DE X E (.BinOp a op b pos) (eOp g fa fb) :=
 PE.mono' (zvu ho ha hb) fun _ _ _ h => zkX hd hn h
theorem zt5 {op : CmpOp} {r : R2} {g : D -> D -> R D} (ho : OpR X (compareOp op) r) (hd : OpD X.K X.mg r g) (hn : zhR g) (ha : DE X E a fa) (hb : DE X E b fb) (hm : behindInMarks op b = false := by first | exact zak _ (by decide) (by decide) | rfl) : DE X E (.Compare a [op] [b] pos) (eOp g fa fb) :=
 PE.mono' (zrS ho ha hb hm) fun _ _ _ h => zkX hd hn h
def asB : D -> R Bool
 | .bl b => .ok b
 | _ => .bad
def zaJ (f : DSt -> R D) : DSt -> R Bool := fun Z => (f Z).bind asB
theorem zkY {t : TE} {f : DSt -> R D} (h : ∀ Z H Q, tE X.K X.mg E f Z H Q -> t Z H Q) {Z : St} {H : Hp} {Q : Bool -> Hp -> Prop} (q : tT X.K X.mg E (zaJ f) Z H Q) : ztC t Z H Q := by
 obtain ⟨G, Zd, ok, q⟩ := q
 refine h Z H _ ⟨G, Zd, ok, q.of_bind.mono (fun d _ q v G' H' s r => ?_) fun _ z => z⟩
 cases d with
 | bl k => cases r; exact ⟨k, rfl, (show zeO Q G H k from q) G' H' s⟩
 | _ => exact (show False from q).elim
theorem zt6 {op : CmpOp} {r : R2} {g : D -> D -> R D} (ho : OpR X (compareOp op) r) (hd : OpD X.K X.mg r g) (hn : zhR g) (ha : DE X E a fa) (hb : DE X E b fb) (hm : behindInMarks op b = false := by first | exact zak _ (by decide) (by decide) | rfl) : DT X E (.Compare a [op] [b] pos) (zaJ (eOp g fa fb)) :=
 PT.mono' (zrT ho ha hb hm) fun _ _ _ q => zkY (fun _ _ _ h => zkX hd hn h) q
def zt7 (g g' : D -> D -> R D) (fa fb fc : DSt -> R D) : DSt -> R D := fun Z => (fa Z).bind fun x => (fb Z).bind fun y => (g x y).bind fun z => (asB z).bind fun k => bif k then (fc Z).bind fun w => g' y w else .ok (.bl false)
theorem zem {e : Expr} {f : DSt -> R D} (h : DE X E e f) (he : ∀ whole, isTrue e X.env whole = (do let v <- whole; standAt e.pos; holding [v] (truthy v)) := by intro _; rfl) : DT X E e (zaJ f) :=
 PT.mono' (zti h he) fun Z H Q q => zkY (t := tE X.K X.mg E f) (fun _ _ _ h => h) q
theorem DW.dt {e : Expr} {f : DSt -> R Bool} (h : DW X E e f) : DT X E e f := h _
variable {zch : List Expr} {ga gb : DSt -> R Bool}
def zs4 (fa fb : DSt -> R Bool) : DSt -> R Bool := fun Z => (fa Z).bind fun k => bif k then fb Z else .ok false
def eOr (fa fb : DSt -> R Bool) : DSt -> R Bool := fun Z => (fa Z).bind fun k => bif k then .ok true else fb Z
def zph (fa : DSt -> R Bool) : DSt -> R Bool := fun Z => (fa Z).bind fun k => .ok (!k)
theorem zkc {f : DSt -> R Bool} {α : Type} {k : Bool -> R α} {Z : St} {H : Hp} {Q : Bool -> Hp -> Prop} {P : α -> Prop} {G : Hp} {Zd : DSt}
  (ok : Ok0 K mg Zd Z G H) (q : RW ((f Zd).bind k) P (zaL K mg E G H))
  (h : ∀ b G' H', zbu G H G' H' -> Ok0 K mg Zd Z G' H' -> RW (k b) P (zaL K mg E G' H') -> Q b H') : tT K mg E f Z H Q :=
 ⟨G, Zd, ok, q.of_bind.mono (fun d _ q G' H' s => h d G' H' s (ok.step s) (q.mono (fun _ _ z => z) fun e z => z.step s)) fun _ z => z⟩
theorem zkd (ha : DT X E a ga) : DW X E (.BoolOp .And [a] pos) ga := zrK ha
theorem zhk (ha : DT X E a ga) : DW X E (.BoolOp .Or [a] pos) ga := ztj ha
theorem zkZ (ha : DT X E a ga) (hb : DW X E (.BoolOp .And (b :: zch) pos) gb) : DW X E (.BoolOp .And (a :: b :: zch) pos) (zs4 ga gb) := by
 refine PW.mono' (ztk ha hb) fun Z H Q ⟨G, Zd, ok, q⟩ => ?_
 refine zkc ok q fun k G' H' s ok' q' => ?_
 cases k with
 | true => rw [if_pos rfl]; exact ⟨G', Zd, ok', q'.mono (fun _ _ z => z.step s) fun _ z => z⟩
 | false => rw [if_neg xa1]; exact (show zeO Q G H false from q') G' H' s
theorem zke (ha : DT X E a ga) (hb : DW X E (.BoolOp .Or (b :: zch) pos) gb) : DW X E (.BoolOp .Or (a :: b :: zch) pos) (eOr ga gb) := by
 refine PW.mono' (zvm ha hb) fun Z H Q ⟨G, Zd, ok, q⟩ => ?_
 refine zkc ok q fun k G' H' s ok' q' => ?_
 cases k with
 | true => rw [if_pos rfl]; exact (show zeO Q G H true from q') G' H' s
 | false => rw [if_neg xa1]; exact ⟨G', Zd, ok', q'.mono (fun _ _ z => z.step s) fun _ z => z⟩
theorem zfq (ha : DT X E a ga) : DT X E (.UnaryOp .Not a pos) (zph ga) := by
 refine PT.mono' (ztl ha) fun Z H Q ⟨G, Zd, ok, q⟩ => ?_
 exact zkc ok q fun k G' H' s _ q' => (show zeO Q G H (!k) from q') G' H' s
def zpS (fa fb : DSt -> R D) : DSt -> R D := fun Z => (fa Z).bind fun x => (asB x).bind fun k => bif k then fb Z else .ok (.bl false)
def vOr (fa fb : DSt -> R D) : DSt -> R D := fun Z => (fa Z).bind fun x => (asB x).bind fun k => bif k then .ok (.bl true) else fb Z
def zt8 (fa : DSt -> R D) : DSt -> R D := fun Z => (fa Z).bind fun x => (asB x).bind fun k => .ok (.bl !k)
theorem ziV {op} {f : DSt -> R D} (h : DE X E a f) : DE X E (.BoolOp op [a] pos) f := ztm h
theorem zgd (ha : DE X E a fa) (hb : DE X E (.BoolOp .And (b :: zch) pos) fb) : DE X E (.BoolOp .And (a :: b :: zch) pos) (zpS fa fb) := by
 refine PE.mono' (ztn ha hb) fun Z H Q ⟨G, Zd, ok, q⟩ => ?_
 refine zeF (P := zay X.K X.mg Q) ok q fun d v G' H' s ok' r q' => ?_
 cases d with
 | bl k =>
  cases r
  refine ⟨k, rfl, ?_⟩
  cases k with
  | true => rw [if_pos rfl]; exact ⟨G', Zd, ok', q'.mono (fun _ _ z => z.step s) fun _ z => z⟩
  | false => rw [if_neg xa1]; exact (show zay X.K X.mg Q G H (.bl false) from q') _ G' H' s rfl
 | _ => exact (show False from q').elim
theorem znL (ha : DE X E a fa) : DE X E (.UnaryOp .Not a pos) (zt8 fa) := by
 refine PE.mono' (zto ha) fun Z H Q ⟨G, Zd, ok, q⟩ => ?_
 refine zeF (P := zay X.K X.mg Q) ok q fun d v G' H' s ok' r q' => ?_
 cases d with
 | bl k => cases r; exact ⟨k, rfl, (show zay X.K X.mg Q G H (.bl !k) from q') _ G' H' s rfl⟩
 | _ => exact (show False from q').elim
def eIf (c : DSt -> R Bool) (fa fb : DSt -> R D) : DSt -> R D := fun Z => (c Z).bind fun k => bif k then fa Z else fb Z
def UnD (K : xFg) (mg : Str -> Option Value) (r : V -> Hp -> VK -> Prop) (g : D -> R D) : Prop :=
 ∀ (G H : Hp) (a : D) (x : V) (Q : VK), zaI G H -> Rep K mg G a x -> RW (g a) (zay K mg Q G H) (fun _ => False) -> r x H Q
def eUn (g : D -> R D) (fa : DSt -> R D) : DSt -> R D := fun Z => (fa Z).bind g
theorem zv5 {op : UnaryOp} {r : V -> Hp -> VK -> Prop} {g : D -> R D} (ho : UnR X (unaryOp op) r) (hd : UnD X.K X.mg r g) (hn : ∀ a e, g a ≠ .err e) (ha : DE X E a fa) : DE X E (.UnaryOp op a pos) (eUn g fa) := by
 refine PE.mono' (zvv ho ha) fun Z H Q ⟨G, Zd, ok, q⟩ => ?_
 refine zeF (P := zay X.K X.mg Q) ok q fun d v G' H' s ok' r q' => ?_
 exact hd G' H' d v Q ok'.ext r (noX (hn d) (q'.mono (fun _ _ z => z.step s) fun _ z => z))
def zaC : DSt -> R (List D) := fun _ => .ok []
def zad (fa : DSt -> R D) (fs : DSt -> R (List D)) : DSt -> R (List D) := fun Z => (fa Z).bind fun x => (fs Z).bind fun xs => .ok (x :: xs)
variable {es : List Expr} {fs : DSt -> R (List D)}
theorem zah : DA X E [] zaC := PA.mono' znb fun Z H Q ⟨G, Zd, ok, q⟩ => (show zkW X.K X.mg Q G H [] from q) [] G H (.refl ok.ext) Reps.nil
theorem zab (ha : DE X E a fa) (hr : DA X E es fs) (hs : starEach (a :: es) X.env = (false, eval a X.env) :: starEach es X.env := by rfl) : DA X E (a :: es) (zad fa fs) := by
 refine PA.mono' (zj5 ha hr hs) fun Z H Q ⟨G, Zd, ok, q⟩ => ?_
 refine zeF (P := zkW X.K X.mg Q) ok q fun d v G' H' s ok' r q' => ?_
 refine ⟨G', Zd, ok', q'.of_bind.mono (fun ds _ z vs G2 H2 s2 r2 => ?_) fun _ z => z⟩
 exact (show zkW X.K X.mg Q G H (d :: ds) from z) _ G2 H2 (s.trans s2) (Reps.cons (r.mono s2.g) r2)
def few (n : Nat) : Bool := decide (n <= 1000)
theorem znM {n : Nat} (h : few n = true) : n <= sizeLine := zvO (of_decide_eq_true h)
def zj1 (fs : DSt -> R (List D)) : DSt -> R D := fun Z => (fs Z).bind fun ds => bif few ds.length then .ok (.tup ds) else .bad
theorem znN {α : Type} {k : List D -> R α} {Z : St} {H : Hp} {Q : List V -> Hp -> Prop} {P : α -> Prop} {G : Hp} {Zd : DSt}
  (ok : Ok0 K mg Zd Z G H) (q : RW ((fs Zd).bind k) P (zaL K mg E G H))
  (h : ∀ ds vs G' H', zbu G H G' H' -> Ok0 K mg Zd Z G' H' -> Reps K mg G' ds vs -> RW (k ds) P (zaL K mg E G' H') -> Q vs H') : tAr K mg E fs Z H Q :=
 ⟨G, Zd, ok, q.of_bind.mono (fun ds _ q vs G' H' s r => h ds vs G' H' s (ok.step s) r (q.mono (fun _ _ z => z) fun e z => z.step s)) fun _ z => z⟩
theorem zcP {x1} (h : DA X E es fs) : DE X E (.Tuple es x1 pos) (zj1 fs) := by
 refine PE.mono' (ztD h) fun Z H Q ⟨G, Zd, ok, q⟩ => ?_
 refine znN (P := zay X.K X.mg Q G H) ok q fun ds vs G' H' s ok' r q' => ?_
 cases hf : few ds.length with
 | false => rw [hf] at q'; exact (show False from q').elim
 | true =>
  rw [hf] at q'
  have q2 : zay X.K X.mg Q G H (.tup ds) := q'
  refine ⟨by rw [<- r.length]; exact znM hf, fun p hp => ?_⟩
  have s2 : zbu G' H' (upd G' p (.tup vs)) (upd H' p (.tup vs)) := .pub ok'.ext hp
  exact q2 _ _ _ (s.trans s2) ⟨p, vs, rfl, SqT.of zav, r.mono s2.g⟩
def zhl (fs : DSt -> R (List D)) : DSt -> R (List D) := fun Z => (fs Z).bind fun ds => bif few ds.length then .ok ds else .bad
theorem zbP (h : DA X E es fs) : DF X E (.List es pos) (zhl fs) := by
 refine PE.mono' (ztE h) fun Z H Q ⟨G, Zd, ok, q⟩ => ?_
 refine znN (P := ziT X.K X.mg Q G H) ok q fun ds vs G' H' s ok' r q' => ?_
 cases hf : few ds.length with
 | false => rw [hf] at q'; exact (show False from q').elim
 | true =>
  rw [hf] at q'
  have q2 : ziT X.K X.mg Q G H ds := q'
  refine ⟨by rw [<- r.length]; exact znM hf, fun p hp => ?_⟩
  exact q2 p vs G' _ (s.trans (.hid ok'.ext hp)) (s.h.free hp) zav (ok'.ext.free hp) r
def gIx : D -> D -> R D
 | .tup xs, .int i => match atI xs i with
  | some d => .ok d
  | none => .bad
 | .lst xs, .int i => match atI xs i with
  | some d => .ok d
  | none => .bad
 | _, _ => .bad
theorem zv6 : zhR gIx := by
 intro a b e h
 cases a <;> cases b <;> simp only [gIx] at h <;> first | exact absurd h (by simp) | (split at h <;> cases h)
theorem zv7 : OpD K mg (fun x y H Q => rIxL K x y H Q \/ rIxT K x y H Q) gIx := by
 intro G H a b x y Q e ra rb q
 cases b with
 | int i =>
  cases rb
  cases a with
  | lst xs =>
   obtain ⟨p, vs, rfl, h1, h2⟩ := ra
   cases ed : atI xs i with
   | none => simp only [gIx, ed] at q; exact q.elim
   | some d =>
    simp only [gIx, ed] at q
    obtain ⟨v, h3, h4⟩ := h2.at ed
    exact .inl ⟨p, vs, i, v, rfl, rfl, e.seq h1, h3, zay.now q e h4⟩
  | tup xs =>
   obtain ⟨p, vs, rfl, h1, h2⟩ := ra
   cases ed : atI xs i with
   | none => simp only [gIx, ed] at q; exact q.elim
   | some d =>
    simp only [gIx, ed] at q
    obtain ⟨v, h3, h4⟩ := h2.at ed
    exact .inr ⟨p, vs, i, v, rfl, rfl, zaI.sqT e h1, h3, zay.now q e h4⟩
  | _ => exact (show False from q).elim
 | _ => cases a <;> exact (show False from q).elim
theorem zaj (ha : DE X E a fa) (hb : DE X E b fb) (hs : zng b := by intro _ _; rfl) : DE X E (.Subscript a b pos) (eOp gIx fa fb) :=
 PE.mono' (zvE (zr0.or ztJ) ha hb hs) fun _ _ _ h => zkX zv7 zv6 h
end
def spD (K : xFg) (mg : Str -> Option Value) (m : List D -> R D) : Sp := fun vs H Q E => ∃ G ds, zaI G H /\ Reps K mg G ds vs /\ RW (m ds) (zay K mg Q G H) (zaL K mg E G H)
structure zax (P : Program) (w : World) (K : xFg) (mg : Str -> Option Value) (base : Heap) (k : Nat) (x : Str) (m : List D -> R D) : Prop where
 ex : ∃ (f : Addr) (fd : FuncData) (ps : List Str), zhe P w K mg base (CXe P w) k f fd ps (spD K mg m) /\ mg x = some (.ref f) /\ PySem.W.keepIn K (.ref f) = true /\ za6 K fd ps []
theorem zax.mono {P : Program} {w : World} {K : xFg} {mg : Str -> Option Value} {base : Heap} {j k : Nat} {x : Str} {m : List D -> R D} (F : zax P w K mg base j x m) (h : j <= k) : zax P w K mg base k x m := by
 obtain ⟨f, fd, ps, h1, h2⟩ := F.ex
 exact ⟨f, fd, ps, h1.mono h, h2⟩
structure XC (X : Cx) (E : XK) (k : Nat) : Prop where
 calm : X.calm = true
 room : zfP k X.A
 pass : zix (CXe X.prog X.w) X E
def zaF (m : List D -> R D) (fs : DSt -> R (List D)) : DSt -> R D := fun Z => (fs Z).bind m
def zg2 (K : xFg) (mg : Str -> Option Value) (r : List V -> Hp -> VK -> Prop) (g : List D -> R D) : Prop :=
 ∀ (G H : Hp) (ds : List D) (vs : List V) (Q : VK), zaI G H -> Reps K mg G ds vs -> RW (g ds) (zay K mg Q G H) (fun _ => False) -> r vs H Q
def R.noerr {α : Type} : R α -> R α
 | .ok a => .ok a
 | _ => .bad
def zdP (g : List D -> R D) (fs : DSt -> R (List D)) : DSt -> R D := fun Z => (fs Z).bind fun ds => (g ds).noerr
theorem zd8 {α : Type} {r : R α} {Q : α -> Prop} {E' : D -> Prop} (h : RW r.noerr Q E') : ∃ a, r = .ok a /\ Q a := by
 cases r with
 | ok a => exact ⟨a, rfl, h⟩
 | err e => exact (show False from h).elim
 | bad => exact (show False from h).elim
section
variable {X : Cx} {E : XK} {k : Nat} {x : Str} {m : List D -> R D} {p pos : Pos} {e : Expr} {es : List Expr} {fs : DSt -> R (List D)}
theorem zam (C : XC X E k) (F : zax X.prog X.w X.K X.mg X.base k x m) (ha : DA X E (e :: es) fs) (hg : Gl X x := by rfl) (hdb : (x == ("__debug__" : Str)) = false := by decide)
  (he : starEach (e :: es) X.env = (false, eval e X.env) :: starEach es X.env := by rfl) (hpl : (backTo pos (starEach es X.env)).any (·.1) = false := by rfl) : DE X E (.Call (.Name x p) (e :: es) [] pos) (zaF m fs) := by
 obtain ⟨f, fd, ps, h1, h2, h3, h4⟩ := F.ex
 refine PE.mono' (zrU h1 C.room hg h2 h3 h4 .nil C.pass ha hdb he hpl) fun Z H Q ⟨G, Zd, ok, q⟩ => ?_
 refine ⟨G, Zd, ok, q.of_bind.mono (fun ds hds z vs G' H' s r => ?_) fun _ z => z⟩
 show spD X.K X.mg m (vs ++ []) H' Q E
 rw [xb9]
 exact ⟨G', ds, s.e, r, z.mono (fun _ _ z => z.step s) fun _ z => z.step s⟩
theorem zge {id : String} {r : List V -> Hp -> VK -> Prop} {g : List D -> R D} (hc : zdd X (.builtin id) r) (hd : zg2 X.K X.mg r g) (hm : X.mg x = none) (hv : bootBuiltins x = some (.builtin id)) (ha : DA X E (e :: es) fs) (hg : Gl X x := by rfl) (hn : x ≠ "__name__" := by decide) (hdb : (x == ("__debug__" : Str)) = false := by decide)
  (he : starEach (e :: es) X.env = (false, eval e X.env) :: starEach es X.env := by rfl) (hpl : (backTo pos (starEach es X.env)).any (·.1) = false := by rfl) : DE X E (.Call (.Name x p) (e :: es) [] pos) (zdP g fs) := by
 refine PE.mono' (zhG hc hg hm hv ha hn hdb he hpl) fun Z H Q ⟨G, Zd, ok, q⟩ => ?_
 refine ⟨G, Zd, ok, q.of_bind.mono (fun ds _ z vs G' H' s r => ?_) fun _ z => z⟩
 obtain ⟨d, e1, z⟩ := zd8 z
 exact hd G' H' ds vs Q s.e r (by rw [e1]; exact z.step s)
end
def setAll {α : Type} : List (Option α) -> List Nat -> List α -> List (Option α)
 | Z, k :: ks, v :: vs => setAll (Z.set k (some v)) ks vs
 | Z, _, _ => Z
theorem zhm {α : Type} : ∀ (ks : List Nat) (Z : List (Option α)) (vs : List α), (setAll Z ks vs).length = Z.length
 | [], _, _ => by unfold setAll; rfl
 | _ :: _, _, [] => by unfold setAll; rfl
 | _ :: ks, Z, _ :: vs => by unfold setAll; rw [zhm ks]; simp
theorem ziW {α : Type} {j : Nat} : ∀ (ks : List Nat) (Z : List (Option α)) (vs : List α), j ∉ ks -> (setAll Z ks vs)[j]? = Z[j]?
 | [], _, _, _ => by unfold setAll; rfl
 | _ :: _, _, [], _ => by unfold setAll; rfl
 | k :: ks, Z, _ :: vs, h => by
  unfold setAll
  rw [ziW ks _ vs fun z => h (xab _ z), xam (fun z => h (by rw [<- z]; exact xae))]
def tG (K : xFg) (mg : Str -> Option Value) (ks : List Nat) (gp : D -> R (List D)) : TG := fun v Z H Q => ∃ G d, zaI G H /\ Rep K mg G d v /\ RW (gp d) (fun us => ∀ ws, Reps K mg G us ws -> Q (setAll Z ks ws) H) (fun _ => False)
def DG (X : Cx) (tg : Expr) (ks : List Nat) (gp : D -> R (List D)) : Prop := PG X tg (tG X.K X.mg ks gp)
def zaR : D -> R (List D) := fun d => .ok [d]
def zff (n : Nat) : D -> R (List D)
 | .tup ds => bif ds.length == n then .ok ds else .bad
 | .lst ds => bif ds.length == n then .ok ds else .bad
 | _ => .bad
section
variable {X : Cx} {pos : Pos}
theorem PG.mono' {tg : Expr} {t t' : TG} (h : PG X tg t) (m : ∀ v Z H Q, t' v Z H Q -> t v Z H Q) : PG X tg t' := fun pins s Z H v u Q I r q => h pins s Z H v u Q I r (m v Z H Q q)
theorem PG.or {tg : Expr} {t t' : TG} (h : PG X tg t) (h' : PG X tg t') : PG X tg (fun v Z H Q => t v Z H Q \/ t' v Z H Q) := fun pins s Z H v u Q I r q => by
 rcases q with q | q
 ·exact h pins s Z H v u Q I r q
 ·exact h' pins s Z H v u Q I r q
theorem za1 (i : Nat) {x : Str} (hN : X.N.Nodup) (hi : X.N[i]? = some x := by rfl) (hx : Loc X.env.scope x := by first | exact Or.inl rfl | exact Or.inr rfl) (hf : X.fn x = true \/ X.env.scope.names.lookup x = some .local := by first | exact .inl rfl | exact .inr rfl | assumption) : DG X (.Name x pos) [i] zaR :=
 PG.mono' (zcA hN hi hx hf) fun v Z H Q ⟨G, d, e, r, q⟩ => by
  have q' := (show ∀ ws, Reps X.K X.mg G [d] ws -> Q (setAll Z [i] ws) H from q) [v] (Reps.cons r Reps.nil)
  exact q'
def znO : List Nat -> TGs
 | [] => gNil
 | i :: r => ztr (ziu i) (znO r)
theorem zgf : ∀ (ks : List Nat) (vs : List V) (Z : St) (H : Hp) (Q : St -> Hp -> Prop), vs.length = ks.length -> Q (setAll Z ks vs) H -> znO ks vs Z H Q
 | [], [], _, _, _, _, q => ⟨rfl, q⟩
 | i :: r, v :: vs, Z, H, Q, hl, q => ⟨v, vs, rfl, zgf r vs _ H Q (by simpa using hl) q⟩
theorem znP {es : List Expr} {k : Nat} (ks : List Nat) (n : Nat) (hc : X.calm = true) (h : PGs X es (znO ks)) (hk : ks.length = n := by rfl)
  (hn : (assignEach es X.env).length = n := by rfl) (hst : (assignEach es X.env).findIdx? (·.1) = none := by rfl) : DG X (.Tuple es k pos) ks (zff n) := by
 refine PG.mono' (PG.or (zts hc h hn hst) (ztN hc h hn hst)) fun v Z H Q ⟨G, d, e, r, q⟩ => ?_
 cases d with
 | tup ds =>
  obtain ⟨a, vs, rfl, h1, h2⟩ := r
  by_cases hd : ds.length = n
  ·have q' : ∀ ws, Reps X.K X.mg G ds ws -> Q (setAll Z ks ws) H := by
    simp only [zff, hd, beq_self_eq_true, cond_true] at q; exact q
   exact .inl ⟨a, vs, rfl, zaI.sqT e h1, by rw [<- h2.length]; exact hd, zgf ks vs Z H Q (by rw [<- h2.length, hd, hk]) (q' vs h2)⟩
  ·have : (ds.length == n) = false := by simpa using hd
   simp only [zff, this, cond_false] at q; exact q.elim
 | lst ds =>
  obtain ⟨a, vs, rfl, h1, h2⟩ := r
  by_cases hd : ds.length = n
  ·have q' : ∀ ws, Reps X.K X.mg G ds ws -> Q (setAll Z ks ws) H := by
    simp only [zff, hd, beq_self_eq_true, cond_true] at q; exact q
   exact .inr ⟨a, vs, rfl, e.seq h1, by rw [<- h2.length]; exact hd, zgf ks vs Z H Q (by rw [<- h2.length, hd, hk]) (q' vs h2)⟩
  ·have : (ds.length == n) = false := by simpa using hd
   simp only [zff, this, cond_false] at q; exact q.elim
 | _ => exact (show False from q).elim
end
theorem Ok0.setAll {K : xFg} {mg : Str -> Option Value} {G H : Hp} : ∀ {ks : List Nat} {us : List D} {ws : List V} {Zd : DSt} {Z : St}, Ok0 K mg Zd Z G H -> Reps K mg G us ws -> Ok0 K mg (setAll Zd ks us) (setAll Z ks ws) G H
 | [], _, _, _, _, o, _ => by unfold DL.setAll; exact o
 | _ :: _, [], _, _, _, o, h => by cases h; unfold DL.setAll; exact o
 | k :: ks, _ :: _, _, _, _, o, ⟨v, r, h1, h2, h3⟩ => by subst h1; unfold DL.setAll; exact Ok0.setAll (o.set h2) h3
structure zhS (K : xFg) (mg : Str -> Option Value) (J : It) (G : Hp) (ds : List D) : Prop where
 stop : ∀ H, zaI G H -> J.stop ds.length H
 turn : ∀ (H : Hp) (i : Nat) (d : D), zaI G H -> ds[i]? = some d -> J.go i H /\ ∀ x H', J.yld i H x H' -> ∀ G1, zaI G G1 -> zaI G1 H -> ∃ G2, zbu G1 H G2 H' /\ Rep K mg G2 d x
def tI (K : xFg) (mg : Str -> Option Value) (E : XK) (f : DSt -> R (List D)) : TI := fun Z H R => ∃ G Zd, Ok0 K mg Zd Z G H /\ RW (f Zd) (fun ds => ∀ J G' H', zbu G H G' H' -> zhS K mg J G' ds -> R J H') (zaL K mg E G H)
def DI (X : Cx) (E : XK) (tg iter : Expr) (f : DSt -> R (List D)) : Prop := PI X tg iter (tI X.K X.mg E f)
section
variable {X : Cx} {E : XK} {tg : Expr}
theorem PI.mono' {iter : Expr} {t t' : TI} (h : PI X tg iter t) (m : ∀ Z H R, t' Z H R -> t Z H R) : PI X tg iter t' := fun pins s Z H R I q => h pins s Z H R I (m Z H R q)
theorem zhS.list {K : xFg} {mg : Str -> Option Value} {G : Hp} {a : Addr} {vs : List V} {ds : List D} (h : SqL K G a vs) (r : Reps K mg G ds vs) : zhS K mg (Itl K a) G ds := by
 refine ⟨fun H e => by rw [r.length]; exact (lgo (e.seq h)).1, fun H i d e hd => ?_⟩
 have hi : i < vs.length := by rw [<- r.length]; exact (xah.mp hd).1
 obtain ⟨g1, g2⟩ := (lgo (e.seq h)).2 i hi
 refine ⟨g1, fun x H' y G1 e1 e2 => ?_⟩
 obtain ⟨rfl, hx⟩ := g2 x H' y
 obtain ⟨v, h1, h2⟩ := r.get hd
 rw [hx] at h1; cases h1
 exact ⟨G1, .refl e2, h2.mono e1⟩
theorem zhS.tup {K : xFg} {mg : Str -> Option Value} {G : Hp} {a : Addr} {vs : List V} {ds : List D} (h : SqT K G a vs) (r : Reps K mg G ds vs) : zhS K mg (Itt K a) G ds := by
 refine ⟨fun H e => by rw [r.length]; exact (tgo (zaI.sqT e h)).1, fun H i d e hd => ?_⟩
 have hi : i < vs.length := by rw [<- r.length]; exact (xah.mp hd).1
 obtain ⟨g1, g2⟩ := (tgo (zaI.sqT e h)).2 i hi
 refine ⟨g1, fun x H' y G1 e1 e2 => ?_⟩
 obtain ⟨rfl, hx⟩ := g2 x H' y
 obtain ⟨v, h1, h2⟩ := r.get hd
 rw [hx] at h1; cases h1
 exact ⟨G1, .refl e2, h2.mono e1⟩
def zj2 (lo : Int) (n : Nat) : List D := (List.range n).map fun (i : Nat) => D.int (lo + (i : Int))
theorem zhS.rng {K : xFg} {mg : Str -> Option Value} {G : Hp} (lo : Int) (n : Nat) : zhS K mg (Itr lo n) G (zj2 lo n) := by
 have hl : (zj2 lo n).length = n := by simp [zj2]
 refine ⟨fun H e => by rw [hl]; exact xaj _, fun H i d e hd => ?_⟩
 have hi : i < n := by have := (xah.mp hd).1; omega
 refine ⟨hi, fun x H' y G1 e1 e2 => ?_⟩
 obtain ⟨rfl, rfl⟩ := y
 have : d = .int (lo + (i : Int)) := by simp [zj2, hi] at hd; exact hd.symm
 subst this
 exact ⟨G1, .refl e2, rfl⟩
def zt9 : D -> R (List D)
 | .tup ds => .ok ds
 | .lst ds => .ok ds
 | _ => .bad
def zhn (f : DSt -> R D) : DSt -> R (List D) := fun Z => (f Z).bind zt9
theorem zcE {l : Expr} {f : DSt -> R D} (hl : DE X E l f) : DI X E tg l (zhn f) := by
 have hL : PI X tg l (ztw X.K (tE X.K X.mg E f)) := zrQ hl
 have hT : PI X tg l (iTup X.K (tE X.K X.mg E f)) := ztx hl
 intro pins s Z H R I ⟨G, Zd, ok, q⟩
 cases hf : f Zd with
 | bad => unfold zhn at q; rw [hf] at q; exact (show False from q).elim
 | err e =>
  unfold zhn at q; rw [hf] at q
  refine hL pins s Z H R I ⟨G, Zd, ok, ?_⟩
  rw [hf]; exact q
 | ok d =>
  unfold zhn at q; rw [hf] at q
  cases d with
  | lst ds =>
   have q' : ∀ J G' H', zbu G H G' H' -> zhS X.K X.mg J G' ds -> R J H' := q
   refine hL pins s Z H R I ⟨G, Zd, ok, ?_⟩
   rw [hf]
   rintro v G' H' st ⟨a, vs, rfl, h1, h2⟩
   exact ⟨a, rfl, ⟨vs, st.e.seq h1⟩, q' _ G' H' st (.list h1 h2)⟩
  | tup ds =>
   have q' : ∀ J G' H', zbu G H G' H' -> zhS X.K X.mg J G' ds -> R J H' := q
   refine hT pins s Z H R I ⟨G, Zd, ok, ?_⟩
   rw [hf]
   rintro v G' H' st ⟨a, vs, rfl, h1, h2⟩
   exact ⟨a, rfl, ⟨vs, zaI.sqT st.e h1⟩, q' _ G' H' st (.tup h1 h2)⟩
  | _ => exact (show False from q).elim
def rOk (i : Int) : Bool := Nat.blt i.natAbs 1073741824
theorem zua {i : Int} (h : rOk i = true) : -(2 ^ 30) <= i /\ i < 2 ^ 30 := by
 unfold rOk at h
 rw [Nat.blt_eq] at h
 omega
def zkf : List D -> R (List D)
 | [.int j] => bif rOk j then .ok (zj2 0 j.toNat) else .bad
 | _ => .bad
def rng2 : List D -> R (List D)
 | [.int i, .int j] => bif rOk i && rOk j then .ok (zj2 i (j - i).toNat) else .bad
 | _ => .bad
def zkg (g : List D -> R (List D)) (fs : DSt -> R (List D)) : DSt -> R (List D) := fun Z => (fs Z).bind g
variable {fs : DSt -> R (List D)} {a b c : Expr} {p pos : Pos}
theorem zdS (hm : X.mg "range" = none) (ha : DA X E [a] fs) (hg : Gl X "range" := by rfl) (hs : starEach [a] X.env = [(false, eval a X.env)] := by rfl) : DI X E tg (.Call (.Name "range" p) [a] [] pos) (zkg zkf fs) := by
 refine PI.mono' (zm8 hg hm ha hs) fun Z H R ⟨G, Zd, ok, q⟩ => ?_
 refine ⟨G, Zd, ok, q.of_bind.mono (fun ds _ z vs G' H' s r => ?_) fun _ z => z⟩
 match ds, z, r with
 | [.int j], z, r =>
  obtain rfl := Reps.of_ints (ns := [j]) r
  cases hj : rOk j with
  | false => simp only [zkf, hj, cond_false] at z; exact z.elim
  | true =>
   simp only [zkf, hj, cond_true] at z
   have := zua hj
   exact ⟨j, rfl, by omega, by omega, z _ G' H' s (.rng 0 _)⟩
end
def lcD (ks : List Nat) (gp : D -> R (List D)) (c : DSt -> R Bool) (e : DSt -> R D) (Z : DSt) : List D -> R (List D)
 | [] => .ok []
 | d :: ds => (gp d).bind fun us => (c (setAll Z ks us)).bind fun k => bif k then (e (setAll Z ks us)).bind fun y => (lcD ks gp c e Z ds).bind fun ys => .ok (y :: ys) else lcD ks gp c e Z ds
def most (n : Nat) : Bool := decide (n < sizeLine)
def eLC (k : Nat) (ks : List Nat) (fi : DSt -> R (List D)) (gp : D -> R (List D)) (c : DSt -> R Bool) (e : DSt -> R D) : DSt -> R (List D) := fun Z => (fi Z).bind fun ds => bif most ds.length then (lcD ks gp c e (List.replicate k none ++ Z) ds).noerr else .bad
def zdm : DSt -> R Bool := fun _ => .ok true
def DTs (X : Cx) (E : XK) (cs : List Expr) (f : DSt -> R Bool) : Prop := PTs X cs (tT X.K X.mg E f)
theorem PTs.mono' {X : Cx} {cs : List Expr} {t t' : TT} (h : PTs X cs t) (m : ∀ Z H Q, t' Z H Q -> t Z H Q) : PTs X cs t' := fun pins s Z H Q I q => h pins s Z H Q I (m Z H Q q)
theorem zdT {X : Cx} {E : XK} : DTs X E [] zdm := PTs.mono' zr3 fun Z H Q ⟨G, Zd, ok, q⟩ => (show zeO Q G H true from q) G H (.refl ok.ext)
theorem zeG {X : Cx} {E : XK} {c : Expr} {f : DSt -> R Bool} (h : DT X E c f) : DTs X E [c] f := zr4 h
theorem RW.ok_of {α : Type} {r : R α} {a : α} {Q : α -> Prop} {E : D -> Prop} (e : r = .ok a) (h : Q a) : RW r Q E := by rw [e]; exact h
theorem zhT {α β : Type} {r : R α} {k : α -> R β} {b : β} (h : r.bind k = .ok b) : ∃ a, r = .ok a /\ k a = .ok b := by
 cases r with
 | ok a => exact ⟨a, rfl, h⟩
 | err e => cases h
 | bad => cases h
section
variable {X : Cx} {E : XK} {tg elt iter : Expr} {ifs : List Expr} {scope : Scope} {pos : Pos} {NY : List Str} {k : Nat} {ks : List Nat} {fi : DSt -> R (List D)} {gp : D -> R (List D)} {fc : DSt -> R Bool} {fe : DSt -> R D}
theorem ziX {k : Nat} {ks : List Nat} {Z : St} (h : ks.all (fun i => decide (i < k)) = true) (ws : List V) : zr5 (List.replicate k none ++ Z) (setAll (List.replicate k none ++ Z) ks ws) := by
 refine ⟨zhm _ _ _, fun j v e => ?_⟩
 rw [ziW _ _ _ fun hj => ?_]
 ·exact e
 ·have hk : j < k := of_decide_eq_true (xay.mp h j hj)
  rw [xb4 (by simpa using hk), xcr, if_pos hk] at e
  cases e
theorem zk0 {te : TE} {tc : TT} (hk : ks.all (fun i => decide (i < k)) = true) {Z : St} {H : Hp} {Q : VK}
  (h : tFr X.K X.mg E (eLC k ks fi gp fc fe) Z H Q) : tLC k (tI X.K X.mg E fi) (tG X.K X.mg ks gp) (tT X.K X.mg E0 fc) (tE X.K X.mg E0 fe) Z H Q := by
 obtain ⟨G, Zd, ok, q⟩ := h
 refine ⟨G, Zd, ok, q.of_bind.mono (fun ds _ z J G1 H1 s1 it => ?_) fun _ z => z⟩
 cases hm : most ds.length with
 | false => rw [hm] at z; exact (show False from z).elim
 | true =>
  rw [hm] at z
  obtain ⟨tot, ht, z⟩ := zd8 (show RW (lcD ks gp fc fe (List.replicate k none ++ Zd) ds).noerr _ _ from z)
  have hlt : ds.length < sizeLine := of_decide_eq_true hm
  have ok1 := ok.step s1
  refine ⟨fun i m ys H' => m = ds.length - i /\ i <= ds.length /\ ∃ G' yd zch, zbu G1 H1 G' H' /\ Reps X.K X.mg G' yd ys /\ yd.length <= i /\ lcD ks gp fc fe (List.replicate k none ++ Zd) (ds.drop i) = .ok zch /\ tot = yd ++ zch,
   ⟨ds.length, by simp, xbt _, G1, [], tot, .refl ok1.ext, Reps.nil, xbt _, ht, rfl⟩, ?_⟩
  rintro i m ys H' ⟨rfl, hi, G', yd, zch, s, r, hyl, hr, rfl⟩
  refine ⟨by rw [<- r.length]; omega, ?_⟩
  by_cases hlt2 : i < ds.length
  ·right
   obtain ⟨d, hd⟩ : ∃ d, ds[i]? = some d := ⟨ds[i], by simp [hlt2]⟩
   obtain ⟨g1, g2⟩ := it.turn H' i d (s.g.trans s.e) hd
   have hdrop : ds.drop i = d :: ds.drop (i + 1) := by
    rw [xcn hlt2]
    congr 1
    exact Option.some.inj ((xao hlt2).symm.trans hd)
   rw [hdrop] at hr
   refine ⟨g1, fun ys' H'' => ∃ G' yd zch, zbu G1 H1 G' H'' /\ Reps X.K X.mg G' yd ys' /\ yd.length <= i + 1 /\ lcD ks gp fc fe (List.replicate k none ++ Zd) (ds.drop (i + 1)) = .ok zch /\ _ = yd ++ zch, fun ys' H'' h => ⟨ds.length - (i + 1), by omega, rfl, hlt2, h⟩, fun v H'' hy => ?_⟩
   obtain ⟨G2, s2, rv⟩ := g2 v H'' hy G' s.g s.e
   unfold lcD at hr
   obtain ⟨us, e1, hr⟩ := zhT hr
   obtain ⟨kk, e2, hr⟩ := zhT hr
   have s12 := s.trans s2
   have okN : Ok0 X.K X.mg (List.replicate k none ++ Zd) (List.replicate k none ++ Z) G2 H'' := (ok1.step s12).nones k
   refine ⟨G2, d, s2.e, rv, RW.ok_of e1 fun ws rws => ⟨ziX hk ws, ?_⟩⟩
   have okS := okN.setAll (ks := ks) rws
   refine ⟨G2, _, okS, RW.ok_of e2 fun G3 H3 s3 => ?_⟩
   cases kk with
   | false =>
    rw [if_neg xa1]
    exact ⟨G3, yd, zch, s12.trans s3, r.mono (s2.g.trans s3.g), by omega, hr, rfl⟩
   | true =>
    rw [if_pos rfl]
    obtain ⟨y, e3, hr⟩ := zhT (show (fe (setAll (List.replicate k none ++ Zd) ks us)).bind _ = _ from hr)
    obtain ⟨ys2, e4, hr⟩ := zhT hr
    cases hr
    refine ⟨G3, _, okS.step s3, RW.ok_of e3 fun w G4 H4 s4 r4 => ?_⟩
    exact ⟨G4, yd ++ [y], ys2, (s12.trans s3).trans s4, (r.mono ((s2.g.trans s3.g).trans s4.g)).append (Reps.cons r4 Reps.nil), by simp; omega, e4, by simp⟩
  ·left
   have hi2 : i = ds.length := by omega
   subst hi2
   refine ⟨it.stop H' (s.g.trans s.e), fun Dd hD => ?_⟩
   rw [List.drop_length] at hr
   have hre : zch = [] := by unfold lcD at hr; cases hr; rfl
   subst hre
   rw [xb9] at z
   have st := (s1.trans s)
   exact z Dd ys G' _ (st.trans (.hid st.e hD)) (st.h.free hD) zav (st.e.free hD) r
theorem ziY (C : X.calm = true) (lc : LC X k scope NY) (hk : ks.all (fun i => decide (i < k)) = true) (hi : DI X E tg iter fi)
  (hb : ∀ (s₀ : Shared) (H₀ : Hp) (C : Addr) (ex : List Addr), NY.Nodup -> DG (zdy X scope NY s₀ H₀ C ex) tg ks gp /\ DTs (zdy X scope NY s₀ H₀ C ex) E0 ifs fc /\ DE (zdy X scope NY s₀ H₀ C ex) E0 elt fe)
  (hs : ∀ x, foldedSetIterable iter X.env x = pure x := by intro _; rfl) : DF X E (.ListComp elt [⟨tg, iter, ifs, 0⟩] scope pos) (eLC k ks fi gp fc fe) :=
 PE.mono' (zvM (g := tG X.K X.mg ks gp) (tc := tT X.K X.mg E0 fc) (te := tE X.K X.mg E0 fe) C lc hi (fun s0 H0 Ca ex nd => hb s0 H0 Ca ex nd) hs) fun _ _ _ h => zk0 (te := tE X.K X.mg E0 fe) (tc := tT X.K X.mg E0 fc) hk h
end
end DL
namespace DL
open L2
mutual
def imm : D -> Bool
 | .lst _ => false
 | .dct _ _ => false
 | .tup ds => imms ds
 | .exc _ as => imms as
 | .non => true
 | .bl _ => true
 | .int _ => true
 | .str _ => true
 | .ty _ => true
 | .cls _ => true
def imms : List D -> Bool
 | [] => true
 | d :: ds => imm d && imms ds
end
def znQ (G G' : Hp) : Prop := ∀ a o, G a = some o -> (∀ xs, o ≠ .lst xs) -> G' a = some o
section
variable {K : xFg} {mg : Str -> Option Value} {G G' H H' H0 : Hp}
theorem znQ.sqT {a : Addr} {xs : List V} (e : znQ G G') (h : SqT K G a xs) : SqT K G' a xs := by
 rcases h with (h | ⟨o, h⟩) | h
 ·exact .inl (.inl (e _ _ h fun xs z => by cases z))
 ·exact .inl (.inr ⟨o, e _ _ h fun xs z => by cases z⟩)
 ·exact .inr h
mutual
theorem Rep.imm (e : znQ G G') : ∀ {d : D} {v : V}, imm d = true -> Rep K mg G d v -> Rep K mg G' d v
 | .non, _, _, h => h
 | .bl _, _, _, h => h
 | .int _, _, _, h => h
 | .str _, _, _, h => h
 | .ty _, _, _, h => h
 | .cls _, _, _, h => h
 | .tup _, _, i, ⟨a, vs, h1, h2, h3⟩ => ⟨a, vs, h1, e.sqT h2, Reps.imm e (by unfold DL.imm at i; exact i) h3⟩
 | .lst _, _, i, _ => by unfold DL.imm at i; cases i
 | .dct _ _, _, i, _ => by unfold DL.imm at i; cases i
 | .exc _ _, _, i, ⟨x, C, dct, vs, h1, h2, h3, h4, h5⟩ => ⟨x, C, dct, vs, h1, e _ _ h2 fun xs z => (by unfold zno at z; cases z), h3, by
   rcases h4 with h | ⟨dx, v, q1, q2, q3⟩
   ·exact .inl h
   ·exact .inr ⟨dx, v, q1, q2, e _ _ q3 fun xs z => by cases z⟩, Reps.imm e (by unfold DL.imm at i; exact i) h5⟩
theorem Reps.imm (e : znQ G G') : ∀ {ds : List D} {vs : List V}, imms ds = true -> Reps K mg G ds vs -> Reps K mg G' ds vs
 | [], _, _, h => h
 | _ :: _, _, i, ⟨v, r, h1, h2, h3⟩ => by
  unfold imms at i
  rw [xav] at i
  exact ⟨v, r, h1, Rep.imm e i.1 h2, Reps.imm e i.2 h3⟩
end
end
structure Ok (K : xFg) (mg : Str -> Option Value) (H0 : Hp) (own : List Nat) (Zd : DSt) (Z : St) (G H : Hp) : Prop where
 ext : zaI G H
 len : Zd.length = Z.length
 val : ∀ (i : Nat) (d : D), i ∉ own -> Zd[i]? = some (some d) -> ∃ v, Z[i]? = some (some v) /\ Rep K mg G d v
 mine : ∀ (i : Nat) (d : D), i ∈ own -> Zd[i]? = some (some d) -> ∃ a ds vs, Z[i]? = some (some (.ref a)) /\ d = .lst ds /\ H a = some (.lst vs) /\ G a = none /\ H0 a = none /\ Reps K mg G ds vs
 dj : ∀ (i j : Nat) (a : Addr) (d d' : D), i ∈ own -> j ∈ own -> Zd[i]? = some (some d) -> Zd[j]? = some (some d') -> Z[i]? = some (some (.ref a)) -> Z[j]? = some (some (.ref a)) -> i = j
def zfR (own : List Nat) : Nat -> DSt -> DSt
 | _, [] => []
 | i, d :: ds => (bif own.contains i then none else d) :: zfR own (i + 1) ds
def mask (own : List Nat) (Z : DSt) : DSt := zfR own 0 Z
theorem ziZ {own : List Nat} : ∀ (Z : DSt) (k i : Nat) (d : D), (zfR own k Z)[i]? = some (some d) -> k + i ∉ own /\ Z[i]? = some (some d)
 | [], _, _, _, h => by unfold zfR at h; simp at h
 | x :: Z, k, 0, d, h => by
  unfold zfR at h
  simp only [List.getElem?_cons_zero, Option.some.injEq] at h
  cases hc : own.contains k with
  | true => rw [hc] at h; cases h
  | false =>
   rw [hc] at h
   have h' : x = some d := h
   subst h'
   exact ⟨by simpa using hc, rfl⟩
 | x :: Z, k, i + 1, d, h => by
  unfold zfR at h
  have := ziZ Z (k + 1) i d (by simpa using h)
  rw [show k + (i + 1) = k + 1 + i by omega]
  exact ⟨this.1, by simpa using this.2⟩
theorem zi0 {own : List Nat} : ∀ (Z : DSt) (k : Nat), (zfR own k Z).length = Z.length
 | [], _ => rfl
 | _ :: Z, k => by unfold zfR; simp [zi0 Z]
def zpT (own : List Nat) (Zd : DSt) (Z : St) (b : Addr) : Prop := ∃ i d, i ∈ own /\ Zd[i]? = some (some d) /\ Z[i]? = some (some (.ref b))
open Classical in
noncomputable def zmW (own : List Nat) (Zd : DSt) (Z : St) (G H : Hp) : Hp := fun b => if zpT own Zd Z b then H b else G b
open Classical in
noncomputable def zi1 (own : List Nat) (Zd : DSt) (Z : St) (G : Hp) : Hp := fun b => if zpT own Zd Z b then none else G b
section
variable {K : xFg} {mg : Str -> Option Value} {G G' G0 H H' H0 : Hp} {own : List Nat} {Zd : DSt} {Z : St}
theorem Ok.masked (o : Ok K mg H0 own Zd Z G H) : Ok0 K mg (mask own Zd) Z G H :=
 ⟨o.ext, by unfold mask; rw [zi0]; exact o.len, fun i d h => by
  have := ziZ Zd 0 i d h
  rw [xbo] at this
  exact o.val i d this.1 this.2⟩
theorem Ok.zero (o : Ok0 K mg Zd Z G H) : Ok K mg H0 [] Zd Z G H :=
 ⟨o.ext, o.len, fun i d _ h => o.val i d h, fun i d h => absurd h (by simp), fun i j a d d' h => absurd h (by simp)⟩
theorem Ok.step (o : Ok K mg H0 own Zd Z G H) (s : zbu G H G' H') : Ok K mg H0 own Zd Z G' H' :=
 ⟨s.e, o.len, fun i d hi h => let ⟨v, h1, h2⟩ := o.val i d hi h; ⟨v, h1, h2.mono s.g⟩, fun i d hi h => by
  obtain ⟨a, ds, vs, h1, h2, h3, h4, h5, h6⟩ := o.mine i d hi h
  exact ⟨a, ds, vs, h1, h2, s.h _ _ h3, s.c _ _ h3 h4, h5, h6.mono s.g⟩, o.dj⟩
theorem Ok.notOwn (o : Ok K mg H0 own Zd Z G H) {b : Addr} {u : HO} (h : G b = some u) : ¬ zpT own Zd Z b := by
 rintro ⟨i, d, h1, h2, h3⟩
 obtain ⟨a, ds, vs, q1, q2, q3, q4, _⟩ := o.mine i d h1 h2
 rw [q1] at h3
 cases h3
 rw [q4] at h; cases h
theorem Ok.ownLst (o : Ok K mg H0 own Zd Z G H) {b : Addr} (h : zpT own Zd Z b) : (∃ vs, H b = some (.lst vs)) /\ G b = none /\ H0 b = none := by
 obtain ⟨i, d, h1, h2, h3⟩ := h
 obtain ⟨a, ds, vs, q1, q2, q3, q4, q5, _⟩ := o.mine i d h1 h2
 rw [q1] at h3
 cases h3
 exact ⟨⟨vs, q3⟩, q4, q5⟩
theorem Ok.pub (o : Ok K mg H0 own Zd Z G H) : Ok0 K mg Zd Z (zmW own Zd Z G H) H /\ zaI G (zmW own Zd Z G H) := by
 have sg : zaI G (zmW own Zd Z G H) := fun b u h => by unfold zmW; rw [if_neg (o.notOwn h)]; exact h
 refine ⟨⟨fun b u h => ?_, o.len, fun i d h => ?_⟩, sg⟩
 ·unfold zmW at h
  split at h
  ·exact h
  ·exact o.ext b u h
 ·by_cases hi : i ∈ own
  ·obtain ⟨a, ds, vs, q1, rfl, q3, q4, q5, q6⟩ := o.mine i d hi h
   refine ⟨_, q1, a, vs, rfl, SqL.of ?_, q6.mono sg⟩
   unfold zmW
   rw [if_pos ⟨i, _, hi, h, q1⟩]; exact q3
  ·obtain ⟨v, h1, h2⟩ := o.val i d hi h
   exact ⟨v, h1, h2.mono sg⟩
theorem Ok.pubStep (o : Ok K mg H0 own Zd Z G H) (s0 : zbu G0 H0 G H) : zbu G0 H0 (zmW own Zd Z G H) H := by
 refine ⟨s0.g.trans o.pub.2, s0.h, o.pub.1.ext, fun b u h1 h2 => ?_⟩
 unfold zmW
 rw [if_neg fun z => by rw [(o.ownLst z).2.2] at h1; cases h1]
 exact s0.c b u h1 h2
theorem Ok.drop (o : Ok K mg H0 own Zd Z G H) (s : zaI H H') : Ok K mg H0 own Zd Z G H' :=
 o.step (.heap o.ext s)
theorem Ok.hide (o : Ok K mg H0 own Zd Z G H) (s : zbu (zmW own Zd Z G H) H G' H') : zbu G H (zi1 own Zd Z G') H' /\ znQ G' (zi1 own Zd Z G') := by
 refine ⟨⟨fun b u h => ?_, s.h, fun b u h => ?_, fun b u h1 h2 => ?_⟩, fun b u h1 h2 => ?_⟩
 ·unfold zi1
  rw [if_neg (o.notOwn h)]
  exact s.g b u (o.pub.2 b u h)
 ·unfold zi1 at h
  split at h
  ·cases h
  ·exact s.e b u h
 ·unfold zi1
  split
  ·rfl
  ·rename_i n
   refine s.c b u h1 ?_
   unfold zmW
   rw [if_neg n]; exact h2
 ·unfold zi1
  rw [if_neg fun z => ?_]
  ·exact h1
  ·obtain ⟨⟨vs, q⟩, _⟩ := o.ownLst z
   have : zmW own Zd Z G H b = some (.lst vs) := by unfold zmW; rw [if_pos z]; exact q
   have := s.g b _ this
   rw [h1] at this; cases this
   exact h2 vs rfl
theorem zb8 {α : Type} {l : List (Option α)} {i : Nat} {x d : α} (h : (l.set i (some x))[i]? = some (some d)) : d = x /\ i < l.length := by
 have hl : i < l.length := by have := (xah.mp h).1; simpa using this
 rw [xa5 hl] at h
 cases h
 exact ⟨rfl, hl⟩
theorem Ok.set {i : Nat} {d : D} {v : V} (o : Ok K mg H0 own Zd Z G H) (hi : i ∉ own) (h : Rep K mg G d v) : Ok K mg H0 own (Zd.set i (some d)) (Z.set i (some v)) G H := by
 have ne : ∀ {j : Nat}, j ∈ own -> j ≠ i := fun hj z => hi (z ▸ hj)
 refine ⟨o.ext, by simp [o.len], fun j e hj q => ?_, fun j e hj q => ?_, fun j k a d1 d2 h1 h2 h3 h4 h5 h6 => ?_⟩
 ·by_cases hji : j = i
  ·subst hji
   obtain ⟨rfl, hl⟩ := zb8 q
   exact ⟨v, by rw [xa5 (by rw [<- o.len]; exact hl)], h⟩
  ·rw [xam (xa3 hji)] at q ⊢
   exact o.val j e hj q
 ·rw [xam (xa3 (ne hj))] at q ⊢
  exact o.mine j e hj q
 ·rw [xam (xa3 (ne h1))] at h3 h5
  rw [xam (xa3 (ne h2))] at h4 h6
  exact o.dj j k a d1 d2 h1 h2 h3 h4 h5 h6
theorem Ok.setAll : ∀ {ks : List Nat} {us : List D} {ws : List V} {Zd : DSt} {Z : St}, Ok K mg H0 own Zd Z G H -> (∀ k ∈ ks, k ∉ own) -> Reps K mg G us ws -> Ok K mg H0 own (DL.setAll Zd ks us) (DL.setAll Z ks ws) G H
 | [], _, _, _, _, o, _, _ => by unfold DL.setAll; exact o
 | _ :: _, [], _, _, _, o, _, h => by cases h; unfold DL.setAll; exact o
 | k :: ks, _ :: _, _, _, _, o, hk, ⟨v, r, h1, h2, h3⟩ => by
  subst h1; unfold DL.setAll
  exact Ok.setAll (o.set (hk k xae) h2) (fun j hj => hk j (xab _ hj)) h3
theorem Ok.new {i : Nat} {ds : List D} {vs : List V} {a : Addr} {own' : List Nat} (o : Ok K mg H0 own Zd Z G H) (s : zbu G H G' H') (n : H a = none) (e : H' a = some (.lst vs)) (g : G' a = none) (n0 : H0 a = none) (r : Reps K mg G' ds vs)
  (hown : ∀ j, j ∈ own' ↔ j = i \/ j ∈ own) : Ok K mg H0 own' (Zd.set i (some (.lst ds))) (Z.set i (some (.ref a))) G' H' := by
 have o' := o.step s
 have away : ∀ {j : Nat} {d : D}, j ∈ own -> j ≠ i -> Zd[j]? = some (some d) -> Z[j]? = some (some (.ref a)) -> False := fun {j d} hj _ hd hs => by
  obtain ⟨b, _, _, q1, _, q3, _⟩ := o.mine j d hj hd
  rw [q1] at hs; cases hs
  rw [n] at q3; cases q3
 refine ⟨o'.ext, by simp [o.len], fun j d hj q => ?_, fun j d hj q => ?_, fun j k b d1 d2 h1 h2 h3 h4 h5 h6 => ?_⟩
 ·have hji : j ≠ i := fun z => hj ((hown j).mpr (.inl z))
  rw [xam (xa3 hji)] at q ⊢
  exact o'.val j d (fun z => hj ((hown j).mpr (.inr z))) q
 ·by_cases hji : j = i
  ·subst hji
   obtain ⟨rfl, hl⟩ := zb8 q
   exact ⟨a, ds, vs, by rw [xa5 (by rw [<- o.len]; exact hl)], rfl, e, g, n0, r⟩
  ·rw [xam (xa3 hji)] at q ⊢
   exact o'.mine j d (((hown j).mp hj).resolve_left hji) q
 ·by_cases hji : j = i
  ·by_cases hki : k = i
   ·rw [hji, hki]
   ·subst hji
    obtain ⟨rfl, hl⟩ := zb8 h3
    rw [xa5 (by rw [<- o.len]; exact hl)] at h5
    cases h5
    rw [xam (xa3 hki)] at h4 h6
    exact (away (((hown k).mp h2).resolve_left hki) hki h4 h6).elim
  ·by_cases hki : k = i
   ·subst hki
    obtain ⟨rfl, hl⟩ := zb8 h4
    rw [xa5 (by rw [<- o.len]; exact hl)] at h6
    cases h6
    rw [xam (xa3 hji)] at h3 h5
    exact (away (((hown j).mp h1).resolve_left hji) hji h3 h5).elim
   ·rw [xam (xa3 hji)] at h3 h5
    rw [xam (xa3 hki)] at h4 h6
    exact o.dj j k b d1 d2 (((hown j).mp h1).resolve_left hji) (((hown k).mp h2).resolve_left hki) h3 h4 h5 h6
theorem Ok.write {i : Nat} {d : D} {ds : List D} {vs : List V} {a : Addr} (o : Ok K mg H0 own Zd Z G H) (hi : i ∈ own) (hd : Zd[i]? = some (some d)) (ha : Z[i]? = some (some (.ref a))) (r : Reps K mg G ds vs) :
  Ok K mg H0 own (Zd.set i (some (.lst ds))) Z G (upd H a (.lst vs)) := by
 obtain ⟨b, ds0, vs0, q1, q2, q3, q4, q5, q6⟩ := o.mine i d hi hd
 rw [ha] at q1; cases q1
 have hl : i < Zd.length := (xah.mp hd).1
 refine ⟨fun b u h => ?_, by simp [o.len], fun j e hj q => ?_, fun j e hj q => ?_, fun j k b d1 d2 h1 h2 h3 h4 h5 h6 => ?_⟩
 ·rw [zap (zal h q4)]; exact o.ext b u h
 ·have hji : j ≠ i := fun z => hj (z ▸ hi)
  rw [xam (xa3 hji)] at q
  exact o.val j e hj q
 ·by_cases hji : j = i
  ·subst hji
   obtain ⟨rfl, _⟩ := zb8 q
   exact ⟨a, ds, vs, ha, rfl, zav, q4, q5, r⟩
  ·rw [xam (xa3 hji)] at q
   obtain ⟨c, es, ws, p1, p2, p3, p4⟩ := o.mine j e hj q
   have hc : c ≠ a := fun z => by subst z; exact hji (o.dj j i c e d hj hi q hd p1 ha)
   exact ⟨c, es, ws, p1, p2, by rw [zap hc]; exact p3, p4⟩
 ·have back : ∀ {j : Nat} {e : D}, (Zd.set i (some (.lst ds)))[j]? = some (some e) -> ∃ e', Zd[j]? = some (some e') := fun {j e} q => by
   by_cases hji : j = i
   ·exact ⟨d, hji ▸ hd⟩
   ·rw [xam (xa3 hji)] at q; exact ⟨e, q⟩
  obtain ⟨e1, h3⟩ := back h3
  obtain ⟨e2, h4⟩ := back h4
  exact o.dj j k b e1 e2 h1 h2 h3 h4 h5 h6
theorem zbu.write {a : Addr} {o u : HO} (s0 : zbu G0 H0 G H) (n : H0 a = none) (g : G a = none) : zbu G0 H0 G (upd H a u) :=
 ⟨s0.g, fun b v h => by rw [zap (zal h n)]; exact s0.h b v h, fun b v h => by rw [zap (zal h g)]; exact s0.e b v h, s0.c⟩
theorem Ok.release {i : Nat} {own' : List Nat} (o : Ok K mg H0 own Zd Z G H) (s0 : zbu G0 H0 G H) (hi : i ∈ own) (hown : ∀ j, j ∈ own' ↔ j ≠ i /\ j ∈ own) : ∃ G', Ok K mg H0 own' Zd Z G' H /\ zbu G0 H0 G' H /\ zaI G G' := by
 by_cases hb : ∃ d, Zd[i]? = some (some d)
 ·obtain ⟨d, hd⟩ := hb
  obtain ⟨a, ds, vs, q1, rfl, q3, q4, q5, q6⟩ := o.mine i d hi hd
  have sg : zaI G (upd G a (.lst vs)) := zcl q4
  have eh : zaI (upd G a (.lst vs)) H := fun b u h => by
   by_cases hb : b = a
   ·subst hb; rw [zav] at h; cases h; exact q3
   ·rw [zap hb] at h; exact o.ext b u h
  refine ⟨upd G a (.lst vs), ⟨eh, o.len, fun j e hj q => ?_, fun j e hj q => ?_, fun j k b d1 d2 h1 h2 h3 h4 h5 h6 => ?_⟩, ⟨s0.g.trans sg, s0.h, eh, fun b u h1 h2 => ?_⟩, sg⟩
  ·by_cases hji : j = i
   ·subst hji
    rw [hd] at q; cases q
    exact ⟨_, q1, a, vs, rfl, SqL.of zav, q6.mono sg⟩
   ·obtain ⟨v, h1, h2⟩ := o.val j e (fun z => hj ((hown j).mpr ⟨hji, z⟩)) q
    exact ⟨v, h1, h2.mono sg⟩
  ·obtain ⟨hji, hj'⟩ := (hown j).mp hj
   obtain ⟨c, es, ws, p1, p2, p3, p4, p5, p6⟩ := o.mine j e hj' q
   have hc : c ≠ a := fun z => by subst z; exact hji (o.dj j i c e _ hj' hi q hd p1 q1)
   exact ⟨c, es, ws, p1, p2, p3, by rw [zap hc]; exact p4, p5, p6.mono sg⟩
  ·exact o.dj j k b d1 d2 ((hown j).mp h1).2 ((hown k).mp h2).2 h3 h4 h5 h6
  ·rw [zap (zal h1 q5)]; exact s0.c b u h1 h2
 ·refine ⟨G, ⟨o.ext, o.len, fun j e hj q => ?_, fun j e hj q => o.mine j e ((hown j).mp hj).2 q, fun j k b d1 d2 h1 h2 => o.dj j k b d1 d2 ((hown j).mp h1).2 ((hown k).mp h2).2⟩, s0, zaI.refl _⟩
  have hji : j ≠ i := fun z => hb ⟨e, z ▸ q⟩
  exact o.val j e (fun z => hj ((hown j).mpr ⟨hji, z⟩)) q
end
inductive Out where
 | nx (Z : DSt) | rt (d : D) | bk (Z : DSt) | ct (Z : DSt) | rf (ds : List D)
section
variable (K : xFg) (mg : Str -> Option Value) (E : XK)
def zfr (G0 H0 : Hp) (own' ol : List Nat) (Dn : zmV) (G : Hp) : Out -> Prop
 | .nx Zd' => ∀ Z' G' H', Ok K mg H0 own' Zd' Z' G' H' -> zbu G0 H0 G' H' -> zaI G G' -> Dn.nx Z' H'
 | .bk Zd' => ∀ Z' G' H', Ok K mg H0 ol Zd' Z' G' H' -> zbu G0 H0 G' H' -> zaI G G' -> Dn.bk Z' H'
 | .ct Zd' => ∀ Z' G' H', Ok K mg H0 ol Zd' Z' G' H' -> zbu G0 H0 G' H' -> zaI G G' -> Dn.ct Z' H'
 | .rt d => ∀ v G' H', zbu G0 H0 G' H' -> Rep K mg G' d v -> Dn.rt v H'
 | .rf ds => ∀ a vs G' H', zbu G0 H0 G' H' -> H0 a = none -> H' a = some (.lst vs) -> G' a = none -> Reps K mg G' ds vs -> Dn.rt (.ref a) H'
def tS (G0 H0 : Hp) (own own' ol : List Nat) (f : DSt -> R Out) : TS := fun Dn Z H => ∃ G Zd, Ok K mg H0 own Zd Z G H /\ zbu G0 H0 G H /\ RW (f Zd) (zfr K mg G0 H0 own' ol Dn G) (zaL K mg E G0 H0)
end
theorem zfr.shift {K : xFg} {mg : Str -> Option Value} {G0 H0 G G' : Hp} {own' ol : List Nat} {Dn : zmV} (s : zaI G G') {o : Out} (h : zfr K mg G0 H0 own' ol Dn G o) : zfr K mg G0 H0 own' ol Dn G' o := by
 cases o with
 | nx _ => exact fun a b c d e f => h a b c d e (s.trans f)
 | bk _ => exact fun a b c d e f => h a b c d e (s.trans f)
 | ct _ => exact fun a b c d e f => h a b c d e (s.trans f)
 | rt _ => exact h
 | rf _ => exact h
def DS (X : Cx) (E : XK) (own own' ol : List Nat) (st : Stmt) (f : DSt -> R Out) : Prop := ∀ G0, PS X st (tS X.K X.mg E G0 X.H₀ own own' ol f)
def DSs (X : Cx) (E : XK) (own own' ol : List Nat) (st : List Stmt) (f : DSt -> R Out) : Prop := ∀ G0, PSs X st (tS X.K X.mg E G0 X.H₀ own own' ol f)
def zaV (f g : DSt -> R Out) : DSt -> R Out := fun Z => (f Z).bind fun o => match o with
 | .nx Z' => g Z'
 | o => .ok o
def zb9 : DSt -> R Out := fun Z => .ok (.nx Z)
section
variable {X : Cx} {E : XK} {own own1 own2 own' ol : List Nat} {st : Stmt} {zch : List Stmt} {f g : DSt -> R Out} {pos : Pos}
theorem zaM : DSs X E own own ol [] zb9 := fun G0 => PSs.mono' zrL fun Dn Z H ⟨G, Zd, ok, s0, q⟩ => (show zfr X.K X.mg G0 X.H₀ own ol Dn G (.nx Zd) from q) Z G H ok s0 (zaI.refl _)
theorem zaf (h1 : DS X E own own1 ol st f) (h2 : DSs X E own1 own2 ol zch g) : DSs X E own own2 ol (st :: zch) (zaV f g) := fun G0 => PSs.mono' (zpn (h1 G0) (h2 G0)) fun Dn Z H ⟨G, Zd, ok, s0, q⟩ => by
 refine ⟨G, Zd, ok, s0, q.of_bind.mono (fun o _ z => ?_) fun _ z => z⟩
 cases o with
 | nx Z1 =>
  intro Z' G' H' ok' s' e'
  exact ⟨G', Z1, ok', s', (show RW (g Z1) _ _ from z).mono (fun o _ z => z.shift e') fun _ z => z⟩
 | rt d => exact z
 | rf d => exact z
 | bk d => exact z
 | ct d => exact z
theorem zai (h1 : DS X E own own1 ol st f) : DSs X E own own1 ol [st] f := fun G0 => zrM (h1 G0)
theorem zc7 (i : Nat) (hi : own.contains i = true) (ho : own' = own.filter fun j => j != i) (h : DSs X E own' own2 ol zch g) : DSs X E own own2 ol zch g := fun G0 => PSs.mono' (h G0) fun Dn Z H ⟨G, Zd, ok, s0, q⟩ => by
 obtain ⟨G', ok', s', e'⟩ := ok.release (i := i) (own' := own') s0 (by simpa using hi) fun j => by subst ho; simp [and_comm]
 exact ⟨G', Zd, ok', s', q.mono (fun o _ z => z.shift e') fun _ z => z⟩
theorem zub : DS X E own own' ol st eBad := fun G0 => PS.mono' zpo fun Dn Z H ⟨G, Zd, ok, s0, q⟩ => q
def zcN (fe : DSt -> R D) : DSt -> R Out := fun Z => (fe Z).bind fun d => .ok (.rt d)
theorem zaA {e : Expr} {fe : DSt -> R D} (h : DE X E e fe) : DS X E own own' ol (.Return (some e) pos) (zcN fe) := fun G0 => PS.mono' (ztp h) fun Dn Z H ⟨G, Zd, ok, s0, q⟩ => by
 have s1 := ok.pubStep s0
 exact ⟨_, Zd, ok.pub.1, q.of_bind.mono (fun d _ z v G' H' s r => (show zfr X.K X.mg G0 X.H₀ own' ol Dn G (.rt d) from z) v G' H' (s1.trans s) r) fun _ z => z.step s1⟩
def sIf (c : DSt -> R Bool) (f g : DSt -> R Out) : DSt -> R Out := fun Z => (c Z).bind fun k => bif k then f Z else g Z
theorem zcm {c : Expr} {a b : List Stmt} {fc : DSt -> R Bool} (hc : DT X E c fc) (ha : DSs X E own own' ol a f) (hb : DSs X E own own' ol b g) : DS X E own own' ol (.If c a b pos) (sIf fc f g) := fun G0 =>
 PS.mono' (zvr hc (ha G0) (hb G0)) fun Dn Z H ⟨G, Zd, ok, s0, q⟩ => by
 have s1 := ok.pubStep s0
 refine ⟨_, Zd, ok.pub.1, q.of_bind.mono (fun k _ z G' H' s => ?_) fun _ z => z.step s1⟩
 have ok' := ok.drop s.h
 have s' : zbu G0 X.H₀ G H' := s0.trans (.heap ok.ext s.h)
 cases k with
 | true => exact iteT ⟨G, Zd, ok', s', z⟩
 | false => exact iteF ⟨G, Zd, ok', s', z⟩
def zsk (fe : DSt -> R D) : DSt -> R Out := fun Z => (fe Z).bind fun _ => .ok (.nx Z)
def zmX (own : List Nat) (i : Nat) (fe : DSt -> R D) : DSt -> R Out := fun Z => (fe (mask own Z)).bind fun d => .ok (.nx (Z.set i (some d)))
def zaG (i : Nat) (fe : DSt -> R D) : DSt -> R Out := fun Z => (fe Z).bind fun d => .ok (.nx (Z.set i (some d)))
def zv8 (i : Nat) (fe : DSt -> R D) : DSt -> R Out := fun Z => (fe Z).bind fun d => bif imm d then .ok (.nx (Z.set i (some d))) else .bad
theorem znR {own : List Nat} {i : Nat} (h : own.contains i = false) : i ∉ own := by simpa using h
theorem zfW (Z : DSt) : mask [] Z = Z := by
 have : ∀ (Z : DSt) (k : Nat), zfR [] k Z = Z := fun Z => by
  induction Z with
  | nil => intro k; rfl
  | cons d ds ih => intro k; unfold zfR; rw [ih]; rfl
 exact this Z 0
theorem zv9 {te : TE} {fe : DSt -> R D} {i : Nat} {G0 : Hp} (h : ∀ Z H Q, tE X.K X.mg E fe Z H Q -> te Z H Q) (ho : own.contains i = false) {Dn : zmV} {Z : St} {H : Hp} (q : tS X.K X.mg E G0 X.H₀ own own ol (zmX own i fe) Dn Z H) : zrO te (ziu i) Dn Z H := by
 obtain ⟨G, Zd, ok, s0, q⟩ := q
 refine h Z H _ ⟨G, mask own Zd, ok.masked, q.of_bind.mono (fun d _ z v G' H' s r => ?_) fun _ z => z.step s0⟩
 exact (show zfr X.K X.mg G0 X.H₀ own ol Dn G (.nx (Zd.set i (some d))) from z) _ G' H' ((ok.step s).set (znR ho) r) (s0.trans s) s.g
def zqA (own : List Nat) (i : Nat) (fe : DSt -> R (List D)) : DSt -> R Out := fun Z => (fe (mask own Z)).bind fun ds => .ok (.nx (Z.set i (some (.lst ds))))
def zmt (i : Nat) (fe : DSt -> R (List D)) : DSt -> R Out := fun Z => (fe Z).bind fun ds => bif imms ds then .ok (.nx (Z.set i (some (.lst ds)))) else .bad
def zdn (own : List Nat) (i : Nat) : List Nat := if own.contains i then own else i :: own
theorem zgg {own : List Nat} {i j : Nat} : j ∈ zdn own i ↔ j = i \/ j ∈ own := by
 unfold zdn
 split
 ·rename_i h
  have hi : i ∈ own := by simpa using h
  exact ⟨.inr, fun h => h.elim (fun e => e ▸ hi) id⟩
 ·simp
theorem asgN {te : TE} {fe : DSt -> R (List D)} {i : Nat} {G0 : Hp} (h : ∀ Z H Q, tFr X.K X.mg E fe Z H Q -> te Z H Q) {Dn : zmV} {Z : St} {H : Hp} (q : tS X.K X.mg E G0 X.H₀ own (zdn own i) ol (zqA own i fe) Dn Z H) : zrO te (ziu i) Dn Z H := by
 obtain ⟨G, Zd, ok, s0, q⟩ := q
 refine h Z H _ ⟨G, mask own Zd, ok.masked, q.of_bind.mono (fun ds _ z a vs G' H' s n e g r => ?_) fun _ z => z.step s0⟩
 exact (show zfr X.K X.mg G0 X.H₀ (zdn own i) ol Dn G (.nx (Zd.set i (some (.lst ds)))) from z) _ G' H' (ok.new s n e g (s0.h.free n) r fun j => zgg) (s0.trans s) s.g
theorem zwa {te : TE} {fe : DSt -> R (List D)} {i : Nat} {G0 : Hp} (h : ∀ Z H Q, tFr X.K X.mg E fe Z H Q -> te Z H Q) {Dn : zmV} {Z : St} {H : Hp} (q : tS X.K X.mg E G0 X.H₀ own (zdn own i) ol (zmt i fe) Dn Z H) : zrO te (ziu i) Dn Z H := by
 obtain ⟨G, Zd, ok, s0, q⟩ := q
 have s1 := ok.pubStep s0
 refine h Z H _ ⟨_, Zd, ok.pub.1, q.of_bind.mono (fun ds _ z a vs G' H' s n e g r => ?_) fun _ z => z.step s1⟩
 cases hd : imms ds with
 | false => rw [hd] at z; exact (show False from z).elim
 | true =>
  rw [hd] at z
  obtain ⟨st, sT⟩ := ok.hide s
  have g' : zi1 own Zd Z G' a = none := by unfold zi1; split <;> first | rfl | exact g
  exact (show zfr X.K X.mg G0 X.H₀ (zdn own i) ol Dn G (.nx (Zd.set i (some (.lst ds)))) from z) _ _ H' (ok.new st n e g' (s0.h.free n) (r.imm sT hd) fun j => zgg) (s0.trans st) st.g
variable {i : Nat} {x : Str} {e : Expr} {pos' : Pos} {fe : DSt -> R D} {fl : DSt -> R (List D)}
theorem zqB (i : Nat) (hN : X.N.Nodup) (he : DE X E e fe) (ho : own.contains i = false := by rfl) (hi : X.N[i]? = some x := by rfl) (hx : Loc X.env.scope x := by first | exact Or.inl rfl | exact Or.inr rfl) (hs : swapsWith e (some (.Name x pos')) pos.line X.env = pure false := by rfl)
  (hf : X.fn x = true \/ X.env.scope.names.lookup x = some .local := by first | exact .inl rfl | exact .inr rfl | assumption) : DS X E own own ol (.Assign [.Name x pos'] e pos) (zmX own i fe) := fun G0 =>
 PS.mono' (zm5 hN hi hx he hs hf) fun Dn Z H q => zv9 (fun _ _ _ z => z) ho q
theorem zan (i : Nat) (hN : X.N.Nodup) (he : DE X E e fe) (hi : X.N[i]? = some x := by rfl) (hx : Loc X.env.scope x := by first | exact Or.inl rfl | exact Or.inr rfl) (hs : swapsWith e (some (.Name x pos')) pos.line X.env = pure false := by rfl)
  (hf : X.fn x = true \/ X.env.scope.names.lookup x = some .local := by first | exact .inl rfl | exact .inr rfl | assumption) : DS X E [] [] ol (.Assign [.Name x pos'] e pos) (zaG i fe) := fun G0 => by
 have : zaG i fe = zmX [] i fe := by funext Z; unfold zaG zmX; rw [zfW]
 rw [this]
 exact PS.mono' (zm5 hN hi hx he hs hf) fun Dn Z H q => zv9 (fun _ _ _ z => z) rfl q
theorem znS (i : Nat) (hN : X.N.Nodup) (he : DF X E e fl) (hw : own' = zdn own i := by rfl) (hi : X.N[i]? = some x := by rfl) (hx : Loc X.env.scope x := by first | exact Or.inl rfl | exact Or.inr rfl) (hs : swapsWith e (some (.Name x pos')) pos.line X.env = pure false := by rfl)
  (hf : X.fn x = true \/ X.env.scope.names.lookup x = some .local := by first | exact .inl rfl | exact .inr rfl | assumption) : DS X E own own' ol (.Assign [.Name x pos'] e pos) (zqA own i fl) := fun G0 => by
 subst hw; exact PS.mono' (zm5 hN hi hx he hs hf) fun Dn Z H q => asgN (fun _ _ _ z => z) q
theorem zuc {te : TE} (h : ∀ Z H Q, tFr X.K X.mg E fl Z H Q -> te Z H Q) : ∀ Z H Q, tE X.K X.mg E (fun Z => (fl Z).bind fun ds => .ok (.lst ds)) Z H Q -> te Z H Q := fun Z H Q ⟨G, Zd, ok, q⟩ => by
 refine h Z H Q ⟨G, Zd, ok, q.of_bind.mono (fun ds _ q => ?_) fun _ z => z⟩
 intro a vs G' H' s n e g r
 have q' : zay X.K X.mg Q G H (.lst ds) := q
 have sg : zaI G' (upd G' a (.lst vs)) := zcl g
 refine q' (.ref a) (upd G' a (.lst vs)) H' ⟨s.g.trans sg, s.h, fun b u p => ?_, fun b u p1 p2 => ?_⟩ ⟨a, vs, rfl, SqL.of zav, r.mono sg⟩
 ·by_cases hb : b = a
  ·subst hb; rw [zav] at p; cases p; exact e
  ·rw [zap hb] at p; exact s.e b u p
 ·have hb : b ≠ a := zal p1 n
  rw [zap hb]; exact s.c b u p1 p2
def zeH (fl : DSt -> R (List D)) : DSt -> R D := fun Z => (fl Z).bind fun ds => .ok (.lst ds)
theorem DF.val (h : DF X E e fl) : DE X E e (zeH fl) := h.de
variable {tg elt iter : Expr} {ifs : List Expr} {scope : Scope} {NY : List Str} {k : Nat} {ks : List Nat} {fi : DSt -> R (List D)} {gp : D -> R (List D)} {fc : DSt -> R Bool} {lpos : Pos}
theorem znT (i : Nat) (C : X.calm = true) (hN : X.N.Nodup) (hi' : X.N[i]? = some x) (hy : X.env.kindOf x = some .local) (lc : LC X k scope NY) (hi : DI X E tg iter fi)
  (hb : ∀ (s₀ : Shared) (H₀ : Hp) (C : Addr) (ex : List Addr), NY.Nodup -> DG (zdy X scope NY s₀ H₀ C ex) tg ks gp /\ DTs (zdy X scope NY s₀ H₀ C ex) E0 ifs fc /\ DE (zdy X scope NY s₀ H₀ C ex) E0 elt fe)
  (hsw : swapsWith (.ListComp elt [⟨tg, iter, ifs, 0⟩] scope lpos) (some (.Name x pos')) pos.line X.env = pure true)
  (hs : ∀ x, foldedSetIterable iter X.env x = pure x) : PS X (.Assign [.Name x pos'] (.ListComp elt [⟨tg, iter, ifs, 0⟩] scope lpos) pos) (zrO (tLC k (tI X.K X.mg E fi) (tG X.K X.mg ks gp) (tT X.K X.mg E0 fc) (tE X.K X.mg E0 fe)) (ziu i)) :=
 zvN (g := tG X.K X.mg ks gp) (tc := tT X.K X.mg E0 fc) (te := tE X.K X.mg E0 fe) C hN hi' hy lc hi (fun s0 H0 Ca ex nd => hb s0 H0 Ca ex nd) hsw hs
theorem zfX (i : Nat) (C : X.calm = true) (hN : X.N.Nodup) (lc : LC X k scope NY) (hk : ks.all (fun i => decide (i < k)) = true) (hi : DI X E tg iter fi)
  (hb : ∀ (s₀ : Shared) (H₀ : Hp) (C : Addr) (ex : List Addr), NY.Nodup -> DG (zdy X scope NY s₀ H₀ C ex) tg ks gp /\ DTs (zdy X scope NY s₀ H₀ C ex) E0 ifs fc /\ DE (zdy X scope NY s₀ H₀ C ex) E0 elt fe)
  (ho : own.contains i = false := by rfl) (hi' : X.N[i]? = some x := by rfl) (hy : X.env.kindOf x = some .local := by rfl)
  (hsw : swapsWith (.ListComp elt [⟨tg, iter, ifs, 0⟩] scope lpos) (some (.Name x pos')) pos.line X.env = pure true := by rfl)
  (hs : ∀ x, foldedSetIterable iter X.env x = pure x := by intro _; rfl) : DS X E own own ol (.Assign [.Name x pos'] (.ListComp elt [⟨tg, iter, ifs, 0⟩] scope lpos) pos) (zmX own i (zeH (eLC k ks fi gp fc fe))) := fun G0 =>
 PS.mono' (znT i C hN hi' hy lc hi hb hsw hs) fun Dn Z H q => zv9 (zuc fun _ _ _ h => zk0 (te := tE X.K X.mg E0 fe) (tc := tT X.K X.mg E0 fc) hk h) ho q
theorem zpU (i : Nat) (C : X.calm = true) (hN : X.N.Nodup) (lc : LC X k scope NY) (hk : ks.all (fun i => decide (i < k)) = true) (hi : DI X E tg iter fi)
  (hb : ∀ (s₀ : Shared) (H₀ : Hp) (C : Addr) (ex : List Addr), NY.Nodup -> DG (zdy X scope NY s₀ H₀ C ex) tg ks gp /\ DTs (zdy X scope NY s₀ H₀ C ex) E0 ifs fc /\ DE (zdy X scope NY s₀ H₀ C ex) E0 elt fe)
  (hw : own' = zdn own i := by rfl) (hi' : X.N[i]? = some x := by rfl) (hy : X.env.kindOf x = some .local := by rfl)
  (hsw : swapsWith (.ListComp elt [⟨tg, iter, ifs, 0⟩] scope lpos) (some (.Name x pos')) pos.line X.env = pure true := by rfl)
  (hs : ∀ x, foldedSetIterable iter X.env x = pure x := by intro _; rfl) : DS X E own own' ol (.Assign [.Name x pos'] (.ListComp elt [⟨tg, iter, ifs, 0⟩] scope lpos) pos) (zqA own i (eLC k ks fi gp fc fe)) := fun G0 => by
 subst hw; exact PS.mono' (znT i C hN hi' hy lc hi hb hsw hs) fun Dn Z H q => asgN (fun _ _ _ h => zk0 (te := tE X.K X.mg E0 fe) (tc := tT X.K X.mg E0 fc) hk h) q
theorem zi2 (i : Nat) (C : X.calm = true) (hN : X.N.Nodup) (lc : LC X k scope NY) (hk : ks.all (fun i => decide (i < k)) = true) (hi : DI X E tg iter fi)
  (hb : ∀ (s₀ : Shared) (H₀ : Hp) (C : Addr) (ex : List Addr), NY.Nodup -> DG (zdy X scope NY s₀ H₀ C ex) tg ks gp /\ DTs (zdy X scope NY s₀ H₀ C ex) E0 ifs fc /\ DE (zdy X scope NY s₀ H₀ C ex) E0 elt fe)
  (hw : own' = zdn own i := by rfl) (hi' : X.N[i]? = some x := by rfl) (hy : X.env.kindOf x = some .local := by rfl)
  (hsw : swapsWith (.ListComp elt [⟨tg, iter, ifs, 0⟩] scope lpos) (some (.Name x pos')) pos.line X.env = pure true := by rfl)
  (hs : ∀ x, foldedSetIterable iter X.env x = pure x := by intro _; rfl) : DS X E own own' ol (.Assign [.Name x pos'] (.ListComp elt [⟨tg, iter, ifs, 0⟩] scope lpos) pos) (zmt i (eLC k ks fi gp fc fe)) := fun G0 => by
 subst hw; exact PS.mono' (znT i C hN hi' hy lc hi hb hsw hs) fun Dn Z H q => zwa (fun _ _ _ h => zk0 (te := tE X.K X.mg E0 fe) (tc := tT X.K X.mg E0 fc) hk h) q
def zud (own : List Nat) (ks : List Nat) (gp : D -> R (List D)) (fe : DSt -> R D) : DSt -> R Out := fun Z => (fe (mask own Z)).bind fun d => (gp d).noerr.bind fun us => .ok (.nx (setAll Z ks us))
theorem znU (he : DE X E e fe) (hg : DG X tg ks gp) (ho : ks.all (fun i => !own.contains i) = true := by rfl) (hs : swapsWithSole [tg] e pos.line X.env = pure false := by rfl) (hw : swappedStores [tg] e X.env = pure none := by rfl)
  (h1 : (assignEach [tg] X.env).map (·.2) = [assign tg X.env] := by rfl) : DS X E own own ol (.Assign [tg] e pos) (zud own ks gp fe) := fun G0 => PS.mono' (zm4 he hg hs hw h1) fun Dn Z H ⟨G, Zd, ok, s0, q⟩ => by
 refine ⟨G, mask own Zd, ok.masked, q.of_bind.mono (fun d _ z v G' H' s r => ?_) fun _ z => z.step s0⟩
 obtain ⟨us, e1, z⟩ := zd8 z.of_bind
 refine ⟨G', d, s.e, r, RW.ok_of e1 fun ws rw' => ?_⟩
 refine (show zfr X.K X.mg G0 X.H₀ own ol Dn G (.nx (setAll Zd ks us)) from z) _ G' H' ((ok.step s).setAll (fun k hk => ?_) rw') (s0.trans s) s.g
 simpa using xay.mp ho k hk
def zvc (own : List Nat) (i j : Nat) (fs : DSt -> R (List D)) : DSt -> R Out := fun Z => (fs (mask own Z)).bind fun ds => match ds with
 | [a, b] => .ok (.nx ((Z.set i (some a)).set j (some b)))
 | _ => .bad
theorem zqC (i j : Nat) {x y : Str} {a b : Expr} {fs : DSt -> R (List D)} {px py pt : Pos} {kt k2 pt2} (hc : X.calm = true) (hN : X.N.Nodup) (ha : DA X E [a, b] fs) (hij : i ≠ j := by decide) (ho : (own.contains i || own.contains j) = false := by rfl) (hi : X.N[i]? = some x := by rfl) (hj : X.N[j]? = some y := by rfl)
  (hx : X.env.scope.names.lookup x = some .local := by rfl) (hy : X.env.scope.names.lookup y = some .local := by rfl)
  (hw : swappedStores [.Tuple [.Name x px, .Name y py] kt pt] (.Tuple [a, b] k2 pt2) X.env = pure (some [x, y]) := by rfl)
  (hs : swapsWithSole [.Tuple [.Name x px, .Name y py] kt pt] (.Tuple [a, b] k2 pt2) pos.line X.env = pure false := by rfl) : DS X E own own ol (.Assign [.Tuple [.Name x px, .Name y py] kt pt] (.Tuple [a, b] k2 pt2) pos) (zvc own i j fs) := fun G0 =>
 PS.mono' (ztt hc hN hi hj hij hx hy ha hw hs) fun Dn Z H ⟨G, Zd, ok, s0, q⟩ => by
 refine ⟨G, mask own Zd, ok.masked, q.of_bind.mono (fun ds _ z vs G' H' s r => ?_) fun _ z => z.step s0⟩
 rw [Bool.or_eq_false_iff] at ho
 match ds, z, r with
 | [a, b], z, ⟨v, _, e1, r1, ⟨w, _, e2, r2, r3⟩⟩ =>
  subst e1; subst e2; cases r3
  exact ⟨v, w, rfl, (show zfr X.K X.mg G0 X.H₀ own ol Dn G (.nx ((Zd.set i (some a)).set j (some b))) from z) _ G' H' (((ok.step s).set (znR ho.1) r1).set (znR ho.2) r2) (s0.trans s) s.g⟩
def zeh (Z : DSt) (i : Nat) : R (List D) := match Z[i]? with
 | some (some (.lst ds)) => .ok ds
 | _ => .bad
def zs5 (own : List Nat) (i : Nat) (fe : DSt -> R D) : DSt -> R Out := fun Z => (zeh Z i).bind fun ds => (fe (mask own Z)).bind fun d => bif most ds.length then .ok (.nx (Z.set i (some (.lst (ds ++ [d]))))) else .bad
def zwb (i : Nat) (fe : DSt -> R D) : DSt -> R Out := fun Z => (zeh Z i).bind fun ds => (fe Z).bind fun d => bif most ds.length && imm d then .ok (.nx (Z.set i (some (.lst (ds ++ [d]))))) else .bad
theorem zhU {Z : DSt} {i : Nat} {ds : List D} (h : zeh Z i = .ok ds) : Z[i]? = some (some (.lst ds)) := by
 unfold zeh at h
 split at h
 ·cases h; assumption
 ·cases h
theorem zhV {Z : DSt} {i : Nat} {e : D} : zeh Z i ≠ .err e := by
 unfold zeh
 split <;> simp
theorem zk1 (i : Nat) {apos cpos : Pos} {np : Pos} (he : DE X E e fe) (ho : own.contains i = true := by rfl) (hN : X.N[i]? = some x := by rfl) (hv : Vis X.env.scope x := by first | exact Or.inl rfl | exact Or.inr (Or.inl rfl) | exact Or.inr (Or.inr rfl)) (hd : (x == ("__debug__" : Str)) = false := by decide)
  (hcd : (x == ("__classdict__" : Str)) = false := by decide)
  (hbase : attributeBase (.Name x np) "append" X.env (eval (.Name x np) X.env) = eval (.Name x np) X.env := by rfl)
  (hfew : ((backTo cpos (starEach [e] X.env)).all (fun x => !x.1) && (backToKw cpos (keywordEach [] X.env)).all (fun x => x.1.isSome) && decide ([e].length + ([] : List Keyword).length + (if ([] : List Keyword).isEmpty then 0 else 1) < 30)) = true := by rfl)
  (hline : (apos.endLine == cpos.line) = true := by rfl) (hs : starEach [e] X.env = (false, eval e X.env) :: starEach [] X.env := by rfl) (hplain : (backTo cpos (starEach [] X.env)).any (·.1) = false := by rfl)
  (hsw : swapsWith (.Call (.Attribute (.Name x np) "append" apos) [e] [] cpos) none pos.line X.env = pure false := by rfl) :
  DS X E own own ol (.Expr (.Call (.Attribute (.Name x np) "append" apos) [e] [] cpos) pos) (zs5 own i fe) := fun G0 =>
 PS.mono' (zrN (zvG PySem.F.plainAttrs_list PySem.F.slot_list_append PySem.F.type_list_append znh (pv i hN hv hd hcd) (zab he zah hs) hbase hfew hline hs hplain) hsw) fun Dn Z H ⟨G, Zd, ok, s0, q⟩ => by
 have q1 := q.of_bind
 cases hL : zeh Zd i with
 | bad => rw [hL] at q1; exact q1.elim
 | err e => exact absurd hL zhV
 | ok ds =>
  rw [hL] at q1
  have q2 : RW ((fe (mask own Zd)).bind fun d => bif most ds.length then R.ok (.nx (Zd.set i (some (.lst (ds ++ [d]))))) else .bad) (zfr X.K X.mg G0 X.H₀ own ol Dn G) (zaL X.K X.mg E G0 X.H₀) := q1
  have hd := zhU hL
  have hi : i ∈ own := by simpa using ho
  obtain ⟨a, ds', vs, p1, p2, p3, p4, p5, p6⟩ := ok.mine i _ hi hd
  cases p2
  refine ⟨_, p1, .inl ⟨rfl, _, SqL.of p3⟩, ?_⟩
  refine ⟨G, mask own Zd, ok.masked, (show RW ((zad fe zaC) (mask own Zd)) _ _ from ?_)⟩
  unfold zad
  have q3 := q2.of_bind
  cases hf : fe (mask own Zd) with
  | bad => rw [hf] at q3; exact q3.elim
  | err e => rw [hf] at q3; exact (show zaL X.K X.mg E G0 X.H₀ e from q3).step s0
  | ok d =>
   rw [hf] at q3
   rintro ws G' H' s ⟨v, _, e1, r1, r2⟩
   subst e1
   cases r2
   cases hm : most ds.length with
   | false => rw [hm] at q3; exact (show False from q3).elim
   | true =>
    rw [hm] at q3
    have hlt : ds.length < sizeLine := of_decide_eq_true hm
    have ok' := ok.step s
    refine ⟨a, vs, v, rfl, rfl, s.h _ _ p3, by rw [<- p6.length]; exact hlt, ?_⟩
    exact (show zfr X.K X.mg G0 X.H₀ own ol Dn G (.nx (Zd.set i (some (.lst (ds ++ [d]))))) from q3) Z G' _ (ok'.write hi hd p1 ((p6.mono s.g).append (Reps.cons r1 Reps.nil))) ((s0.trans s).write (o := .lst vs) p5 (s.c _ _ p3 p4)) s.g
end
def zkh (ks : List Nat) (gp : D -> R (List D)) (fb : DSt -> R Out) : List D -> DSt -> R Out
 | [], Z => .ok (.nx Z)
 | d :: ds, Z => (gp d).noerr.bind fun us => (fb (setAll Z ks us)).bind fun o => match o with
  | .nx Z' => zkh ks gp fb ds Z'
  | .ct Z' => zkh ks gp fb ds Z'
  | .bk Z' => .ok (.nx Z')
  | .rt d => .ok (.rt d)
  | .rf d => .ok (.rf d)
def zsl (own ks : List Nat) (gp : D -> R (List D)) (fi : DSt -> R (List D)) (fb : DSt -> R Out) : DSt -> R Out := fun Z => (fi (mask own Z)).bind fun ds => zkh ks gp fb ds Z
structure XL (X : Cx) : Prop where
 own : PassesOwn (model X.prog X.w) X.A X.env X.xe
section
variable {X : Cx} {E : XK} {own ol ks : List Nat} {tg iter : Expr} {body : List Stmt} {gp : D -> R (List D)} {fi : DSt -> R (List D)} {fb : DSt -> R Out} {pos : Pos}
theorem zi3 (L : XL X) (hc : X.calm = true) (hi : DI X E tg iter fi) (hg : DG X tg ks gp) (hb : DSs X E own own own body fb) (ho : ks.all (fun i => !own.contains i) = true := by rfl) (hs : ∀ x, foldedSetIterable iter X.env x = pure x := by intro _; rfl) :
  DS X E own own ol (.For tg iter body [] pos) (zsl own ks gp fi fb) := fun G0 => PS.mono' (zty L.own hc hi hg (hb G0) hs) fun Dn Z H ⟨G, Zd, ok, s0, q⟩ => by
 refine ⟨G, mask own Zd, ok.masked, q.of_bind.mono (fun ds _ z J G1 H1 s1 it => ?_) fun _ z => z.step s0⟩
 have hko : ∀ k ∈ ks, k ∉ own := fun k hk => by simpa using xay.mp ho k hk
 refine ⟨fun i m Z' H' => m = ds.length - i /\ i <= ds.length /\ ∃ G' Zd', Ok X.K X.mg X.H₀ own Zd' Z' G' H' /\ zaI G1 G' /\ zbu G0 X.H₀ G' H' /\ RW (zkh ks gp fb (ds.drop i) Zd') (zfr X.K X.mg G0 X.H₀ own ol Dn G1) (zaL X.K X.mg E G0 X.H₀),
  ⟨ds.length, by simp, xbt _, G1, Zd, ok.step s1, zaI.refl _, s0.trans s1, z.mono (fun _ _ z => z.shift s1.g) fun _ z => z⟩, ?_⟩
 rintro i m Z' H' ⟨rfl, hi, G', Zd', ok', e', s', w⟩
 by_cases hlt : i < ds.length
 ·right
  obtain ⟨d, hd⟩ : ∃ d, ds[i]? = some d := ⟨ds[i], by simp [hlt]⟩
  obtain ⟨g1, g2⟩ := it.turn H' i d (e'.trans ok'.ext) hd
  have hdrop : ds.drop i = d :: ds.drop (i + 1) := by
   rw [xcn hlt]
   congr 1
   exact Option.some.inj ((xao hlt).symm.trans hd)
  rw [hdrop] at w
  refine ⟨g1, fun Z2 H2 => i + 1 <= ds.length /\ ∃ G' Zd', Ok X.K X.mg X.H₀ own Zd' Z2 G' H2 /\ zaI G1 G' /\ zbu G0 X.H₀ G' H2 /\ RW (zkh ks gp fb (ds.drop (i + 1)) Zd') (zfr X.K X.mg G0 X.H₀ own ol Dn G1) (zaL X.K X.mg E G0 X.H₀),
   fun Z2 H2 ⟨h1, h2⟩ => ⟨ds.length - (i + 1), by omega, rfl, h1, h2⟩, fun x H2 hy => ?_⟩
  obtain ⟨G2, s2, r2⟩ := g2 x H2 hy G' e' ok'.ext
  unfold zkh at w
  obtain ⟨us, e1, w⟩ := zd8 w.of_bind
  refine ⟨G2, d, s2.e, r2, RW.ok_of e1 fun ws rws => ?_⟩
  have ok2 := (ok'.step s2).setAll hko rws
  refine ⟨G2, _, ok2, s'.trans s2, w.of_bind.mono (fun o _ z => ?_) fun _ z => z⟩
  cases o with
  | nx Z3 => exact fun Z4 G4 H4 ok4 s4 e4 => ⟨hlt, G4, Z3, ok4, (e'.trans s2.g).trans e4, s4, z⟩
  | ct Z3 => exact fun Z4 G4 H4 ok4 s4 e4 => ⟨hlt, G4, Z3, ok4, (e'.trans s2.g).trans e4, s4, z⟩
  | bk Z3 => exact fun Z4 G4 H4 ok4 s4 e4 => (show zfr X.K X.mg G0 X.H₀ own ol Dn G1 (.nx Z3) from z) Z4 G4 H4 ok4 s4 ((e'.trans s2.g).trans e4)
  | rt d => exact z
  | rf d => exact z
 ·left
  have hi2 : i = ds.length := by omega
  subst hi2
  rw [List.drop_length] at w
  refine ⟨it.stop H' (e'.trans ok'.ext), ?_⟩
  unfold zkh at w
  exact (show zfr X.K X.mg G0 X.H₀ own ol Dn G1 (.nx Zd') from w) Z' G' H' ok' s' e'
def zaS (c : DSt -> R Bool) (fb : DSt -> R Out) : Nat -> DSt -> R Out
 | 0, _ => .bad
 | n + 1, Z => (c Z).bind fun k => bif k then (fb Z).bind fun o => match o with
   | .nx Z' => zaS c fb n Z'
   | .ct Z' => zaS c fb n Z'
   | .bk Z' => .ok (.nx Z')
   | .rt d => .ok (.rt d)
   | .rf d => .ok (.rf d)
  else .ok (.nx Z)
open Classical in
noncomputable def zbd (c : DSt -> R Bool) (fb : DSt -> R Out) : DSt -> R Out := fun Z => if h : ∃ n, zaS c fb n Z ≠ .bad then zaS c fb (Classical.choose h) Z else .bad
theorem zdo {c : DSt -> R Bool} {fb : DSt -> R Out} : ∀ (n : Nat) (Z : DSt) (r : R Out), zaS c fb n Z = r -> r ≠ .bad -> ∀ k, zaS c fb (n + k) Z = r
 | 0, Z, r, h, hr, k => absurd h.symm hr
 | n + 1, Z, r, h, hr, k => by
  rw [show n + 1 + k = (n + k) + 1 by omega]
  unfold zaS at h ⊢
  cases hc : c Z with
  | bad => rw [hc] at h; exact absurd h.symm hr
  | err e => rw [hc] at h; exact h
  | ok b =>
   rw [hc] at h
   cases b with
   | false => exact h
   | true =>
    have h' : (fb Z).bind (fun o => match o with
     | .nx Z' => zaS c fb n Z'
     | .ct Z' => zaS c fb n Z'
     | .bk Z' => .ok (.nx Z')
     | .rt d => .ok (.rt d)
     | .rf d => .ok (.rf d)) = r := h
    show (fb Z).bind (fun o => match o with
     | .nx Z' => zaS c fb (n + k) Z'
     | .ct Z' => zaS c fb (n + k) Z'
     | .bk Z' => .ok (.nx Z')
     | .rt d => .ok (.rt d)
     | .rf d => .ok (.rf d)) = r
    cases hf : fb Z with
    | bad => rw [hf] at h'; exact absurd h'.symm hr
    | err e => rw [hf] at h'; exact h'
    | ok o =>
     rw [hf] at h'
     cases o with
     | nx Z' => exact zdo n Z' r h' hr k
     | ct Z' => exact zdo n Z' r h' hr k
     | bk Z' => exact h'
     | rt d => exact h'
     | rf d => exact h'
theorem zbK {c : DSt -> R Bool} {fb : DSt -> R Out} {n : Nat} {Z : DSt} {r : R Out} (h : zaS c fb n Z = r) (hr : r ≠ .bad) : zbd c fb Z = r := by
 unfold zbd
 have hx : ∃ n, zaS c fb n Z ≠ .bad := ⟨n, by rw [h]; exact hr⟩
 rw [dif_pos hx]
 have h1 := Classical.choose_spec hx
 have a := zdo _ Z _ rfl h1 n
 have b := zdo _ Z _ h hr (Classical.choose hx)
 rw [Nat.add_comm] at b
 rw [<- a, b]
theorem zgh (c : DSt -> R Bool) (fb : DSt -> R Out) (Z : DSt) : zbd c fb Z = (c Z).bind fun k => bif k then (fb Z).bind fun o => match o with
   | .nx Z' => zbd c fb Z'
   | .ct Z' => zbd c fb Z'
   | .bk Z' => .ok (.nx Z')
   | .rt d => .ok (.rt d)
   | .rf d => .ok (.rf d)
  else .ok (.nx Z) := by
 cases hc : c Z with
 | bad =>
  unfold zbd
  rw [dif_neg]
  ·rfl
  ·rintro ⟨n, h⟩
   cases n with
   | zero => exact h rfl
   | succ n => unfold zaS at h; rw [hc] at h; exact h rfl
 | err e => exact zbK (n := 1) (by unfold zaS; rw [hc]; rfl) (by simp [R.bind])
 | ok b =>
  cases b with
  | false => exact zbK (n := 1) (by unfold zaS; rw [hc]; rfl) (by simp [R.bind])
  | true =>
   show zbd c fb Z = (fb Z).bind _
   cases hf : fb Z with
   | bad =>
    unfold zbd
    rw [dif_neg]
    ·rfl
    ·rintro ⟨n, h⟩
     cases n with
     | zero => exact h rfl
     | succ n => unfold zaS at h; rw [hc] at h; simp only [R.bind, cond_true] at h; rw [hf] at h; exact h rfl
   | err e => exact zbK (n := 1) (by unfold zaS; rw [hc]; show (fb Z).bind _ = _; rw [hf]; rfl) (by simp [R.bind])
   | ok o =>
    have go : ∀ Z', (∀ n, zaS c fb (n + 1) Z = zaS c fb n Z') -> zbd c fb Z = zbd c fb Z' := fun Z' hn => by
     by_cases hx : ∃ n, zaS c fb n Z' ≠ .bad
     ·obtain ⟨n, h⟩ := hx
      rw [zbK (n := n) rfl h, zbK (n := n + 1) (hn n) h]
     ·have : zbd c fb Z' = .bad := by unfold zbd; rw [dif_neg hx]
      rw [this]
      unfold zbd
      rw [dif_neg]
      rintro ⟨n, h⟩
      cases n with
      | zero => exact h rfl
      | succ n => rw [hn n] at h; exact hx ⟨n, h⟩
    cases o with
    | nx Z' => exact go Z' fun n => by unfold zaS; rw [hc]; show (fb Z).bind _ = _; rw [hf]; cases n <;> rfl
    | ct Z' => exact go Z' fun n => by unfold zaS; rw [hc]; show (fb Z).bind _ = _; rw [hf]; cases n <;> rfl
    | bk Z' => exact zbK (n := 1) (by unfold zaS; rw [hc]; show (fb Z).bind _ = _; rw [hf]; rfl) (by simp [R.bind])
    | rt d => exact zbK (n := 1) (by unfold zaS; rw [hc]; show (fb Z).bind _ = _; rw [hf]; rfl) (by simp [R.bind])
    | rf d => exact zbK (n := 1) (by unfold zaS; rw [hc]; show (fb Z).bind _ = _; rw [hf]; rfl) (by simp [R.bind])
theorem zhW {c : Expr} {fc : DSt -> R Bool} (L : XL X) (hc : DT X E c fc) (hb : DSs X E own own own body fb) : DS X E own own ol (.While c body [] pos) (zbd fc fb) := fun G0 => PS.mono' (zpp L.own hc (hb G0)) fun Dn Z H ⟨G, Zd, ok, s0, q⟩ => by
 have hx : ∃ n, zaS fc fb n Zd ≠ .bad := by
  by_cases hx : ∃ n, zaS fc fb n Zd ≠ .bad
  ·exact hx
  ·unfold zbd at q; rw [dif_neg hx] at q; exact (show False from q).elim
 obtain ⟨n, hn⟩ := hx
 rw [zbK rfl hn] at q
 refine ⟨fun m Z' H' => ∃ G' Zd', Ok X.K X.mg X.H₀ own Zd' Z' G' H' /\ zaI G G' /\ zbu G0 X.H₀ G' H' /\ RW (zaS fc fb m Zd') (zfr X.K X.mg G0 X.H₀ own ol Dn G) (zaL X.K X.mg E G0 X.H₀), ⟨n, G, Zd, ok, zaI.refl _, s0, q⟩, ?_⟩
 rintro m Z1 H1 ⟨G1, Zd1, ok1, e1, s1, w⟩
 cases m with
 | zero => exact (show False from w).elim
 | succ m =>
  unfold zaS at w
  have sp := ok1.pubStep s1
  refine ⟨_, Zd1, ok1.pub.1, w.of_bind.mono (fun k _ z G' H' s => ?_) fun _ z => z.step sp⟩
  have ok' := ok1.drop s.h
  have s' : zbu G0 X.H₀ G1 H' := s1.trans (.heap ok1.ext s.h)
  cases k with
  | true =>
   refine iteT ?_
   refine ⟨fun Z2 H2 => ∃ G' Zd', Ok X.K X.mg X.H₀ own Zd' Z2 G' H2 /\ zaI G G' /\ zbu G0 X.H₀ G' H2 /\ RW (zaS fc fb m Zd') (zfr X.K X.mg G0 X.H₀ own ol Dn G) (zaL X.K X.mg E G0 X.H₀), fun Z2 H2 h => ⟨m, xc0 _, h⟩, ?_⟩
   refine ⟨G1, Zd1, ok', s', (show RW ((fb Zd1).bind _) _ _ from z).of_bind.mono (fun o _ z => ?_) fun _ z => z⟩
   cases o with
   | nx Z3 => exact fun Z4 G4 H4 ok4 s4 e4 => ⟨G4, Z3, ok4, e1.trans e4, s4, z⟩
   | ct Z3 => exact fun Z4 G4 H4 ok4 s4 e4 => ⟨G4, Z3, ok4, e1.trans e4, s4, z⟩
   | bk Z3 => exact fun Z4 G4 H4 ok4 s4 e4 => (show zfr X.K X.mg G0 X.H₀ own ol Dn G (.nx Z3) from z) Z4 G4 H4 ok4 s4 (e1.trans e4)
   | rt d => exact z
   | rf d => exact z
  | false =>
   refine iteF ?_
   exact (show zfr X.K X.mg G0 X.H₀ own ol Dn G (.nx Zd1) from z) Z1 G1 H' ok' s' e1
end
def zen (n : Nat) (ds : List D) : DSt := ds.map some ++ List.replicate (n - ds.length) none
def fin : R Out -> R D
 | .ok (.rt d) => .ok d
 | .ok (.rf ds) => .ok (.lst ds)
 | .ok (.nx _) => .ok .non
 | .ok _ => .bad
 | .err e => .err e
 | .bad => .bad
def fnM (n nN : Nat) (body : DSt -> R Out) : List D -> R D := fun ds => bif ds.length == n then fin (body (zen nN ds)) else .bad
theorem Reps.startOk {K : xFg} {mg : Str -> Option Value} {G H : Hp} (e : zaI G H) : ∀ {ds : List D} {vs : List V} (k : Nat), Reps K mg G ds vs -> Ok0 K mg (ds.map some ++ List.replicate k none) (vs.map some ++ List.replicate k none) G H
 | [], _, k, h => by
  cases h
  have := Ok0.nones (K := K) (mg := mg) (G := G) (H := H) (Zd := []) (Z := []) ⟨e, rfl, fun i d q => by simp at q⟩ k
  simpa using this
 | d :: ds, _, k, ⟨v, r, h1, h2, h3⟩ => by
  subst h1
  exact (Reps.startOk e k h3).cons (x := some d) (y := some v) fun d' q => by cases q; exact ⟨v, rfl, h2⟩
section
variable {P : Program} {w : World} {K : xFg} {mg : Str -> Option Value} {base : Heap}
theorem zax.mk' {x qual : Str} {st : Stmt} {f : Addr} {fd : FuncData} {N ps : List Str} {k n nN : Nat} {own' : List Nat} {body : DSt -> R Out} (F : Fun K x qual st f fd) (S : zas N ps (zae st)) (hm : mg x = some (.ref f)) (b : za6 K fd ps [])
  (hn : ps.length = n) (hN : N.length = nN)
  (hb : ∀ (X : Cx) (E : XK), (∃ cdv A outer s H, X = zit (CXe P w) P w K mg base N qual (zae st) f cdv A outer s H E) -> XC X E k -> XL X -> DSs X E [] own' [] (zaq st) body) : zax P w K mg base (k + 1) x (fnM n nN body) := by
 refine ⟨f, fd, ps, F.okX S (fun vs H Q E h => ?_) (fun cdv A outer s H vs Q E hr hsp => ?_), hm, F.kp, b⟩
 ·obtain ⟨G, ds, e, r, q⟩ := h
  by_cases hd : ds.length = n
  ·rw [<- r.length, hd, hn]
  ·have : (ds.length == n) = false := by simpa using hd
   unfold fnM at q
   rw [this] at q
   exact (show False from q).elim
 ·obtain ⟨G, ds, e, r, q⟩ := hsp
  have hd : ds.length = n := by
   by_cases hd : ds.length = n
   ·exact hd
   ·have : (ds.length == n) = false := by simpa using hd
    unfold fnM at q
    rw [this] at q
    exact (show False from q).elim
  unfold fnM at q
  rw [show (ds.length == n) = true by simpa using hd] at q
  have q' : RW (fin (body (zen nN ds))) (zay K mg Q G H) (zaL K mg E G H) := q
  refine ⟨_, hb _ E ⟨cdv, A, outer, s, H, rfl⟩ ⟨rfl, hr, ztP⟩ ⟨PassesOwn.leaving⟩ G, G, zen nN ds, ?_, .refl e, ?_⟩
  ·have := Reps.startOk e (N.length - vs.length) r
   unfold L2.start zen
   rw [<- hN, r.length]
   exact .zero this
  ·cases hbd : body (zen nN ds) with
   | bad => rw [hbd] at q'; exact q'
   | err e => rw [hbd] at q'; exact q'
   | ok o =>
    rw [hbd] at q'
    cases o with
    | rt d => exact fun v G' H' s r => (show zay K mg Q G H d from q') v G' H' s r
    | rf es =>
     intro a vs G' H' s n e g r
     have q2 : zay K mg Q G H (.lst es) := q'
     have sg : zaI G' (upd G' a (.lst vs)) := zcl g
     refine q2 (.ref a) (upd G' a (.lst vs)) H' ⟨s.g.trans sg, s.h, fun b u p => ?_, fun b u p1 p2 => ?_⟩ ⟨a, vs, rfl, SqL.of zav, r.mono sg⟩
     ·by_cases hb : b = a
      ·subst hb; rw [zav] at p; cases p; exact e
      ·rw [zap hb] at p; exact s.e b u p
     ·have hb : b ≠ a := zal p1 n
      rw [zap hb]; exact s.c b u p1 p2
    | nx Z => exact fun Z' G' H' ok s _ => (show zay K mg Q G H .non from q') .non G' H' s rfl
    | bk Z => exact (show False from q').elim
    | ct Z => exact (show False from q').elim
end
theorem XC.lc {X : Cx} {E : XK} {k : Nat} (C : XC X E k) (scope : Scope) (NY : List Str) (s0 : Shared) (H0 : Hp) (Ca : Addr) (ex : List Addr) : XC (zdy X scope NY s0 H0 Ca ex) E0 k := ⟨C.calm, C.room, zvP⟩
end DL
namespace DL
open L2
mutual
def eqD : D -> D -> Bool
 | .non, .non => true
 | .bl a, .bl b => a == b
 | .int a, .int b => a == b
 | .str a, .str b => a == b
 | .bl a, .int b => (if a then (1 : Int) else 0) == b
 | .int a, .bl b => a == (if b then (1 : Int) else 0)
 | .tup xs, .tup ys => eqDs xs ys
 | .lst xs, .lst ys => eqDs xs ys
 | _, _ => false
def eqDs : List D -> List D -> Bool
 | [], [] => true
 | x :: xs, y :: ys => eqD x y && eqDs xs ys
 | _, _ => false
end
def zd9 : Nat -> D -> Bool
 | _, .non => true
 | _, .bl _ => true
 | _, .int _ => true
 | _, .str _ => true
 | n + 1, .tup xs => xs.all (zd9 n)
 | n + 1, .lst xs => xs.all (zd9 n)
 | _, _ => false
theorem zea : ∀ (xs ys : List D), ((List.range (min xs.length ys.length)).all (fun j => eqD (xs.getD j .non) (ys.getD j .non)) && xs.length == ys.length) = eqDs xs ys
 | [], [] => by unfold eqDs; rfl
 | [], _ :: _ => by unfold eqDs; simp
 | _ :: _, [] => by unfold eqDs; simp
 | x :: xs, y :: ys => by
  unfold eqDs
  rw [<- zea xs ys]
  simp only [xap, Nat.succ_min_succ, List.range_succ_eq_map, List.all_cons, List.getD_cons_zero, List.all_map, Bool.and_assoc]
  congr 2
  rw [xc5]; simp
theorem zk2 : ∀ (n : Nat) (d : D), zd9 n d = true -> eqD d d = true := by
 intro n
 induction n with
 | zero => intro d h; cases d <;> first | (simp [zd9] at h; done) | (unfold eqD; simp; done)
 | succ n ih =>
  have hl : ∀ xs : List D, xs.all (zd9 n) = true -> eqDs xs xs = true := fun xs => by
   induction xs with
   | nil => intro _; unfold eqDs; rfl
   | cons x xs ihx =>
    intro h
    rw [List.all_cons, xav] at h
    unfold eqDs
    rw [ih x h.1, ihx h.2]; rfl
  intro d h
  cases d with
  | tup xs => unfold eqD; exact hl xs (by unfold zd9 at h; exact h)
  | lst xs => unfold eqD; exact hl xs (by unfold zd9 at h; exact h)
  | _ => first | (simp [zd9] at h; done) | (unfold eqD; simp; done)
def vOf : D -> Option V
 | .non => some .non
 | .bl b => some (.bl b)
 | .int i => some (.int i)
 | .str x => some (.str x)
 | _ => none
theorem zbL {K : xFg} {mg : Str -> Option Value} {G : Hp} {d : D} {v x : V} (h : vOf d = some v) (r : Rep K mg G d x) : x = v /\ zj6 v = true := by
 cases d <;> first | (simp [vOf] at h; done) | (simp only [vOf, Option.some.injEq] at h; subst h; simp only [Rep] at r; exact ⟨r, rfl⟩)
theorem zpV {d d' : D} {v v' : V} (h : vOf d = some v) (h' : vOf d' = some v') : eqD d d' = eqV v v' := by
 cases d <;> first | (simp [vOf] at h; done) | (simp only [vOf, Option.some.injEq] at h; subst h; cases d' <;> first | (simp [vOf] at h'; done) | (simp only [vOf, Option.some.injEq] at h'; subst h'; unfold eqD eqV; first | rfl | simp))
theorem znV {d d' : D} {v : V} (h : vOf d = some v) (h' : vOf d' = some v) : d = d' := by
 cases d <;> first | (simp [vOf] at h; done) | (simp only [vOf, Option.some.injEq] at h; subst h; cases d' <;> first | (simp [vOf] at h'; done) | (simp only [vOf, Option.some.injEq] at h'; cases h'; rfl))
theorem zba {n : Nat} {d : D} (h : zd9 n d = true) : (∃ v, vOf d = some v) \/ (∃ m xs, n = m + 1 /\ d = .tup xs /\ xs.all (zd9 m) = true) \/ (∃ m xs, n = m + 1 /\ d = .lst xs /\ xs.all (zd9 m) = true) := by
 cases d with
 | tup xs => cases n with
  | zero => simp [zd9] at h
  | succ m => exact .inr (.inl ⟨m, xs, rfl, rfl, by unfold zd9 at h; exact h⟩)
 | lst xs => cases n with
  | zero => simp [zd9] at h
  | succ m => exact .inr (.inr ⟨m, xs, rfl, rfl, by unfold zd9 at h; exact h⟩)
 | non => exact .inl ⟨_, rfl⟩
 | bl b => exact .inl ⟨_, rfl⟩
 | int i => exact .inl ⟨_, rfl⟩
 | str x => exact .inl ⟨_, rfl⟩
 | _ => simp [zd9] at h
section
variable {X : Cx} {pins : List (Addr × Obj)} {Z : St} {G H : Hp} {s : Shared}
theorem zk3 (I : Inv X pins Z H s) {a : Addr} {xs ys : List V} (h1 : SqT X.K H a xs) (h2 : SqL X.K H a ys) : False := by
 obtain ⟨_, _, ⟨o, e, c, _⟩, _⟩ := I.tuple h1
 obtain ⟨_, _, ⟨o', _, e', c', _⟩, _⟩ := I.list h2
 rw [e] at e'; cases e'
 rw [c] at c'
 exact absurd c' (by simp)
theorem zeb {v : V} {a : Addr} (h : zj6 v = true) : v ≠ .ref a := by rintro rfl; cases h
theorem zki (I : Inv X pins Z H s) (e : zaI G H) : ∀ (n : Nat) {d d' : D} {v : V}, zd9 n d = true -> zd9 n d' = true -> Rep X.K X.mg G d v -> Rep X.K X.mg G d' v -> d = d' := by
 intro n
 induction n with
 | zero =>
  intro d d' v h h' r r'
  rcases zba h with ⟨w, hw⟩ | ⟨_, _, z, _⟩ | ⟨_, _, z, _⟩ <;> try omega
  rcases zba h' with ⟨w', hw'⟩ | ⟨_, _, z, _⟩ | ⟨_, _, z, _⟩ <;> try omega
  have e1 := (zbL hw r).1
  have e2 := (zbL hw' r').1
  rw [<- e1] at hw; rw [<- e2] at hw'
  exact znV hw hw'
 | succ n ih =>
  have hl : ∀ (xs ys : List D) (vs : List V), xs.all (zd9 n) = true -> ys.all (zd9 n) = true -> Reps X.K X.mg G xs vs -> Reps X.K X.mg G ys vs -> xs = ys := by
   intro xs
   induction xs with
   | nil =>
    intro ys vs _ _ r r'
    cases r
    cases ys with
    | nil => rfl
    | cons y ys => obtain ⟨_, _, z, _⟩ := r'; cases z
   | cons x xs ihx =>
    intro ys vs h h' r r'
    obtain ⟨v, t, rfl, r1, r2⟩ := r
    cases ys with
    | nil => cases r'
    | cons y ys =>
     obtain ⟨v', t', z, r1', r2'⟩ := r'
     cases z
     rw [List.all_cons, xav] at h h'
     rw [ih h.1 h'.1 r1 r1', ihx ys _ h.2 h'.2 r2 r2']
  intro d d' v h h' r r'
  rcases zba h with ⟨w, hw⟩ | ⟨m, xs, hm, rfl, hx⟩ | ⟨m, xs, hm, rfl, hx⟩
  ·rcases zba h' with ⟨w', hw'⟩ | ⟨m', ys, hm', rfl, hy⟩ | ⟨m', ys, hm', rfl, hy⟩
   ·have e1 := (zbL hw r).1
    have e2 := (zbL hw' r').1
    rw [<- e1] at hw; rw [<- e2] at hw'
    exact znV hw hw'
   ·obtain ⟨e1, e2⟩ := zbL hw r
    obtain ⟨a, vs, z, _⟩ := r'
    exact absurd (e1.symm.trans z) (zeb e2)
   ·obtain ⟨e1, e2⟩ := zbL hw r
    obtain ⟨a, vs, z, _⟩ := r'
    exact absurd (e1.symm.trans z) (zeb e2)
  ·obtain rfl : n = m := by omega
   obtain ⟨a, vs, rfl, q1, q2⟩ := r
   rcases zba h' with ⟨w', hw'⟩ | ⟨m', ys, hm', rfl, hy⟩ | ⟨m', ys, hm', rfl, hy⟩
   ·obtain ⟨e1, e2⟩ := zbL hw' r'
    exact absurd e1.symm (zeb e2)
   ·obtain rfl : n = m' := by omega
    obtain ⟨a', vs', z, q1', q2'⟩ := r'
    cases z
    have := I.tuple_inj (zaI.sqT e q1) (zaI.sqT e q1')
    subst this
    rw [hl xs ys _ hx hy q2 q2']
   ·obtain ⟨a', vs', z, q1', q2'⟩ := r'
    cases z
    exact (zk3 I (zaI.sqT e q1) (e.seq q1')).elim
  ·obtain rfl : n = m := by omega
   obtain ⟨a, vs, rfl, q1, q2⟩ := r
   rcases zba h' with ⟨w', hw'⟩ | ⟨m', ys, hm', rfl, hy⟩ | ⟨m', ys, hm', rfl, hy⟩
   ·obtain ⟨e1, e2⟩ := zbL hw' r'
    exact absurd e1.symm (zeb e2)
   ·obtain ⟨a', vs', z, q1', q2'⟩ := r'
    cases z
    exact (zk3 I (zaI.sqT e q1') (e.seq q1)).elim
   ·obtain rfl : n = m' := by omega
    obtain ⟨a', vs', z, q1', q2'⟩ := r'
    cases z
    have := I.list_inj (e.seq q1) (e.seq q1')
    subst this
    rw [hl xs ys _ hx hy q2 q2']
theorem zue {α : Type} {us : List α} {j : Nat} (h : j < us.toArray.size) : us.toArray[j] = us[j]'(by simpa using h) := by simp
theorem znW {α : Type} {xs : List α} {d : α} {j : Nat} (h : j < xs.length) : xs.getD j d = xs[j] := by simp [List.getD, h]
open SeqAt in
theorem zfY {A : Around} {n : Nat} (ih : ∀ {d d' : D} {x x' : V} {u u' : Value}, zd9 n d = true -> zd9 n d' = true -> Rep X.K X.mg G d x -> RelV x u -> Rep X.K X.mg G d' x' -> RelV x' u' -> EqAt A s u u' (eqD d d'))
  {xs ys : List D} {vs ws : List V} {us us' : List Value} (h : xs.all (zd9 n) = true) (h' : ys.all (zd9 n) = true) (r : Reps X.K X.mg G xs vs) (q : zbf vs us) (r' : Reps X.K X.mg G ys ws) (q' : zbf ws us') :
  ∀ j (h1 : j < us.toArray.size) (h2 : j < us'.toArray.size), EqAt A s us.toArray[j] us'.toArray[j] (eqD (xs.getD j .non) (ys.getD j .non)) := by
 intro j h1 h2
 have l1 : j < vs.length := by rw [q.length]; simpa using h1
 have l2 : j < ws.length := by rw [q'.length]; simpa using h2
 have l3 : j < xs.length := by rw [r.length]; exact l1
 have l4 : j < ys.length := by rw [r'.length]; exact l2
 obtain ⟨v, e1, e2⟩ := r.get (i := j) (d := xs[j]) (by simp [l3])
 obtain ⟨w, e3, e4⟩ := r'.get (i := j) (d := ys[j]) (by simp [l4])
 obtain ⟨u, e5, e6⟩ := q.get e1
 obtain ⟨u', e7, e8⟩ := q'.get e3
 have z1 : us.toArray[j] = u := by rw [zue h1]; exact (xah.mp e5).2
 have z2 : us'.toArray[j] = u' := by rw [zue h2]; exact (xah.mp e7).2
 rw [z1, z2, znW l3, znW l4]
 exact ih (xay.mp h _ (xbx l3)) (xay.mp h' _ (xbx l4)) e2 e6 e4 e8
theorem in1_units (A : Around) : A.in1.units = A.units + 1 := rfl
open SeqAt in
theorem zuf {A : Around} {x x' : V} {u u' : Value} (q : RelV x u) (q' : RelV x' u') (f : zj6 x = true) (f' : zj6 x' = true) : RcAt A s u u' (eqV x x') /\ RcNeAt A s u u' (!eqV x x') := by
 cases x with
 | non =>
  cases (show u = Value.none from q)
  cases x' with
  | non => cases (show u' = Value.none from q'); exact ⟨RcAt.none_none, RcNeAt.none_none⟩
  | bl b => cases (show u' = Value.bool b from q'); exact ⟨RcAt.none_bool b, RcNeAt.none_bool b⟩
  | int b => obtain ⟨tb, rfl⟩ := (show ∃ t, u' = Value.int b t from q'); exact ⟨RcAt.none_int b tb, RcNeAt.none_int b tb⟩
  | str b => obtain ⟨tb, rfl⟩ := (show ∃ t, u' = Value.str b t from q'); exact ⟨RcAt.none_str b tb, RcNeAt.none_str b tb⟩
  | _ => cases f'
 | bl a =>
  cases (show u = Value.bool a from q)
  cases x' with
  | non => cases (show u' = Value.none from q'); exact ⟨RcAt.bool_none a, RcNeAt.bool_none a⟩
  | bl b => cases (show u' = Value.bool b from q'); exact ⟨RcAt.bool_bool a b, RcNeAt.bool_bool a b⟩
  | int b => obtain ⟨tb, rfl⟩ := (show ∃ t, u' = Value.int b t from q'); exact ⟨RcAt.bool_int a b tb, RcNeAt.bool_int a b tb⟩
  | str b => obtain ⟨tb, rfl⟩ := (show ∃ t, u' = Value.str b t from q'); exact ⟨RcAt.bool_str a b tb, RcNeAt.bool_str a b tb⟩
  | _ => cases f'
 | int a =>
  obtain ⟨ta, rfl⟩ := (show ∃ t, u = Value.int a t from q)
  cases x' with
  | non => cases (show u' = Value.none from q'); exact ⟨RcAt.int_none a ta, RcNeAt.int_none a ta⟩
  | bl b => cases (show u' = Value.bool b from q'); exact ⟨RcAt.int_bool a ta b, RcNeAt.int_bool a ta b⟩
  | int b => obtain ⟨tb, rfl⟩ := (show ∃ t, u' = Value.int b t from q'); exact ⟨RcAt.int_int a ta b tb, RcNeAt.int_int a ta b tb⟩
  | str b => obtain ⟨tb, rfl⟩ := (show ∃ t, u' = Value.str b t from q'); exact ⟨RcAt.int_str a ta b tb, RcNeAt.int_str a ta b tb⟩
  | _ => cases f'
 | str a =>
  obtain ⟨ta, rfl⟩ := (show ∃ t, u = Value.str a t from q)
  cases x' with
  | non => cases (show u' = Value.none from q'); exact ⟨RcAt.str_none a ta, RcNeAt.str_none a ta⟩
  | bl b => cases (show u' = Value.bool b from q'); exact ⟨RcAt.str_bool a ta b, RcNeAt.str_bool a ta b⟩
  | int b => obtain ⟨tb, rfl⟩ := (show ∃ t, u' = Value.int b t from q'); exact ⟨RcAt.str_int a ta b tb, RcNeAt.str_int a ta b tb⟩
  | str b => obtain ⟨tb, rfl⟩ := (show ∃ t, u' = Value.str b t from q'); exact ⟨RcAt.str_str a ta b tb, RcNeAt.str_str a ta b tb⟩
  | _ => cases f'
 | _ => cases f
open SeqAt in
theorem zcQ {A : Around} {x : V} {u : Value} {b : Addr} {items : Array Value} (fx : zj6 x = true) (q : RelV x u) (hA : A.units < cLine) (h : s.heap.IsTuple b items \/ s.heap.IsList b items) : EqAt A s u (.ref b) false /\ EqAt A s (.ref b) u false /\ RcAt A s u (.ref b) false /\ RcAt A s (.ref b) u false /\ RcNeAt A s u (.ref b) true /\ RcNeAt A s (.ref b) u true := by
 cases x with
 | non =>
  obtain rfl : u = Value.none := q
  rcases h with h | h
  ·exact ⟨EqAt.none_tuple h hA, EqAt.tuple_none h hA, RcAt.none_tuple h hA, RcAt.tuple_none h hA, RcNeAt.none_tuple h hA, RcNeAt.tuple_none h hA⟩
  ·exact ⟨EqAt.none_list h hA, EqAt.list_none h hA, RcAt.none_list h hA, RcAt.list_none h hA, RcNeAt.none_list h hA, RcNeAt.list_none h hA⟩
 | bl a =>
  obtain rfl : u = Value.bool a := q
  rcases h with h | h
  ·exact ⟨EqAt.bool_tuple _ h hA, EqAt.tuple_bool _ h hA, RcAt.bool_tuple _ h hA, RcAt.tuple_bool _ h hA, RcNeAt.bool_tuple _ h hA, RcNeAt.tuple_bool _ h hA⟩
  ·exact ⟨EqAt.bool_list _ h hA, EqAt.list_bool _ h hA, RcAt.bool_list _ h hA, RcAt.list_bool _ h hA, RcNeAt.bool_list _ h hA, RcNeAt.list_bool _ h hA⟩
 | int a =>
  obtain ⟨t, rfl⟩ : ∃ t, u = Value.int a t := q
  rcases h with h | h
  ·exact ⟨EqAt.int_tuple _ _ h hA, EqAt.tuple_int _ _ h hA, RcAt.int_tuple _ _ h hA, RcAt.tuple_int _ _ h hA, RcNeAt.int_tuple _ _ h hA, RcNeAt.tuple_int _ _ h hA⟩
  ·exact ⟨EqAt.int_list _ _ h hA, EqAt.list_int _ _ h hA, RcAt.int_list _ _ h hA, RcAt.list_int _ _ h hA, RcNeAt.int_list _ _ h hA, RcNeAt.list_int _ _ h hA⟩
 | str a =>
  obtain ⟨t, rfl⟩ : ∃ t, u = Value.str a t := q
  rcases h with h | h
  ·exact ⟨EqAt.str_tuple _ _ h hA, EqAt.tuple_str _ _ h hA, RcAt.str_tuple _ _ h hA, RcAt.tuple_str _ _ h hA, RcNeAt.str_tuple _ _ h hA, RcNeAt.tuple_str _ _ h hA⟩
  ·exact ⟨EqAt.str_list _ _ h hA, EqAt.list_str _ _ h hA, RcAt.str_list _ _ h hA, RcAt.list_str _ _ h hA, RcNeAt.str_list _ _ h hA, RcNeAt.list_str _ _ h hA⟩
 | _ => cases fx
theorem zeP {xs ys : List D} : eqD (.tup xs) (.tup ys) = eqDs xs ys /\ eqD (.lst xs) (.lst ys) = eqDs xs ys /\ eqD (.tup xs) (.lst ys) = false /\ eqD (.lst xs) (.tup ys) = false := by
 refine ⟨?_, ?_, ?_, ?_⟩ <;> (unfold eqD; rfl)
theorem zdp {d : D} {v : V} {ys : List D} (h : vOf d = some v) : eqD d (.tup ys) = false /\ eqD d (.lst ys) = false /\ eqD (.tup ys) d = false /\ eqD (.lst ys) d = false := by
 cases d <;> first | (simp [vOf] at h; done) | (refine ⟨?_, ?_, ?_, ?_⟩ <;> (unfold eqD; rfl))
set_option maxHeartbeats 4000000 in
open SeqAt in
theorem znX (I : Inv X pins Z H s) (e : zaI G H) : ∀ (n : Nat) {A : Around} {d d' : D} {x x' : V} {u u' : Value}, A.units + n < cLine -> zd9 n d = true -> zd9 n d' = true -> Rep X.K X.mg G d x -> RelV x u -> Rep X.K X.mg G d' x' -> RelV x' u' ->
  EqAt A s u u' (eqD d d') /\ RcAt A s u u' (eqD d d') /\ RcNeAt A s u u' (!eqD d d') := by
 have ff : ∀ {A : Around} {d d' : D} {v v' x x' : V} {u u' : Value}, vOf d = some v -> vOf d' = some v' -> Rep X.K X.mg G d x -> RelV x u -> Rep X.K X.mg G d' x' -> RelV x' u' -> EqAt A s u u' (eqD d d') /\ RcAt A s u u' (eqD d d') /\ RcNeAt A s u u' (!eqD d d') := by
  intro A d d' v v' x x' u u' hv hv' r q r' q'
  obtain ⟨rfl, f1⟩ := zbL hv r
  obtain ⟨rfl, f2⟩ := zbL hv' r'
  rw [zpV hv hv']
  exact ⟨ztK q q' f1 f2, zuf q q' f1 f2⟩
 have seq : ∀ {d : D} {m : Nat} {xs : List D} {x : V} {u : Value}, d = .tup xs \/ d = .lst xs -> Rep X.K X.mg G d x -> RelV x u -> ∃ b items, u = .ref b /\ (s.heap.IsTuple b items \/ s.heap.IsList b items) := by
  intro d m xs x u hd r q
  rcases hd with rfl | rfl
  ·obtain ⟨a, vs, rfl, q1, q2⟩ := r
   obtain ⟨us, v1, t1, _⟩ := I.tuple (zaI.sqT e q1)
   exact ⟨a, _, q, .inl t1⟩
  ·obtain ⟨a, vs, rfl, q1, q2⟩ := r
   obtain ⟨us, v1, t1, _⟩ := I.list (e.seq q1)
   exact ⟨a, _, q, .inr t1.isList⟩
 intro n
 induction n with
 | zero =>
  intro A d d' x x' u u' hu h h' r q r' q'
  rcases zba h with ⟨w, hw⟩ | ⟨_, _, z, _⟩ | ⟨_, _, z, _⟩ <;> try omega
  rcases zba h' with ⟨w', hw'⟩ | ⟨_, _, z, _⟩ | ⟨_, _, z, _⟩ <;> try omega
  exact ff hw hw' r q r' q'
 | succ n ih =>
  intro A d d' x x' u u' hu h h' r q r' q'
  have hA : A.units < cLine := by omega
  have ih' : ∀ {d d' : D} {x x' : V} {u u' : Value}, zd9 n d = true -> zd9 n d' = true -> Rep X.K X.mg G d x -> RelV x u -> Rep X.K X.mg G d' x' -> RelV x' u' -> EqAt A.in1 s u u' (eqD d d') :=
   fun a b c d e f => (ih (A := A.in1) (by rw [in1_units]; omega) a b c d e f).1
  rcases zba h with ⟨w, hw⟩ | ⟨m, xs, hm, rfl, hx⟩ | ⟨m, xs, hm, rfl, hx⟩
  ·rcases zba h' with ⟨w', hw'⟩ | ⟨m', ys, hm', rfl, hy⟩ | ⟨m', ys, hm', rfl, hy⟩
   ·exact ff hw hw' r q r' q'
   ·obtain ⟨rfl, f1⟩ := zbL hw r
    obtain ⟨b, items, rfl, hb⟩ := seq (m := m') (.inl rfl) r' q'
    obtain ⟨z1, _, z3, _, z5, _⟩ := zcQ f1 q hA hb
    rw [(zdp hw).1]; exact ⟨z1, z3, z5⟩
   ·obtain ⟨rfl, f1⟩ := zbL hw r
    obtain ⟨b, items, rfl, hb⟩ := seq (m := m') (.inr rfl) r' q'
    obtain ⟨z1, _, z3, _, z5, _⟩ := zcQ f1 q hA hb
    rw [(zdp hw).2.1]; exact ⟨z1, z3, z5⟩
  ·obtain rfl : n = m := by omega
   rcases zba h' with ⟨w', hw'⟩ | ⟨m', ys, hm', rfl, hy⟩ | ⟨m', ys, hm', rfl, hy⟩
   ·obtain ⟨rfl, f1⟩ := zbL hw' r'
    obtain ⟨b, items, rfl, hb⟩ := seq (m := n) (.inl rfl) r q
    obtain ⟨_, z2, _, z4, _, z6⟩ := zcQ f1 q' hA hb
    rw [(zdp hw').2.2.1]; exact ⟨z2, z4, z6⟩
   ·obtain rfl : n = m' := by omega
    have hr := r; have hr' := r'
    obtain ⟨a, vs, rfl, q1, q2⟩ := r
    obtain rfl : u = Value.ref a := q
    obtain ⟨us, v1, t1, _⟩ := I.tuple (zaI.sqT e q1)
    obtain ⟨b, ws, rfl, q1', q2'⟩ := r'
    obtain rfl : u' = Value.ref b := q'
    obtain ⟨us', v1', t1', _⟩ := I.tuple (zaI.sqT e q1')
    have t1 : s.heap.IsTuple a us.toArray := t1
    have t1' : s.heap.IsTuple b us'.toArray := t1'
    have z := RcAt.tuples t1 t1' hA (zfY ih' hx hy q2 v1 q2' v1')
    have zn := RcNeAt.tuples t1 t1' hA (zfY ih' hx hy q2 v1 q2' v1')
    have hz : ((List.range (min us.toArray.size us'.toArray.size)).all (fun j => eqD (xs.getD j .non) (ys.getD j .non)) && us.toArray.size == us'.toArray.size) = eqD (.tup xs) (.tup ys) := by
     rw [zeP.1, <- zea]
     simp only [xag, <- v1.length, <- v1'.length, <- q2.length, <- q2'.length]
    rw [hz] at z zn
    refine ⟨?_, z, zn⟩
    by_cases hab : a = b
    ·subst hab
     have ed := zki I e (n + 1) h h' hr hr'
     rw [ed, zk2 _ _ h']; exact EqAt.same _
    ·exact EqAt.of_refs hab z
   ·obtain ⟨a, vs, rfl, q1, q2⟩ := r
    obtain rfl : u = Value.ref a := q
    obtain ⟨us, v1, t1, _⟩ := I.tuple (zaI.sqT e q1)
    obtain ⟨b, ws, rfl, q1', q2'⟩ := r'
    obtain rfl : u' = Value.ref b := q'
    obtain ⟨us', v1', t1', _⟩ := I.list (e.seq q1')
    have t1 : s.heap.IsTuple a us.toArray := t1
    rw [zeP.2.2.1]
    exact ⟨EqAt.tuple_list t1 t1'.isList hA, RcAt.tuple_list t1 t1'.isList hA, RcNeAt.tuple_list t1 t1'.isList hA⟩
  ·obtain rfl : n = m := by omega
   rcases zba h' with ⟨w', hw'⟩ | ⟨m', ys, hm', rfl, hy⟩ | ⟨m', ys, hm', rfl, hy⟩
   ·obtain ⟨rfl, f1⟩ := zbL hw' r'
    obtain ⟨b, items, rfl, hb⟩ := seq (m := n) (.inr rfl) r q
    obtain ⟨_, z2, _, z4, _, z6⟩ := zcQ f1 q' hA hb
    rw [(zdp hw').2.2.2]; exact ⟨z2, z4, z6⟩
   ·obtain ⟨a, vs, rfl, q1, q2⟩ := r
    obtain rfl : u = Value.ref a := q
    obtain ⟨us, v1, t1, _⟩ := I.list (e.seq q1)
    obtain ⟨b, ws, rfl, q1', q2'⟩ := r'
    obtain rfl : u' = Value.ref b := q'
    obtain ⟨us', v1', t1', _⟩ := I.tuple (zaI.sqT e q1')
    have t1' : s.heap.IsTuple b us'.toArray := t1'
    rw [zeP.2.2.2]
    exact ⟨EqAt.list_tuple t1.isList t1' hA, RcAt.list_tuple t1.isList t1' hA, RcNeAt.list_tuple t1.isList t1' hA⟩
   ·obtain rfl : n = m' := by omega
    have hr := r; have hr' := r'
    obtain ⟨a, vs, rfl, q1, q2⟩ := r
    obtain rfl : u = Value.ref a := q
    obtain ⟨us, v1, t1, _⟩ := I.list (e.seq q1)
    obtain ⟨b, ws, rfl, q1', q2'⟩ := r'
    obtain rfl : u' = Value.ref b := q'
    obtain ⟨us', v1', t1', _⟩ := I.list (e.seq q1')
    have both : RcAt A s (.ref a) (.ref b) (eqD (.lst xs) (.lst ys)) /\ RcNeAt A s (.ref a) (.ref b) (!eqD (.lst xs) (.lst ys)) := by
     by_cases hl : us.toArray.size = us'.toArray.size
     ·have z := RcAt.lists t1.isList t1'.isList hl hA (zfY ih' hx hy q2 v1 q2' v1')
      have zn := RcNeAt.lists t1.isList t1'.isList hl hA (zfY ih' hx hy q2 v1 q2' v1')
      have hz : (List.range us.toArray.size).all (fun j => eqD (xs.getD j .non) (ys.getD j .non)) = eqD (.lst xs) (.lst ys) := by
       have hl' : xs.length = ys.length := by rw [q2.length, q2'.length, v1.length, v1'.length]; simpa using hl
       rw [zeP.2.1, <- zea, hl', Nat.min_self, xag, <- v1.length, <- q2.length, hl']
       simp
      rw [hz] at z zn
      exact ⟨z, zn⟩
     ·have z := RcAt.lists_lengths t1.isList t1'.isList (by simpa using hl) hA
      have zn := RcNeAt.lists_lengths t1.isList t1'.isList (by simpa using hl) hA
      have hz : eqD (.lst xs) (.lst ys) = false := by
       have hl' : ¬ xs.length = ys.length := by rw [q2.length, q2'.length, v1.length, v1'.length]; simpa using hl
       rw [zeP.2.1, <- zea]
       simp [hl']
      rw [hz]
      exact ⟨z, zn⟩
    refine ⟨?_, both⟩
    by_cases hab : a = b
    ·subst hab
     have ed := zki I e (n + 1) h h' hr hr'
     rw [ed, zk2 _ _ h']; exact EqAt.same _
    ·exact EqAt.of_refs hab both.1
end
end DL
namespace DL
open L2 PyProof.Rows
def B (n : Nat) (i : Int) : Prop := i.natAbs < 2 ^ n
theorem B.mono {m n : Nat} {i : Int} (h : B m i) (l : m <= n) : B n i := xak h (Nat.pow_le_pow_right (by decide) l)
theorem B.mul {m n : Nat} {i j : Int} (a : B m i) (b : B n j) : B (m + n) (i * j) := by
 unfold B at *
 rw [xcd, Nat.pow_add]
 exact Nat.mul_lt_mul'' a b
theorem B.add {m n : Nat} {i j : Int} (a : B m i) (b : B n j) : B (max m n + 1) (i + j) := by
 have a' := a.mono (Nat.le_max_left m n)
 have b' := b.mono (Nat.le_max_right m n)
 unfold B at *
 rw [Nat.pow_succ]
 omega
theorem B.sub {m n : Nat} {i j : Int} (a : B m i) (b : B n j) : B (max m n + 1) (i - j) := by
 have a' := a.mono (Nat.le_max_left m n)
 have b' := b.mono (Nat.le_max_right m n)
 unfold B at *
 rw [Nat.pow_succ]
 omega
theorem B.of {n : Nat} {i : Int} {k : Nat} (h : i.natAbs <= k) (hk : k < 2 ^ n := by decide +kernel) : B n i := xbq h hk
theorem B.log {n : Nat} {i : Int} (h : B n i) (hn : 0 < n) : i.natAbs.log2 < n := zmj hn h
def zhX (i : Int) : Bool := decide (i.natAbs.log2 < 60000000)
theorem znY {n : Nat} {i : Int} (h : B n i) (hn : n <= 60000000 := by decide) : zhX i = true := by
 refine decide_eq_true ?_
 cases n with
 | zero =>
  have : i.natAbs = 0 := by unfold B at h; omega
  rw [this]; decide
 | succ k => exact xak (h.log (Nat.succ_pos _)) hn
theorem zsm {i j : Int} (a : zhX i = true) (b : zhX j = true) : IntMulOk i j := by
 have h1 : i.natAbs.log2 < 60000000 := of_decide_eq_true a
 have h2 : j.natAbs.log2 < 60000000 := of_decide_eq_true b
 have bits : ∀ k : Int, k.natAbs.log2 < 60000000 -> Builtin.Int.intBits k <= 60000000 := fun k h => by
  unfold Builtin.Int.intBits
  split
  ·exact xbt _
  ·omega
 have b1 := bits i h1
 have b2 := bits j h2
 unfold IntMulOk
 intro z
 simp only [xav, decide_eq_true_eq, Builtin.Int.intTooBig] at z
 have e := z.2
 have l : (bitsLine : Int) = 134217728 := by decide
 rw [l] at e
 omega
def zpi (i : Int) : Bool := decide (i ≠ 0 /\ i.natAbs.log2 < 9000)
theorem zkj {n : Nat} {i : Int} (h : B n i) (h0 : i ≠ 0) (hn : n <= 9000 := by decide) : zpi i = true := by
 refine decide_eq_true ⟨h0, ?_⟩
 cases n with
 | zero =>
  have : i.natAbs = 0 := by unfold B at h; omega
  omega
 | succ k => exact xak (h.log (Nat.succ_pos _)) hn
def zwc (i j : Int) : Bool := decide (0 <= j /\ j <= 1000000 /\ i.natAbs < 2 ^ 64)
section
variable {X : Cx} {K : xFg} {mg : Str -> Option Value}
def gI (C : Int -> Int -> Bool) (h : Int -> Int -> Int) : D -> D -> R D
 | .int i, .int j => bif C i j then .ok (.int (h i j)) else .bad
 | _, _ => .bad
def gB (h : Int -> Int -> Bool) : D -> D -> R D
 | .int i, .int j => .ok (.bl (h i j))
 | _, _ => .bad
theorem zug {C : Int -> Int -> Bool} {h : Int -> Int -> Int} : zhR (gI C h) := by
 intro a b e
 cases a <;> cases b <;> simp only [gI] <;> first | (intro z; cases z) | (intro z; revert z; cases C _ _ <;> simp [cond])
theorem zwd {h : Int -> Int -> Bool} : zhR (gB h) := by
 intro a b e
 cases a <;> cases b <;> simp only [gB] <;> (intro z; cases z)
theorem zuh {C : Int -> Int -> Bool} {C' : Int -> Int -> Prop} {h : Int -> Int -> Int} (hc : ∀ i j, C i j = true -> C' i j) : OpD K mg (rI C' fun i j => .int (h i j)) (gI C h) := by
 intro G H a b x y Q e ra rb q
 cases a with
 | int i => cases b with
  | int j =>
   cases ra; cases rb
   cases hC : C i j with
   | false => simp only [gI, hC, cond_false] at q; exact q.elim
   | true =>
    simp only [gI, hC, cond_true] at q
    exact ⟨i, j, rfl, rfl, hc i j hC, zay.now q e rfl⟩
  | _ => exact (show False from q).elim
 | _ => exact (show False from q).elim
theorem zwe {h : Int -> Int -> Bool} : OpD K mg (rI0 fun i j => .bl (h i j)) (gB h) := by
 intro G H a b x y Q e ra rb q
 cases a with
 | int i => cases b with
  | int j => cases ra; cases rb; exact ⟨i, j, rfl, rfl, zay.now q e rfl⟩
  | _ => exact (show False from q).elim
 | _ => exact (show False from q).elim
theorem zsn : OpR X (binaryOp .Mult) (rI (fun i j => zhX i = true /\ zhX j = true) fun i j => .int (i * j)) := opI fun _ _ _ _ _ _ _ hc q => mul_int q (zsm hc.1 hc.2)
theorem zpW : OpR X (binaryOp .FloorDiv) (rI (fun _ j => zpi j = true) fun i j => .int (i.fdiv j)) := opI fun i j _ _ _ _ _ hc q => by
 have h := of_decide_eq_true (p := j ≠ 0 /\ j.natAbs.log2 < 9000) hc
 exact floordiv_int h.1 q (.inl (PyProof.noPylong_of_log2 h.2))
def zui (K : xFg) : R2 := fun x y H Q => ∃ l b xs zs, x = .ref l /\ y = .ref b /\ SqL K H l xs /\ SqL K H b zs /\ xs.length + zs.length <= sizeLine /\ ∀ p, H p = none -> Q (.ref p) (upd H p (.lst (xs ++ zs)))
theorem zso : OpR X (binaryOp .Add) (zui X.K) := by
 intro pins s Z H x y v u Q I rx ry h
 obtain ⟨l, b, xs, zs, rfl, rfl, hH, hB, hz, q⟩ := h
 cases rx
 cases ry
 obtain ⟨its, r, pl, _⟩ := I.list hH
 obtain ⟨its2, r2, pl2, _⟩ := I.list hB
 obtain ⟨⟨cls, dd, data, sl⟩, ho, hc, n, hd⟩ := id pl.isList
 obtain ⟨⟨cls2, dd2, data2, sl2⟩, ho2, hc2, n2, hd2⟩ := id pl2.isList
 simp only at hc hd hc2 hd2
 subst hc hd hc2 hd2
 refine concat_meets ⟨_, ho, rfl⟩ ⟨_, ho2, rfl⟩ noFill_list_add seq_list_add PySem.F.slot_list_add PySem.F.entry_list_add (PySem.F.args_list_add_2 _ _) (list_addW l b its.toArray its2.toArray n n2 dd dd2 sl sl2 (by rw [xag, xag, <- r.length, <- r2.length]; exact hz)) ⟨ho, ho2, ?_⟩
 have ea : its.toArray ++ its2.toArray = (its ++ its2).toArray := by simp
 rw [ea]
 exact ⟨.ref _, _, I.lnew (t' := s.toks) (r.append r2) (by rw [xby]; exact hz), rfl, q _ I.fresh⟩
def znZ (n : Nat) : Bool := decide (n <= sizeLine)
def zdz : D -> D -> R D
 | .int i, .int j => .ok (.int (i + j))
 | .str x, .str y => bif znZ (x.length + y.length) then .ok (.str (x ++ y)) else .bad
 | .lst xs, .lst ys => bif znZ (xs.length + ys.length) then .ok (.lst (xs ++ ys)) else .bad
 | .tup xs, .tup ys => bif znZ (xs.length + ys.length) && !xs.isEmpty then .ok (.tup (xs ++ ys)) else .bad
 | _, _ => .bad
theorem zuj : zhR zdz := by
 intro a b e
 cases a <;> cases b <;> simp only [zdz] <;> first | (intro z; cases z; done) | (generalize znZ _ = k; cases k <;> simp [cond] <;> (try (generalize List.isEmpty _ = k2; cases k2 <;> simp)))
abbrev zwf (K : xFg) : R2 := fun x y H Q => rI0 (fun i j => .int (i + j)) x y H Q \/ ((∃ i j, x = .str i /\ y = .str j /\ i.length + j.length <= sizeLine /\ Q (.str (i ++ j)) H) \/ (zui K x y H Q \/ ztI K x y H Q))
theorem zuk : OpD K mg (zwf K) zdz := by
 intro G H a b x y Q e ra rb q
 cases a with
 | int i => cases b with
  | int j => cases ra; cases rb; exact .inl ⟨i, j, rfl, rfl, zay.now q e rfl⟩
  | _ => exact (show False from q).elim
 | str i => cases b with
  | str j =>
   cases ra; cases rb
   cases hC : znZ (i.length + j.length) with
   | false => simp only [zdz, hC, cond_false] at q; exact q.elim
   | true =>
    simp only [zdz, hC, cond_true] at q
    exact .inr (.inl ⟨i, j, rfl, rfl, of_decide_eq_true hC, zay.now q e rfl⟩)
  | _ => exact (show False from q).elim
 | lst xs => cases b with
  | lst ys =>
   obtain ⟨p, vs, rfl, h1, h2⟩ := ra
   obtain ⟨p', ws, rfl, h1', h2'⟩ := rb
   cases hC : znZ (xs.length + ys.length) with
   | false => simp only [zdz, hC, cond_false] at q; exact q.elim
   | true =>
    simp only [zdz, hC, cond_true] at q
    refine .inr (.inr (.inl ⟨p, p', vs, ws, rfl, rfl, e.seq h1, e.seq h1', by rw [<- h2.length, <- h2'.length]; exact of_decide_eq_true hC, fun l hl => ?_⟩))
    have s := zbu.pub (o := .lst (vs ++ ws)) e hl
    exact (show zay K mg Q G H (.lst (xs ++ ys)) from q) _ _ _ s ⟨l, _, rfl, SqL.of zav, (h2.append h2').mono s.g⟩
  | _ => exact (show False from q).elim
 | tup xs => cases b with
  | tup ys =>
   obtain ⟨p, vs, rfl, h1, h2⟩ := ra
   obtain ⟨p', ws, rfl, h1', h2'⟩ := rb
   cases hC : (znZ (xs.length + ys.length) && !xs.isEmpty) with
   | false => simp only [zdz, hC, cond_false] at q; exact q.elim
   | true =>
    simp only [zdz, hC, cond_true] at q
    rw [xav] at hC
    have q' : zay K mg Q G H (.tup (xs ++ ys)) := q
    refine .inr (.inr (.inr ⟨p, p', vs, ws, rfl, rfl, zaI.sqT e h1, zaI.sqT e h1', fun z => ?_, by rw [<- h2.length, <- h2'.length]; exact of_decide_eq_true hC.1, fun z => ?_, fun z l hl => ?_⟩))
    ·subst z
     have := h2.length
     have hx : xs = [] := List.length_eq_zero_iff.mp this
     subst hx; simp at hC
    ·subst z
     have := h2'.length
     have hy : ys = [] := List.length_eq_zero_iff.mp this
     subst hy
     rw [xb9] at q'
     exact q'.now e ⟨p, vs, rfl, h1, h2⟩
    ·have s := zbu.pub (o := .tup (vs ++ ws)) e hl
     exact q' _ _ _ s ⟨l, _, rfl, SqT.of zav, (h2.append h2').mono s.g⟩
  | _ => exact (show False from q).elim
 | _ => exact (show False from q).elim
abbrev gSub : D -> D -> R D := gI (fun _ _ => true) fun i j => i - j
abbrev zbI : D -> D -> R D := gI (fun i j => zhX i && zhX j) fun i j => i * j
abbrev zeI : D -> D -> R D := gI (fun _ j => zpi j) fun i j => i.fdiv j
abbrev zfs : D -> D -> R D := gI (fun _ j => decide (j ≠ 0)) fun i j => i.fmod j
abbrev zsp : D -> D -> R D := gI zwc fun i j => i ^ j.toNat
abbrev gShr : D -> D -> R D := gI (fun _ j => decide (0 <= j)) fun i j => i / 2 ^ j.toNat
variable {E : XK} {a b c : Expr} {fa fb fc : DSt -> R D} {pos : Pos}
theorem zbr (ha : DE X E a fa) (hb : DE X E b fb) : DE X E (.BinOp a .Add b pos) (eOp zdz fa fb) := zms (ztz.or (zme.or (zso.or zrY))) zuk zuj ha hb
theorem zbB (ha : DE X E a fa) (hb : DE X E b fb) : DE X E (.BinOp a .Sub b pos) (eOp gSub fa fb) :=
 zms (r := rI (fun _ _ => True) fun i j => .int (i - j)) (opI fun _ _ _ _ _ _ _ _ q => sub_int q) (zuh fun _ _ _ => trivial) zug ha hb
theorem zar (ha : DE X E a fa) (hb : DE X E b fb) : DE X E (.BinOp a .Mult b pos) (eOp zbI fa fb) := zms zsn (zuh fun i j h => by simpa using h) zug ha hb
theorem zcF (ha : DE X E a fa) (hb : DE X E b fb) : DE X E (.BinOp a .FloorDiv b pos) (eOp zeI fa fb) := zms zpW (zuh fun i j h => h) zug ha hb
theorem zbs (ha : DE X E a fa) (hb : DE X E b fb) : DE X E (.BinOp a .Mod b pos) (eOp zfs fa fb) := zms zrR (zuh fun i j h => of_decide_eq_true h) zug ha hb
theorem zn0 (ha : DE X E a fa) (hb : DE X E b fb) : DE X E (.BinOp a .Pow b pos) (eOp zsp fa fb) := zms ztA (zuh fun i j h => of_decide_eq_true (p := 0 <= j /\ j <= 1000000 /\ i.natAbs < 2 ^ 64) h) zug ha hb
def zqD : D -> R D
 | .int i => .ok (.int (-i))
 | _ => .bad
theorem zi4 (ha : DE X E a fa) : DE X E (.UnaryOp .USub a pos) (eUn zqD fa) := by
 refine zv5 ztB (fun G H d x Q e r q => ?_) (fun d e => ?_) ha
 ·cases d with
  | int i => cases r; exact ⟨i, rfl, zay.now q e rfl⟩
  | _ => exact (show False from q).elim
 ·cases d <;> simp [zqD]
structure zqE (X : Cx) (op : CmpOp) (g : D -> D -> R D) : Prop where
 ex : ∃ r, OpR X (compareOp op) r /\ OpD X.K X.mg r g /\ zhR g
abbrev gLt : D -> D -> R D := gB fun i j => decide (i < j)
abbrev gLe : D -> D -> R D := gB fun i j => decide (i <= j)
abbrev gGt : D -> D -> R D := gB fun i j => decide (j < i)
abbrev gGe : D -> D -> R D := gB fun i j => decide (j <= i)
theorem zmu : zqE X .Lt gLt := ⟨_, zvx, zwe, zwd⟩
theorem zwg : zqE X .Gt gGt := ⟨_, zvy, zwe, zwd⟩
theorem zul : zqE X .GtE gGe := ⟨_, zvz, zwe, zwd⟩
def zmv (a b : D) : Bool := zd9 9 a && zd9 9 b
def gEq (a b : D) : R D := bif zmv a b then .ok (.bl (eqD a b)) else .bad
def gNe (a b : D) : R D := bif zmv a b then .ok (.bl (!eqD a b)) else .bad
def rEqD (K : xFg) (mg : Str -> Option Value) (neg : Bool) : R2 := fun x y H Q => ∃ G d d', zaI G H /\ Rep K mg G d x /\ Rep K mg G d' y /\ zmv d d' = true /\ Q (.bl (bif neg then !eqD d d' else eqD d d')) H
theorem zum {k : Nat} (r : zfP k X.A) : OpR X (compareOp .Eq) (rEqD X.K X.mg false) := by
 intro pins s Z H x y v u Q I rx ry h
 obtain ⟨G, d, d', e, r1, r2, c, q⟩ := h
 unfold zmv at c
 rw [xav] at c
 have hu : X.A.units + 9 < cLine := by have := r.un; omega
 exact (znX I e 9 hu c.1 c.2 r1 rx r2 ry).2.1 _ _ _ _ ⟨.bl _, H, I, rfl, q⟩
theorem zun {k : Nat} (r : zfP k X.A) : OpR X (compareOp .NotEq) (rEqD X.K X.mg true) := by
 intro pins s Z H x y v u Q I rx ry h
 obtain ⟨G, d, d', e, r1, r2, c, q⟩ := h
 unfold zmv at c
 rw [xav] at c
 have hu : X.A.units + 9 < cLine := by have := r.un; omega
 exact (znX I e 9 hu c.1 c.2 r1 rx r2 ry).2.2 _ _ _ _ ⟨.bl _, H, I, rfl, q⟩
theorem zei {k : Nat} (C : XC X E k) : zqE X .Eq gEq := ⟨_, zum C.room, fun G H a b x y Q e ra rb q => by
 unfold gEq at q
 cases hc : zmv a b with
 | false => rw [hc] at q; exact q.elim
 | true => rw [hc] at q; exact ⟨G, a, b, e, ra, rb, hc, zay.now q e rfl⟩, fun a b e => by unfold gEq; cases zmv a b <;> simp [cond]⟩
theorem zeQ {k : Nat} (C : XC X E k) : zqE X .NotEq gNe := ⟨_, zun C.room, fun G H a b x y Q e ra rb q => by
 unfold gNe at q
 cases hc : zmv a b with
 | false => rw [hc] at q; exact q.elim
 | true => rw [hc] at q; exact ⟨G, a, b, e, ra, rb, hc, zay.now q e rfl⟩, fun a b e => by unfold gNe; cases zmv a b <;> simp [cond]⟩
def zmw : D -> Bool
 | .non => true
 | _ => false
def gIs : D -> D -> R D
 | d, .non => .ok (.bl (zmw d))
 | .bl a, .bl b => .ok (.bl (a == b))
 | _, _ => .bad
def gIsn : D -> D -> R D
 | d, .non => .ok (.bl (!zmw d))
 | .bl a, .bl b => .ok (.bl (a != b))
 | _, _ => .bad
theorem zgi {op : CmpOp} {g : D -> D -> R D} (cf : zqE X op g) (ha : DE X E a fa) (hb : DE X E b fb) (hm : behindInMarks op b = false := by first | exact zak _ (by decide) (by decide) | rfl) : DE X E (.Compare a [op] [b] pos) (eOp g fa fb) := by
 obtain ⟨r, h1, h2, h3⟩ := cf.ex
 exact zt5 h1 h2 h3 ha hb hm
theorem zaw {op : CmpOp} {g : D -> D -> R D} (cf : zqE X op g) (ha : DE X E a fa) (hb : DE X E b fb) (hm : behindInMarks op b = false := by first | exact zak _ (by decide) (by decide) | rfl) : DT X E (.Compare a [op] [b] pos) (zaJ (eOp g fa fb)) := by
 obtain ⟨r, h1, h2, h3⟩ := cf.ex
 exact zt6 h1 h2 h3 ha hb hm
end
end DL
namespace DL
open L2 PyProof.Rows
section
variable {X : Cx} {E : XK} {K : xFg} {mg : Str -> Option Value} {G H : Hp}
theorem zpX : bootBuiltins "all" = some (.builtin "all") := by rfl
theorem zk4 : bootBuiltins "isinstance" = some (.builtin "isinstance") := by rfl
theorem zqF : bootBuiltins "int" = some (.type "int") := by rfl
theorem zn1 : bootBuiltins "bool" = some (.type "bool") := by rfl
theorem zk5 : bootBuiltins "tuple" = some (.type "tuple") := by rfl
theorem zhY : bootBuiltins "ValueError" = some (.type "ValueError") := by rfl
theorem Reps.one {d : D} {vs : List V} (h : Reps K mg G [d] vs) : ∃ v, vs = [v] /\ Rep K mg G d v := by
 obtain ⟨v, r, rfl, h2, h3⟩ := h
 cases h3
 exact ⟨v, rfl, h2⟩
theorem Reps.two {d d' : D} {vs : List V} (h : Reps K mg G [d, d'] vs) : ∃ v w, vs = [v, w] /\ Rep K mg G d v /\ Rep K mg G d' w := by
 obtain ⟨v, r, rfl, h2, h3⟩ := h
 obtain ⟨w, rfl, h4⟩ := h3.one
 exact ⟨v, w, rfl, h2, h4⟩
def g1 {α : Type} (g : D -> R α) : List D -> R α
 | [d] => g d
 | _ => .bad
def g2 {α : Type} (g : D -> D -> R α) : List D -> R α
 | [d, e] => g d e
 | _ => .bad
theorem cd1 {r : List V -> Hp -> VK -> Prop} {g : D -> R D} (h : ∀ (G H : Hp) (d : D) (v : V) (Q : VK), zaI G H -> Rep K mg G d v -> RW (g d) (zay K mg Q G H) (fun _ => False) -> r [v] H Q) : zg2 K mg r (g1 g) := by
 intro G H ds vs Q e rp q
 match ds, rp, q with
 | [], rp, q => exact (show False from q).elim
 | [d], rp, q => obtain ⟨v, rfl, h1⟩ := rp.one; exact h G H d v Q e h1 q
 | _ :: _ :: _, rp, q => exact (show False from q).elim
theorem cd2 {r : List V -> Hp -> VK -> Prop} {g : D -> D -> R D} (h : ∀ (G H : Hp) (d d' : D) (v v' : V) (Q : VK), zaI G H -> Rep K mg G d v -> Rep K mg G d' v' -> RW (g d d') (zay K mg Q G H) (fun _ => False) -> r [v, v'] H Q) : zg2 K mg r (g2 g) := by
 intro G H ds vs Q e rp q
 match ds, rp, q with
 | [], rp, q => exact (show False from q).elim
 | [d], rp, q => exact (show False from q).elim
 | [d, d'], rp, q => obtain ⟨v, w, rfl, h1, h2⟩ := rp.two; exact h G H d d' v w Q e h1 h2 q
 | _ :: _ :: _ :: _, rp, q => exact (show False from q).elim
variable {x : Str} {p pos : Pos} {e : Expr} {es : List Expr} {fs : DSt -> R (List D)}
def zwh : D -> R D
 | .lst xs => .ok (.int xs.length)
 | .tup xs => .ok (.int xs.length)
 | .str y => bif znZ y.length then .ok (.int y.length) else .bad
 | _ => .bad
abbrev zmY := g1 zwh
theorem zuo : zg2 K mg (fun xs H Q => (∃ p ys, xs = [.ref p] /\ (SqL K H p ys \/ SqT K H p ys) /\ Q (.int ys.length) H) \/ (∃ z, xs = [.str z] /\ z.length <= sizeLine /\ Q (.int z.length) H)) zmY := cd1 fun G H d v Q e r q => by
 cases d with
 | lst xs =>
  obtain ⟨a, vs, rfl, h1, h2⟩ := r
  exact .inl ⟨a, vs, rfl, .inl (e.seq h1), by rw [<- h2.length]; exact zay.now q e rfl⟩
 | tup xs =>
  obtain ⟨a, vs, rfl, h1, h2⟩ := r
  exact .inl ⟨a, vs, rfl, .inr (zaI.sqT e h1), by rw [<- h2.length]; exact zay.now q e rfl⟩
 | str y =>
  cases r
  cases hC : znZ y.length with
  | false => simp only [zwh, hC, cond_false] at q; exact q.elim
  | true => simp only [zwh, hC, cond_true] at q; exact .inr ⟨y, rfl, of_decide_eq_true hC, zay.now q e rfl⟩
 | _ => exact (show False from q).elim
theorem zk6 (hm : X.mg "len" = none) (ha : DA X E (e :: es) fs) (hg : Gl X "len" := by rfl) (he : starEach (e :: es) X.env = (false, eval e X.env) :: starEach es X.env := by rfl) (hpl : (backTo pos (starEach es X.env)).any (·.1) = false := by rfl) : DE X E (.Call (.Name "len" p) (e :: es) [] pos) (zdP zmY fs) :=
 zge (ziF.or ziG) zuo hm PySem.boot_len ha hg (by decide) (by decide) he hpl
def abs1 : D -> R D
 | .int i => .ok (.int (i.natAbs : Int))
 | _ => .bad
abbrev zpj := g1 abs1
theorem zup : zg2 K mg (fun xs H Q => ∃ i, xs = [.int i] /\ Q (.int (if i < 0 then -i else i)) H) zpj := cd1 fun G H d v Q e r q => by
 cases d with
 | int i =>
  cases r
  have ea : (if i < 0 then -i else i) = (i.natAbs : Int) := by split <;> omega
  exact ⟨i, rfl, by rw [ea]; exact zay.now q e rfl⟩
 | _ => exact (show False from q).elim
theorem zgj (hm : X.mg "abs" = none) (ha : DA X E (e :: es) fs) (hg : Gl X "abs" := by rfl) (he : starEach (e :: es) X.env = (false, eval e X.env) :: starEach es X.env := by rfl) (hpl : (backTo pos (starEach es X.env)).any (·.1) = false := by rfl) : DE X E (.Call (.Name "abs" p) (e :: es) [] pos) (zdP zpj fs) :=
 zge zps zup hm PyProof.Rows.boot_abs ha hg (by decide) (by decide) he hpl
def min2 : D -> D -> R D
 | .int i, .int j => .ok (.int (min i j))
 | _, _ => .bad
def max2 : D -> D -> R D
 | .int i, .int j => .ok (.int (max i j))
 | _, _ => .bad
abbrev gMin := g2 min2
abbrev zvd := g2 max2
theorem zuq : zg2 K mg (fun xs H Q => ∃ i j, xs = [.int i, .int j] /\ Q (.int (if j > i then j else i)) H) zvd := cd2 fun G H d d' v v' Q e r r' q => by
 cases d with
 | int i => cases d' with
  | int j =>
   cases r; cases r'
   have ea : (if j > i then j else i) = max i j := by split <;> omega
   exact ⟨i, j, rfl, by rw [ea]; exact zay.now q e rfl⟩
  | _ => exact (show False from q).elim
 | _ => exact (show False from q).elim
theorem zur (hc : X.calm = true) (hm : X.mg "max" = none) (ha : DA X E (e :: es) fs) (hg : Gl X "max" := by rfl) (he : starEach (e :: es) X.env = (false, eval e X.env) :: starEach es X.env := by rfl) (hpl : (backTo pos (starEach es X.env)).any (·.1) = false := by rfl) : DE X E (.Call (.Name "max" p) (e :: es) [] pos) (zdP zvd fs) :=
 zge (zna hc) zuq hm PyProof.Rows.boot_max ha hg (by decide) (by decide) he hpl
def zeR : List D -> Option (List Int)
 | [] => some []
 | .int i :: r => (zeR r).map (i :: ·)
 | _ => none
def zi5 : List D -> Option (List Bool)
 | [] => some []
 | .bl b :: r => (zi5 r).map (b :: ·)
 | _ => none
theorem zgk : ∀ {ds : List D} {ns : List Int}, zeR ds = some ns -> ds = ns.map D.int
 | [], ns, h => by simp only [zeR, Option.some.injEq] at h; subst h; rfl
 | .int i :: r, ns, h => by
  simp only [zeR, xcw] at h
  obtain ⟨ms, h1, rfl⟩ := h
  rw [zgk h1]; rfl
theorem zk7 : ∀ {ds : List D} {bs : List Bool}, zi5 ds = some bs -> ds = bs.map D.bl
 | [], ns, h => by simp only [zi5, Option.some.injEq] at h; subst h; rfl
 | .bl i :: r, ns, h => by
  simp only [zi5, xcw] at h
  obtain ⟨ms, h1, rfl⟩ := h
  rw [zk7 h1]; rfl
theorem zi6 : ∀ bs : List Bool, zi5 (bs.map D.bl) = some bs
 | [] => rfl
 | n :: r => by rw [xat]; unfold zi5; rw [zi6 r]; rfl
def sum1 : D -> R D
 | .lst xs => match zeR xs with
  | some ns => .ok (.int ns.sum)
  | none => .bad
 | _ => .bad
def zqG : D -> R D
 | .lst xs => match zi5 xs with
  | some bs => .ok (.bl (bs.all id))
  | none => .bad
 | _ => .bad
abbrev zqH := g1 zqG
theorem zus : zg2 K mg (fun xs H Q => ∃ (p : Addr) (bs : List Bool), xs = [.ref p] /\ SqL K H p (bs.map V.bl) /\ Q (.bl (bs.all id)) H) zqH := cd1 fun G H d v Q e r q => by
 cases d with
 | lst xs =>
  obtain ⟨a, vs, rfl, h1, h2⟩ := r
  cases hn : zi5 xs with
  | none => simp only [zqG, hn] at q; exact q.elim
  | some ns =>
   simp only [zqG, hn] at q
   rw [zk7 hn] at h2
   rw [Reps.of_bools h2] at h1
   exact ⟨a, ns, rfl, e.seq h1, zay.now q e rfl⟩
 | _ => exact (show False from q).elim
theorem zn2 (hc : X.calm = true) (hm : X.mg "all" = none) (ha : DA X E (e :: es) fs) (hg : Gl X "all" := by rfl) (he : starEach (e :: es) X.env = (false, eval e X.env) :: starEach es X.env := by rfl) (hpl : (backTo pos (starEach es X.env)).any (·.1) = false := by rfl) : DE X E (.Call (.Name "all" p) (e :: es) [] pos) (zdP zqH fs) :=
 zge (zpF hc) zus hm zpX ha hg (by decide) (by decide) he hpl
def int1 : D -> R D
 | .int i => .ok (.int i)
 | .bl b => .ok (.int (if b then 1 else 0))
 | _ => .bad
abbrev gInt := g1 int1
def zwi (g : List D -> R (List D)) (fs : DSt -> R (List D)) : DSt -> R (List D) := fun Z => (fs Z).bind fun ds => (g ds).noerr
def zn3 : D -> Option String
 | .non => some "NoneType"
 | .bl _ => some "bool"
 | .int _ => some "int"
 | .str _ => some "str"
 | .tup _ => some "tuple"
 | .lst _ => some "list"
 | .dct _ _ => some "dict"
 | _ => none
def zut (T : String) : Bool := ["int", "bool", "str", "tuple", "list", "dict"].contains T
def zve (t T : String) : Bool := t == T || (t == "bool" && T == "int")
theorem zgl (t T : String) (ht : ["NoneType", "bool", "int", "str", "tuple", "list", "dict"].contains t = true) (hT : zut T = true) : PySem.W.kitOne K (.type t) (.type T) = some (zve t T) := by
 simp only [List.contains_eq_mem, xaf, xas, or_false, decide_eq_true_eq] at ht
 simp only [zut, List.contains_eq_mem, xaf, xas, or_false, decide_eq_true_eq] at hT
 rcases ht with rfl | rfl | rfl | rfl | rfl | rfl | rfl <;> rcases hT with rfl | rfl | rfl | rfl | rfl | rfl <;> rfl
end
end DL
namespace DL
open L2 PyProof.Rows
section
variable {X : Cx} {E : XK} {K : xFg} {mg : Str -> Option Value} {G H : Hp}
variable {x : Str} {p pos : Pos} {e : Expr} {es : List Expr} {fs : DSt -> R (List D)}
def rIsi (K : xFg) (mg : Str -> Option Value) : List V -> Hp -> VK -> Prop := fun xs H Q => ∃ G d T v b, xs = [v, .ty T] /\ zaI G H /\ Rep K mg G d v /\ (∃ t, zn3 d = some t /\ zut T = true /\ b = zve t T) /\ Q (.bl b) H
theorem zn4 : zdd X (.builtin "isinstance") (rIsi X.K X.mg) := by
 intro pins s Z H xs us Q I r h
 obtain ⟨G, d, T, v, b, rfl, e, rp, ⟨t, ht, hT, rfl⟩, q⟩ := h
 obtain ⟨u, w', rfl, ru, rw'⟩ := zpr r
 cases (show w' = Value.type T from rw')
 have fin : ∀ tk, EP X pins Z Q (.bool (zve t T)) { s with toks := tk } := fun tk => ⟨.bl _, H, I.tok tk, rfl, q⟩
 cases d with
 | non => cases ht; cases rp; cases (show u = Value.none from ru); exact PySem.W.kia_one PySem.W.kitx_none I.kIn True.intro (zgl _ _ rfl hT) (fun z => nomatch z) fin
 | bl y => cases ht; cases rp; cases (show u = Value.bool y from ru); exact PySem.W.kia_one PySem.W.kitx_bool I.kIn True.intro (zgl _ _ rfl hT) (fun z => nomatch z) fin
 | int i => cases ht; cases rp; obtain ⟨tk, rfl⟩ := (show ∃ tk, u = Value.int i tk from ru); exact PySem.W.kia_one PySem.W.kitx_int I.kIn True.intro (zgl _ _ rfl hT) (fun z => nomatch z) fin
 | str y => cases ht; cases rp; obtain ⟨tk, rfl⟩ := (show ∃ tk, u = Value.str y tk from ru); exact PySem.W.kia_one PySem.W.kitx_str I.kIn True.intro (zgl _ _ rfl hT) (fun z => nomatch z) fin
 | tup ds =>
  cases ht
  obtain ⟨a, vs, rfl, h1, h2⟩ := rp
  cases (show u = Value.ref a from ru)
  obtain ⟨_, _, ⟨o, h3, h4, _⟩, _⟩ := I.tuple (zaI.sqT e h1)
  exact PySem.W.kia_one PySem.W.kitx_tuple I.kIn ⟨o, h3, h4⟩ (zgl _ _ rfl hT) (fun z => nomatch z) fin
 | lst ds =>
  cases ht
  obtain ⟨a, vs, rfl, h1, h2⟩ := rp
  cases (show u = Value.ref a from ru)
  obtain ⟨_, _, ⟨o, n, h3, h4, _⟩, _⟩ := I.list (e.seq h1)
  exact PySem.W.kia_one PySem.W.kitx_list I.kIn ⟨o, h3, h4⟩ (zgl _ _ rfl hT) (fun z => nomatch z) fin
 | dct ks ds =>
  cases ht
  obtain ⟨a, vs, rfl, h1, _⟩ := rp
  cases (show u = Value.ref a from ru)
  obtain ⟨_, _, _, _, p⟩ := (show zdc X.prog X.w H s.heap a (.dK (ks.zip vs)) from (zaI.rd e h1).ok I.hok)
  obtain ⟨o, es, ep, h3, h4, _⟩ := p
  exact PySem.W.kia_one PySem.W.kitx_dict I.kIn ⟨o, h3, h4.1⟩ (zgl _ _ rfl hT) (fun z => nomatch z) fin
 | _ => cases ht
abbrev zwj (K : xFg) : List V -> Hp -> VK -> Prop := fun xs H Q => ∃ (a C : Addr) (c : V) (cv : Value) (b : Bool), xs = [.ref a, c] /\ H a = some (zno a C none) /\ ((∃ D, c = .ref D /\ cv = .ref D) \/ ∃ T, c = .ty T /\ cv = .type T) /\ zr6 K C /\ PySem.W.kitOne K (.ref C) cv = some b /\ Q (.bl b) H
def zfd : D -> D -> R D
 | d, .ty T => match zn3 d with
  | some t => bif zut T then .ok (.bl (zve t T)) else .bad
  | none => match d with
   | .exc _ [] => bif T == "ValueError" then .ok (.bl true) else .bad
   | _ => .bad
 | .exc c [], .cls d => match ziS c d with
  | some b => .ok (.bl b)
  | none => .bad
 | _, _ => .bad
theorem zuu : zg2 K mg (fun xs H Q => rIsi K mg xs H Q \/ zwj K xs H Q) (g2 zfd) := cd2 fun G H d d' v v' Q e r r' q => by
 have exc : ∀ {c as}, d = .exc c as -> as = [] -> ∃ a C, v = .ref a /\ H a = some (zno a C none) /\ znJ K mg c C := fun {c as} hd ha => by
  subst hd; subst ha
  obtain ⟨a, C, dct, vs, rfl, h2, h3, h4, h5⟩ := r
  cases h5
  rcases h4 with ⟨rfl, _⟩ | ⟨dx, w, _, z, _⟩
  ·exact ⟨a, C, rfl, e _ _ h2, h3⟩
  ·cases z
 cases d' with
 | ty T =>
  cases r'
  cases ht : zn3 d with
  | some t =>
   cases hT : zut T with
   | false => simp only [zfd, ht, hT, cond_false] at q; exact q.elim
   | true => simp only [zfd, ht, hT, cond_true] at q; exact .inl ⟨G, d, T, v, _, rfl, e, r, ⟨t, ht, hT, rfl⟩, zay.now q e rfl⟩
  | none =>
   cases d with
   | exc c as =>
    cases as with
    | nil =>
     cases hT : T == "ValueError" with
     | false => simp only [zfd, ht, hT, cond_false] at q; exact q.elim
     | true =>
      simp only [zfd, ht, hT, cond_true] at q
      obtain ⟨a, C, rfl, h1, h2⟩ := exc rfl rfl
      have := eq_of_beq hT
      subst this
      exact .inr ⟨a, C, _, _, true, rfl, h1, .inr ⟨_, rfl, rfl⟩, h2.exc, h2.val, zay.now q e rfl⟩
    | cons b bs => simp only [zfd, ht] at q; exact q.elim
   | _ => simp only [zfd, ht] at q; exact q.elim
 | cls c' =>
  cases d with
  | exc c as =>
   cases as with
   | nil =>
    obtain ⟨Dd, rfl, hD⟩ := r'
    cases hs : ziS c c' with
    | none => simp only [zfd, hs] at q; exact q.elim
    | some b =>
     simp only [zfd, hs] at q
     obtain ⟨a, C, rfl, h1, h2⟩ := exc rfl rfl
     exact .inr ⟨a, C, _, _, b, rfl, h1, .inl ⟨Dd, rfl, rfl⟩, h2.exc, h2.isi c' Dd b hs hD, zay.now q e rfl⟩
   | cons b bs => exact (show False from q).elim
  | _ => exact (show False from q).elim
 | _ => cases d <;> first | exact (show False from q).elim | (rename_i as; cases as <;> exact (show False from q).elim)
theorem zft (hm : X.mg "isinstance" = none) (ha : DA X E (e :: es) fs) (hg : Gl X "isinstance" := by rfl) (he : starEach (e :: es) X.env = (false, eval e X.env) :: starEach es X.env := by rfl) (hpl : (backTo pos (starEach es X.env)).any (·.1) = false := by rfl) : DE X E (.Call (.Name "isinstance" p) (e :: es) [] pos) (zdP (g2 zfd) fs) :=
 zge (zn4.or znr) zuu hm zk4 ha hg (by decide) (by decide) he hpl
def tO (K : xFg) (mg : Str -> Option Value) (E : XK) (f : DSt -> R (Option Int)) : TO := fun Z H Q => ∃ G Zd, Ok0 K mg Zd Z G H /\ RW (f Zd) (fun o => ∀ G' H', zbu G H G' H' -> Q o H') (zaL K mg E G H)
def DO (X : Cx) (E : XK) (e : Option Expr) (f : DSt -> R (Option Int)) : Prop := PO X e (tO X.K X.mg E f)
def zi7 : DSt -> R (Option Int) := fun _ => .ok none
def asI : D -> R (Option Int)
 | .int i => .ok (some i)
 | _ => .bad
def zdU (f : DSt -> R D) : DSt -> R (Option Int) := fun Z => (f Z).bind asI
theorem PO.mono' {e : Option Expr} {t t' : TO} (h : PO X e t) (m : ∀ Z H Q, t' Z H Q -> t Z H Q) : PO X e t' := fun pins s Z H Q I q => h pins s Z H Q I (m Z H Q q)
theorem zkk : DO X E none zi7 := PO.mono' zrW fun Z H Q ⟨G, Zd, ok, q⟩ => (show ∀ G' H', zbu G H G' H' -> Q none H' from q) G H (.refl ok.ext)
theorem zdq {f : DSt -> R D} (h : DE X E e f) : DO X E (some e) (zdU f) := PO.mono' (zrX h) fun Z H Q ⟨G, Zd, ok, q⟩ => ⟨G, Zd, ok, q.of_bind.mono (fun d _ z v G' H' s r => by
 cases d with
 | int i => cases r; exact ⟨i, rfl, (show ∀ G' H', zbu G H G' H' -> Q (some i) H' from z) G' H' s⟩
 | _ => exact (show False from z).elim) fun _ z => z⟩
def zmZ {α : Type} (xs : List α) (lo hi : Option Int) : List α := (xs.drop (HT.sIx xs.length 0 lo)).take (HT.sIx xs.length xs.length hi - HT.sIx xs.length 0 lo)
def zn5 {α : Type} (xs : List α) (lo hi : Option Int) : Bool := decide (HT.sIx xs.length 0 lo = 0 /\ HT.sIx xs.length xs.length hi = xs.length)
def gSl : D -> Option Int -> Option Int -> R D
 | .lst xs, lo, hi => .ok (.lst (zmZ xs lo hi))
 | .tup xs, lo, hi => bif zn5 xs lo hi then .bad else .ok (.tup (zmZ xs lo hi))
 | _, _, _ => .bad
def eSl (fe : DSt -> R D) (fl fh : DSt -> R (Option Int)) : DSt -> R D := fun Z => (fe Z).bind fun d => (fl Z).bind fun lo => (fh Z).bind fun hi => gSl d lo hi
theorem Reps.cut {ds : List D} {vs : List V} (h : Reps K mg G ds vs) (lo hi : Option Int) : Reps K mg G (zmZ ds lo hi) (zpg vs lo hi) := by
 unfold zmZ zpg
 rw [h.length]
 exact (h.drop _).take _
theorem zmx {fe : DSt -> R D} {lo hi : Option Expr} {fl fh : DSt -> R (Option Int)} {p2 : Pos} (he : DE X E e fe) (hl : DO X E lo fl) (hh : DO X E hi fh) : DE X E (.Subscript e (.Slice lo hi none p2) pos) (eSl fe fl fh) := by
 refine PE.mono' (zpu (zr1.or ztH) he hl hh) fun Z H Q ⟨G, Zd, ok, q⟩ => ?_
 refine zeF (P := zay X.K X.mg Q) ok q fun d v G1 H1 s1 ok1 r1 q1 => ?_
 refine ⟨G1, Zd, ok1, q1.of_bind.mono (fun l _ q2 G2 H2 s2 => ?_) fun _ z => z⟩
 refine ⟨G2, Zd, ok1.step s2, q2.of_bind.mono (fun u _ q3 G3 H3 s3 => ?_) fun _ z => z.step s2⟩
 have s := (s1.trans s2).trans s3
 have r3 := r1.mono (s2.g.trans s3.g)
 cases d with
 | lst xs =>
  obtain ⟨a, vs, rfl, h1, h2⟩ := r3
  refine .inl ⟨a, vs, rfl, s3.e.seq h1, fun pp hp => ?_⟩
  have sp := zbu.pub (o := .lst (zpg vs l u)) s3.e hp
  exact (show zay X.K X.mg Q G H (.lst (zmZ xs l u)) from q3) _ _ _ (s.trans sp) ⟨pp, _, rfl, SqL.of zav, (h2.cut l u).mono sp.g⟩
 | tup xs =>
  obtain ⟨a, vs, rfl, h1, h2⟩ := r3
  cases hw : zn5 xs l u with
  | true => simp only [gSl, hw, cond_true] at q3; exact q3.elim
  | false =>
   simp only [gSl, hw, cond_false] at q3
   refine .inr ⟨a, vs, rfl, zaI.sqT s3.e h1, by rw [<- h2.length]; exact of_decide_eq_false hw, fun pp hp => ?_⟩
   have sp := zbu.pub (o := .tup (zpg vs l u)) s3.e hp
   exact (show zay X.K X.mg Q G H (.tup (zmZ xs l u)) from q3) _ _ _ (s.trans sp) ⟨pp, _, rfl, SqT.of zav, (h2.cut l u).mono sp.g⟩
 | _ => exact (show False from q3).elim
end
def zqI (c : Str) (fs : DSt -> R (List D)) : DSt -> R Out := fun Z => (fs Z).bind fun ds => bif few ds.length then .err (.exc c []) else .bad
section
variable {P : Program} {w : World} {K : xFg} {mg : Str -> Option Value} {base : Heap} {N : List Str} {qual : Str} {scope : Scope} {f : Addr} {cdv : Value} {A : Around} {outer : List Env} {s0 : Shared} {H0 : Hp} {E : XK} {own own' ol : List Nat}
theorem zpY {x : Str} {C : Addr} {e0 : Expr} {zch : List Expr} {np cpos pos : Pos} {fs : DSt -> R (List D)} (q : PySem.W.excIn K C [.type "ValueError", .type "Exception", .type "BaseException", .type "object"] "ValueError.__new__" = true) (hx : znJ K mg x C)
  (ha : DA (zit (CXe P w) P w K mg base N qual scope f cdv A outer s0 H0 E) E (e0 :: zch) fs) (hg : Gl (zit (CXe P w) P w K mg base N qual scope f cdv A outer s0 H0 E) x := by rfl)
  (hdb : (x == ("__debug__" : Str)) = false := by decide)
  (he : starEach (e0 :: zch) (envOfC qual scope s0.heap.objs.size f cdv) = (false, eval e0 (envOfC qual scope s0.heap.objs.size f cdv)) :: starEach zch (envOfC qual scope s0.heap.objs.size f cdv) := by rfl)
  (hpl : (backTo cpos (starEach zch (envOfC qual scope s0.heap.objs.size f cdv))).any (·.1) = false := by rfl) :
  DS (zit (CXe P w) P w K mg base N qual scope f cdv A outer s0 H0 E) E own own' ol (.Raise (some (.Call (.Name x np) (e0 :: zch) [] cpos)) none pos) (zqI x fs) := fun G0 =>
 PS.mono' (zpA q hg hx.here ha hdb he hpl) fun Dn Z H ⟨G, Zd, ok, s1, z⟩ => by
 have sp := ok.pubStep s1
 refine ⟨_, Zd, ok.pub.1, z.of_bind.mono (fun ds _ z vs G' H' s r => ?_) fun _ z => z.step sp⟩
 cases hf : few ds.length with
 | false => rw [hf] at z; exact (show False from z).elim
 | true =>
  rw [hf] at z
  refine ⟨by rw [<- r.length]; exact znM hf, ?_⟩
  exact (show zaL K mg E G0 H0 (.exc x []) from z) G' H' C none (sp.trans s) ⟨x, [], [], rfl, hx, .inl ⟨rfl, rfl⟩, Reps.nil⟩
end
def zkl (c : Str) : DSt -> R Out := fun _ => .err (.exc c [])
theorem zn6 {P : Program} {w : World} {K : xFg} {mg : Str -> Option Value} {base : Heap} {N : List Str} {qual : Str} {scope : Scope} {f : Addr} {cdv : Value} {A : Around} {outer : List Env} {s0 : Shared} {H0 : Hp} {E : XK} {own own' ol : List Nat} {x t : Str} {C : Addr} {np cpos pos tp : Pos} {j} (q : PySem.W.excIn K C [.type "ValueError", .type "Exception", .type "BaseException", .type "object"] "ValueError.__new__" = true) (hx : znJ K mg x C)
  (hg : Gl (zit (CXe P w) P w K mg base N qual scope f cdv A outer s0 H0 E) x := by rfl) (hdb : (x == ("__debug__" : Str)) = false := by decide) :
  DS (zit (CXe P w) P w K mg base N qual scope f cdv A outer s0 H0 E) E own own' ol (.Raise (some (.Call (.Name x np) [.Constant (.str t) j tp] [] cpos)) none pos) (zkl x) :=
 zpY (fs := zad (eC (.str t)) zaC) q hx (zab zt4 zah) hg hdb
section
variable (K : xFg) (mg : Str -> Option Value)
def tSX (G0 H0 : Hp) (f : DSt -> R Out) : TSX := fun Dn E Z H => ∃ G Zd, Ok0 K mg Zd Z G H /\ zbu G0 H0 G H /\ RW (f Zd) (zfr K mg G0 H0 [] [] Dn G) (zaL K mg E G H)
end
def DSX (X : Cx) (st : Stmt) (f : DSt -> R Out) : Prop := ∀ G0, PSX X (CXe X.prog X.w) st (tSX X.K X.mg G0 X.H₀ f)
def DSXs (X : Cx) (st : List Stmt) (f : DSt -> R Out) : Prop := ∀ G0, zvQ X (CXe X.prog X.w) st (tSX X.K X.mg G0 X.H₀ f)
theorem PSX.mono' {X : Cx} {CX : CXT} {st : Stmt} {t t' : TSX} (h : PSX X CX st t) (m : ∀ D E Z H, t' D E Z H -> t D E Z H) : PSX X CX st t' := fun pins s Z H D E I q => h pins s Z H D E I (m D E Z H q)
section
variable {X : Cx} {ol : List Nat} {k : Nat} {x y : Str} {m : List D -> R D} {p pos cpos npos : Pos} {e : Expr} {es : List Expr} {fs : DSt -> R (List D)} {f g : DSt -> R Out}
theorem zpZ {st : Stmt} (h : DSX X st f) : DSXs X [st] f := fun G0 => zpD (h G0)
def zk8 (m : List D -> R D) (fs : DSt -> R (List D)) : DSt -> R D := fun Z => (fs Z).noerr.bind m
theorem zp0 {G0 G H : Hp} {Zd : DSt} {Z : L2.St} {Q : VK} {E : XK} {S : D -> R Out} {PO : Out -> Prop} (ok : Ok0 X.K X.mg Zd Z G H) (q : RW ((zk8 m fs Zd).bind S) PO (zaL X.K X.mg E G H))
  (h : ∀ d v G' H', zbu G H G' H' -> Rep X.K X.mg G' d v -> RW (S d) PO (zaL X.K X.mg E G H) -> Q v H') : ztR (spD X.K X.mg m) [] (tAr X.K X.mg E0 fs) Z H Q E := by
 obtain ⟨ds, e1, q⟩ := zd8 q.of_bind.of_bind
 refine ⟨G, Zd, ok, RW.ok_of e1 fun vs G' H' s r => ?_⟩
 show spD X.K X.mg m (vs ++ []) H' _ E
 rw [xb9]
 exact ⟨G', ds, s.e, r, q.mono (fun d _ z v G2 H2 s2 r2 => h d v G2 H2 (s.trans s2) r2 z) fun _ z => z.step s⟩
theorem zp1 (hr : zfP k X.A) (F : zax X.prog X.w X.K X.mg X.base k x m) (ha : DA X.nox E0 (e :: es) fs) (hg : Gl X x := by rfl) (hdb : (x == ("__debug__" : Str)) = false := by decide)
  (he : starEach (e :: es) X.env = (false, eval e X.env) :: starEach es X.env := by rfl) (hpl : (backTo cpos (starEach es X.env)).any (·.1) = false := by rfl) (hs : swapsWith (.Call (.Name x p) (e :: es) [] cpos) none pos.line X.env = pure false := by rfl) :
  DSX X (.Expr (.Call (.Name x p) (e :: es) [] cpos) pos) (zsk (zk8 m fs)) := fun G0 => by
 obtain ⟨fa, fd, ps, h1, h2, h3, h4⟩ := F.ex
 refine PSX.mono' (zpC (zpB (dvs := []) (ds := []) h1 hr hg h2 h3 h4 .nil ha hdb he hpl) hs) fun Dn E Z H ⟨G, Zd, ok, s0, q⟩ => ?_
 exact zp0 (G0 := G0) ok q fun d v G' H' s r z => (show zfr X.K X.mg G0 X.H₀ [] [] Dn G (.nx Zd) from z) Z G' H' (.zero (ok.step s)) (s0.trans s) s.g
def zvf (i : Nat) (c : Str) (body hnd : DSt -> R Out) : DSt -> R Out := fun Z => match body Z with
 | .ok o => .ok o
 | .err (.exc cc as) => bif ziS cc c == some true then (hnd (Z.set i (some (.exc cc as)))).noerr.bind fun o => match o with
   | .nx Z' => .ok (.nx (Z'.set i none))
   | _ => .bad
  else .bad
 | _ => .bad
theorem Ok.unset {K : xFg} {mg : Str -> Option Value} {H0 G H : Hp} {Zd : DSt} {Z : L2.St} {i : Nat} {own : List Nat} (o : Ok K mg H0 own Zd Z G H) (hi : i ∉ own) : Ok K mg H0 own (Zd.set i none) (Z.set i none) G H := by
 have back : ∀ {j : Nat} {d : D}, (Zd.set i none)[j]? = some (some d) -> j ≠ i /\ Zd[j]? = some (some d) := fun {j d} q => by
  by_cases hj : j = i
  ·subst hj
   have hl : j < Zd.length := by have := (xah.mp q).1; simpa using this
   rw [xa5 hl] at q; cases q
  ·rw [xam (xa3 hj)] at q; exact ⟨hj, q⟩
 refine ⟨o.ext, by simp [o.len], fun j d hj q => ?_, fun j d hj q => ?_, fun j l a d1 d2 h1 h2 h3 h4 h5 h6 => ?_⟩
 ·obtain ⟨hj', q'⟩ := back q
  rw [xam (xa3 hj')]; exact o.val j d hj q'
 ·obtain ⟨hj', q'⟩ := back q
  rw [xam (xa3 hj')]; exact o.mine j d hj q'
 ·obtain ⟨hj', q3⟩ := back h3
  obtain ⟨hl', q4⟩ := back h4
  rw [xam (xa3 hj')] at h5
  rw [xam (xa3 hl')] at h6
  exact o.dj j l a d1 d2 h1 h2 q3 q4 h5 h6
theorem zuv (i : Nat) {E : XK} {body : List Stmt} {c n : Str} {np hpos : Pos} {b0 : Stmt} {suite : List Stmt} {Dc : Addr} (hst : X.stack = X.env :: X.outer) (hf : X.env.frame = some X.env.locals) (hN : X.N.Nodup)
  (hm : X.mg c = some (.ref Dc)) (hb : DSXs X body f) (hh : ∀ x, DSs (hdl X x) E0 [] [] [] (b0 :: suite) g) (hi : X.N[i]? = some n := by rfl) (hn : X.env.scope.names.lookup n = some .local := by rfl) (hg : Gl X c := by rfl)
  (hdb : (c == ("__debug__" : Str)) = false := by decide) : DS X E [] [] [] (.Try body [.ExceptHandler (some (.Name c np)) (some n) (b0 :: suite) hpos] [] [] pos) (zvf i c f g) := fun G0 =>
 PS.mono' (ztS (th := tS X.K X.mg E0 G0 X.H₀ [] [] [] g) hst hf hN hi hn hg hm (hb G0) (fun x => hh x G0) hdb) fun Dn Z H ⟨G, Zd, ok, s0, q⟩ => by
 have ok0 : Ok0 X.K X.mg Zd Z G H := by have := ok.masked; rw [zfW] at this; exact this
 unfold zvf at q
 cases hbd : f Zd with
 | bad => rw [hbd] at q; exact (show False from q).elim
 | ok o =>
  rw [hbd] at q
  exact ⟨fun _ _ _ => False, ⟨G, Zd, ok0, s0, RW.ok_of hbd q⟩, fun C dct H' x z => z.elim⟩
 | err ex =>
  rw [hbd] at q
  cases ex with
  | exc cc as =>
   cases hsub : (ziS cc c == some true) with
   | false => simp only [hsub, cond_false] at q; exact q.elim
   | true =>
    simp only [hsub, cond_true] at q
    obtain ⟨o, ho1, q⟩ := zd8 q.of_bind
    refine ⟨fun cv dct H' => ∃ C G', cv = .ref C /\ zbu G H G' H' /\ ExcR X.K X.mg G' (.exc cc as) C dct, ⟨G, Zd, ok0, s0, ?_⟩, ?_⟩
    ·rw [hbd]
     exact fun G' H' C dct s r => ⟨C, G', rfl, s, r⟩
    ·rintro C dct H' x ⟨C', G', e1, s', hr⟩ nx
     cases e1
     obtain ⟨c2, as2, vs, e2, hxc, hd, hrs⟩ := hr
     cases e2
     refine ⟨hxc.ctc c Dc (eq_of_beq hsub) hm, ?_⟩
     have sp := zbu.pub (o := zno x C dct) s'.e nx
     have st := s'.trans sp
     refine ⟨_, Zd.set i (some (.exc cc as)), .zero ((ok0.step st).set ⟨x, C, dct, vs, rfl, zav, hxc, hd.mono sp.g, hrs.mono sp.g⟩), s0.trans st, RW.ok_of ho1 ?_⟩
     cases o with
     | nx Z1 =>
      have q' : zfr X.K X.mg G0 X.H₀ [] [] Dn G (.nx (Z1.set i none)) := q
      exact fun Z2 G2 H2 ok2 s2 e2 => q' _ G2 H2 (ok2.unset (by simp)) s2 (st.g.trans e2)
     | _ => exact (show False from q).elim
  | _ => exact (show False from q).elim
end
end DL
namespace DL
open L2 PyProof.Rows
theorem zaO {n nN : Nat} {b : DSt -> R Out} {ds : List D} {Z : DSt} (hl : ds.length = n) (hs : zen nN ds = Z) : fnM n nN b ds = fin (b Z) := by
 subst hl; subst hs; unfold fnM; rw [beq_self_eq_true]; rfl
section
variable {K : xFg} {mg : Str -> Option Value}
def zhZ (c d : Str) : Bool := c == d || d == "ChalkError"
def zbe (K : xFg) (mg : Str -> Option Value) (C : Addr) (d : Str) (b : Bool) : Prop :=
 (∀ D, mg d = some (.ref D) -> PySem.W.kitOne K (.ref C) (.ref D) = some b) /\ (b = true -> ∀ D, mg d = some (.ref D) -> PySem.W.exmOne K (.ref C) (.ref D) = some true)
theorem znJ.mk' {c : Str} {C : Addr} (here : mg c = some (.ref C)) (exc : zr6 K C) (val : PySem.W.kitOne K (.ref C) (.type "ValueError") = some true) (rows : ∀ d ∈ zcO, zbe K mg C d (zhZ c d)) : znJ K mg c C := by
 have sub : ∀ d b, ziS c d = some b -> d ∈ zcO /\ b = zhZ c d := fun d b h => by
  unfold ziS at h
  cases hc : (zcO.contains c && zcO.contains d) with
  | false => rw [hc] at h; cases h
  | true =>
   rw [hc] at h
   have h' : some (c == d || d == "ChalkError") = some b := h
   rw [xav] at hc
   exact ⟨by simpa using hc.2, by cases h'; rfl⟩
 refine ⟨here, exc, fun d Dd b h hd => ?_, val, fun d Dd h hd => ?_⟩
 ·obtain ⟨h1, rfl⟩ := sub d b h
  exact (rows d h1).1 Dd hd
 ·obtain ⟨h1, h2⟩ := sub d true h
  exact (rows d h1).2 h2.symm Dd hd
theorem zuw {c : Str} {C : Addr} (r0 : zbe K mg C "ChalkError" (zhZ c "ChalkError")) (r1 : zbe K mg C "NoPlace" (zhZ c "NoPlace")) (r2 : zbe K mg C "Same" (zhZ c "Same")) (r3 : zbe K mg C "NoFloor" (zhZ c "NoFloor")) (r4 : zbe K mg C "Endless" (zhZ c "Endless"))
  (r5 : zbe K mg C "NoDeed" (zhZ c "NoDeed")) (r6 : zbe K mg C "NoText" (zhZ c "NoText")) (r7 : zbe K mg C "NoName" (zhZ c "NoName")) (r8 : zbe K mg C "TooMany" (zhZ c "TooMany")) (r9 : zbe K mg C "NoChange" (zhZ c "NoChange")) (r10 : zbe K mg C "NoFrame" (zhZ c "NoFrame"))
  (r11 : zbe K mg C "NoValue" (zhZ c "NoValue")) (r12 : zbe K mg C "Unlike" (zhZ c "Unlike")) (r13 : zbe K mg C "NoRatio" (zhZ c "NoRatio")) (r14 : zbe K mg C "NoBow" (zhZ c "NoBow")) (r15 : zbe K mg C "NoRow" (zhZ c "NoRow")) : ∀ d ∈ zcO, zbe K mg C d (zhZ c d) := by
 intro d hd
 simp only [zcO, xaf, xas, or_false] at hd
 rcases hd with rfl | rfl | rfl | rfl | rfl | rfl | rfl | rfl | rfl | rfl | rfl | rfl | rfl | rfl | rfl | rfl <;> assumption
theorem zbe.of {C D0 : Addr} {d : Str} {b : Bool} (h : mg d = some (.ref D0)) (t : PySem.W.kitOne K (.ref C) (.ref D0) = some b) (u : b = true -> PySem.W.exmOne K (.ref C) (.ref D0) = some true) : zbe K mg C d b :=
 ⟨fun D hD => by rw [h] at hD; cases hD; exact t, fun hb D hD => by rw [h] at hD; cases hD; exact u hb⟩
end
section
variable {P : Program} {w : World} {K : xFg} {mg : Str -> Option Value} {base : Heap}
theorem zsq {x qual : Str} {st : Stmt} {f : Addr} {fd : FuncData} {N ps : List Str} {k n nN : Nat} {own' : List Nat} {body : DSt -> R Out} (F : Fun K x qual st f fd) (S : zas N ps (zae st))
  (hn : ps.length = n) (hN : N.length = nN)
  (hb : ∀ (X : Cx) (E : XK), (∃ cdv A outer s H, X = zit (CXe P w) P w K mg base N qual (zae st) f cdv A outer s H E) -> XC X E k -> XL X -> DSs X E [] own' [] (zaq st) body) : zhe P w K mg base (CXe P w) (k + 1) f fd ps (spD K mg (fnM n nN body)) := by
 refine F.okX S (fun vs H Q E h => ?_) (fun cdv A outer s H vs Q E hr hsp => ?_)
 ·obtain ⟨G, ds, e, r, q⟩ := h
  by_cases hd : ds.length = n
  ·rw [<- r.length, hd, hn]
  ·have : (ds.length == n) = false := by simpa using hd
   unfold fnM at q
   rw [this] at q
   exact (show False from q).elim
 ·obtain ⟨G, ds, e, r, q⟩ := hsp
  have hd : ds.length = n := by
   by_cases hd : ds.length = n
   ·exact hd
   ·have : (ds.length == n) = false := by simpa using hd
    unfold fnM at q
    rw [this] at q
    exact (show False from q).elim
  unfold fnM at q
  rw [show (ds.length == n) = true by simpa using hd] at q
  have q' : RW (fin (body (zen nN ds))) (zay K mg Q G H) (zaL K mg E G H) := q
  refine ⟨_, hb _ E ⟨cdv, A, outer, s, H, rfl⟩ ⟨rfl, hr, ztP⟩ ⟨PassesOwn.leaving⟩ G, G, zen nN ds, ?_, .refl e, ?_⟩
  ·have := Reps.startOk e (N.length - vs.length) r
   unfold L2.start zen
   rw [<- hN, r.length]
   exact .zero this
  ·cases hbd : body (zen nN ds) with
   | bad => rw [hbd] at q'; exact q'
   | err e => rw [hbd] at q'; exact q'
   | ok o =>
    rw [hbd] at q'
    cases o with
    | rt d => exact fun v G' H' s r => (show zay K mg Q G H d from q') v G' H' s r
    | rf es =>
     intro a vs G' H' s n e g r
     have q2 : zay K mg Q G H (.lst es) := q'
     have sg : zaI G' (upd G' a (.lst vs)) := zcl g
     refine q2 (.ref a) (upd G' a (.lst vs)) H' ⟨s.g.trans sg, s.h, fun b u p => ?_, fun b u p1 p2 => ?_⟩ ⟨a, vs, rfl, SqL.of zav, r.mono sg⟩
     ·by_cases hb : b = a
      ·subst hb; rw [zav] at p; cases p; exact e
      ·rw [zap hb] at p; exact s.e b u p
     ·have hb : b ≠ a := zal p1 n
      rw [zap hb]; exact s.c b u p1 p2
    | nx Z => exact fun Z' G' H' ok s _ => (show zay K mg Q G H .non from q') .non G' H' s rfl
    | bk Z => exact (show False from q').elim
    | ct Z => exact (show False from q').elim
def zp2 (K : xFg) : Sp := fun vs H Q _ => ∃ (a : Addr) (ns : List Int), vs = [.ref a] /\ SqL K H a (ns.map V.int) /\ ns.length <= 63 /\ ∀ H', Q (.bl true) H'
theorem zux {k : Nat} {f : Addr} {fd : FuncData} {m : List D -> R D} (F : zhe P w K mg base (CXe P w) k f fd ["_law_script"] (spD K mg m)) (hm : ∀ ns : List Int, ns.length <= 63 -> m [.lst (ns.map .int)] = .ok (.bl true)) :
  zhe P w K mg base (CXe P w) k f fd ["_law_script"] (zp2 K) := F.imp fun vs H Q E h => by
 obtain ⟨a, ns, rfl, hS, hl, q⟩ := h
 refine ⟨H, [.lst (ns.map .int)], zaI.refl _, Reps.cons ⟨a, _, rfl, hS, Reps.ints ns⟩ Reps.nil, RW.ok_of (hm ns hl) fun v G' H' s r => ?_⟩
 cases r; exact q H'
end
theorem walkD {l : PySem.W.OpenLaw} {q : Program} {loose : List Str} {XP : (Str -> Option Value) -> Heap -> Prop} {YP : World -> Heap -> Prop} {d : DefRec} {K : Params -> xFg} (k : Nat) (hr : zfP k callerA) (hn : l.most = some 63) (hdf : d.params.defaults = [])
  (hY : ∀ (w : World) (h : Heap), YP w h -> (K w.params).In h)
  (F : ∀ (w : World) (mg : Str -> Option Value) (fa : Addr) (h : Heap), (K w.params).In h -> h.Ns mainGlobals mg -> mg d.name = some (.ref fa) ->
   ∃ fd : FuncData, (∀ (s : Shared) (u : Value), BindsTo s fd ⟨[u], []⟩ [("_law_script", u)]) /\ ∀ base : Heap, (K w.params).In base -> base.Ns mainGlobals mg -> zhe l.prog w (K w.params) mg base (CXe l.prog w) k fa fd ["_law_script"] (zp2 (K w.params))) :
  PySem.W.WalkO q loose XP YP l.row.toRowW d [] (fun f vs => PySem.call f vs) :=
 L2.walk_of (n := 63) (k := k) (x := "_law_script") (CX := fun w => CXe l.prog w) (sp := fun w => zp2 (K w.params)) hn (by decide) hdf hr hY F (fun _ _ a ns hl _ hS => ⟨a, ns, rfl, hS, hl, fun _ => rfl⟩) fun w H s e s' z => by
  obtain ⟨_, _, _, _, _, _, _, _, _, _, _, _, _, z⟩ := z
  exact z.elim
end DL
namespace DL
open L2
def zsr (r : R Out) (g : DSt -> R Out) : R Out := r.bind fun o => match o with
 | .nx Z' => g Z'
 | o => .ok o
theorem zk9 (f g : DSt -> R Out) (Z : DSt) : zaV f g Z = zsr (f Z) g := rfl
theorem zn7 (Z : DSt) (g : DSt -> R Out) : zsr (.ok (.nx Z)) g = g Z := rfl
theorem zn8 (d : D) (g : DSt -> R Out) : zsr (.ok (.rt d)) g = .ok (.rt d) := rfl
theorem zn9 (Z : DSt) (g : DSt -> R Out) : zsr (.ok (.bk Z)) g = .ok (.bk Z) := rfl
theorem zoa (Z : DSt) (g : DSt -> R Out) : zsr (.ok (.ct Z)) g = .ok (.ct Z) := rfl
theorem zla (e : D) (g : DSt -> R Out) : zsr (.err e) g = .err e := rfl
theorem zi8 (Z : DSt) : zb9 Z = .ok (.nx Z) := rfl
theorem zi9 (d : D) (Z : DSt) : zag 0 (some d :: Z) = .ok d := rfl
theorem zja (n : Nat) (x : Option D) (Z : DSt) : zag (n + 1) (x :: Z) = zag n Z := rfl
theorem zqJ (d : D) (Z : DSt) : eC d Z = .ok d := rfl
def opK (g : D -> D -> R D) (a b : R D) : R D := a.bind fun x => b.bind fun y => g x y
theorem zob (g : D -> D -> R D) (fa fb : DSt -> R D) (Z : DSt) : eOp g fa fb Z = opK g (fa Z) (fb Z) := rfl
theorem zoc (g : D -> D -> R D) (x y : D) : opK g (.ok x) (.ok y) = g x y := rfl
def unK (g : D -> R D) (a : R D) : R D := a.bind g
theorem zod (g : D -> R D) (fa : DSt -> R D) (Z : DSt) : eUn g fa Z = unK g (fa Z) := rfl
theorem zqK (g : D -> R D) (x : D) : unK g (.ok x) = g x := rfl
def zss (m : List D -> R D) (a : R (List D)) : R D := a.bind m
theorem zjb (m : List D -> R D) (fs : DSt -> R (List D)) (Z : DSt) : zaF m fs Z = zss m (fs Z) := rfl
theorem zlb (m : List D -> R D) (ds : List D) : zss m (.ok ds) = m ds := rfl
theorem zjc (m : List D -> R D) (e : D) : zss m (.err e) = .err e := rfl
def zqL (m : List D -> R D) (a : R (List D)) : R D := a.noerr.bind m
theorem zho (m : List D -> R D) (fs : DSt -> R (List D)) (Z : DSt) : zk8 m fs Z = zqL m (fs Z) := rfl
theorem zjd (m : List D -> R D) (ds : List D) : zqL m (.ok ds) = m ds := rfl
def bltK (g : List D -> R D) (a : R (List D)) : R D := a.bind fun ds => (g ds).noerr
theorem zlc (g : List D -> R D) (fs : DSt -> R (List D)) (Z : DSt) : zdP g fs Z = bltK g (fs Z) := rfl
theorem zoe (g : List D -> R D) (ds : List D) : bltK g (.ok ds) = (g ds).noerr := rfl
def zuy (g : List D -> R (List D)) (a : R (List D)) : R (List D) := a.bind fun ds => (g ds).noerr
theorem zje (g : List D -> R (List D)) (fs : DSt -> R (List D)) (Z : DSt) : zwi g fs Z = zuy g (fs Z) := rfl
theorem zld (g : List D -> R (List D)) (ds : List D) : zuy g (.ok ds) = (g ds).noerr := rfl
theorem zjf {α : Type} (a : α) : (R.ok a).noerr = .ok a := rfl
theorem zle (Z : DSt) : zaC Z = .ok [] := rfl
def zst (a : R D) (b : R (List D)) : R (List D) := a.bind fun x => b.bind fun xs => .ok (x :: xs)
theorem zjg (fa : DSt -> R D) (fs : DSt -> R (List D)) (Z : DSt) : zad fa fs Z = zst (fa Z) (fs Z) := rfl
theorem zlf (x : D) (xs : List D) : zst (.ok x) (.ok xs) = .ok (x :: xs) := rfl
theorem zjh (e : D) (b : R (List D)) : zst (.err e) b = .err e := rfl
def zp3 (a : R (List D)) : R D := a.bind fun ds => bif few ds.length then .ok (.tup ds) else .bad
theorem zlg (fs : DSt -> R (List D)) (Z : DSt) : zj1 fs Z = zp3 (fs Z) := rfl
theorem zqM : zp3 (.ok []) = .ok (.tup []) := rfl
theorem zqN (a : D) : zp3 (.ok [a]) = .ok (.tup [a]) := rfl
theorem zqO (a b : D) : zp3 (.ok [a, b]) = .ok (.tup [a, b]) := rfl
theorem zqP (a b c : D) : zp3 (.ok [a, b, c]) = .ok (.tup [a, b, c]) := rfl
theorem zqQ (a b c d : D) : zp3 (.ok [a, b, c, d]) = .ok (.tup [a, b, c, d]) := rfl
theorem zqR (a b c d e : D) : zp3 (.ok [a, b, c, d, e]) = .ok (.tup [a, b, c, d, e]) := rfl
theorem zqS (a b c d e f : D) : zp3 (.ok [a, b, c, d, e, f]) = .ok (.tup [a, b, c, d, e, f]) := rfl
theorem zqT (a b c d e f g h i : D) : zp3 (.ok [a, b, c, d, e, f, g, h, i]) = .ok (.tup [a, b, c, d, e, f, g, h, i]) := rfl
def zqU (a : R (List D)) : R (List D) := a.bind fun ds => bif few ds.length then .ok ds else .bad
theorem zlh (fs : DSt -> R (List D)) (Z : DSt) : zhl fs Z = zqU (fs Z) := rfl
theorem zqV : zqU (.ok []) = .ok [] := rfl
theorem zqW (a : D) : zqU (.ok [a]) = .ok [a] := rfl
theorem zqX (a b : D) : zqU (.ok [a, b]) = .ok [a, b] := rfl
theorem zqY (a b c : D) : zqU (.ok [a, b, c]) = .ok [a, b, c] := rfl
theorem zqZ (a b c d : D) : zqU (.ok [a, b, c, d]) = .ok [a, b, c, d] := rfl
theorem zq0 (a b c d e : D) : zqU (.ok [a, b, c, d, e]) = .ok [a, b, c, d, e] := rfl
theorem zq1 (a b c d e f : D) : zqU (.ok [a, b, c, d, e, f]) = .ok [a, b, c, d, e, f] := rfl
def zsu (a : R (List D)) : R D := a.bind fun ds => .ok (.lst ds)
theorem zli (fl : DSt -> R (List D)) (Z : DSt) : zeH fl Z = zsu (fl Z) := rfl
theorem zlj (ds : List D) : zsu (.ok ds) = .ok (.lst ds) := rfl
def zuz (a : R D) : R Bool := a.bind asB
theorem zji (f : DSt -> R D) (Z : DSt) : zaJ f Z = zuz (f Z) := rfl
theorem zlk (b : Bool) : zuz (.ok (.bl b)) = .ok b := rfl
def zwk (a : R Bool) (fb : DSt -> R Bool) (Z : DSt) : R Bool := a.bind fun k => bif k then fb Z else .ok false
theorem zll (fa fb : DSt -> R Bool) (Z : DSt) : zs4 fa fb Z = zwk (fa Z) fb Z := rfl
theorem zq2 (fb : DSt -> R Bool) (Z : DSt) : zwk (.ok true) fb Z = fb Z := rfl
theorem zq3 (fb : DSt -> R Bool) (Z : DSt) : zwk (.ok false) fb Z = .ok false := rfl
def orK (a : R Bool) (fb : DSt -> R Bool) (Z : DSt) : R Bool := a.bind fun k => bif k then .ok true else fb Z
theorem zof (fa fb : DSt -> R Bool) (Z : DSt) : eOr fa fb Z = orK (fa Z) fb Z := rfl
theorem zuA (fb : DSt -> R Bool) (Z : DSt) : orK (.ok true) fb Z = .ok true := rfl
theorem zuB (fb : DSt -> R Bool) (Z : DSt) : orK (.ok false) fb Z = fb Z := rfl
def notK (a : R Bool) : R Bool := a.bind fun k => .ok (!k)
theorem zlm (fa : DSt -> R Bool) (Z : DSt) : zph fa Z = notK (fa Z) := rfl
theorem zog (b : Bool) : notK (.ok b) = .ok (!b) := rfl
def zsv (a : R D) (fb : DSt -> R D) (Z : DSt) : R D := a.bind fun x => (asB x).bind fun k => bif k then fb Z else .ok (.bl false)
theorem zln (fa fb : DSt -> R D) (Z : DSt) : zpS fa fb Z = zsv (fa Z) fb Z := rfl
theorem zoh (fb : DSt -> R D) (Z : DSt) : zsv (.ok (.bl true)) fb Z = fb Z := rfl
theorem zoi (fb : DSt -> R D) (Z : DSt) : zsv (.ok (.bl false)) fb Z = .ok (.bl false) := rfl
def zwl (a : R D) (fb : DSt -> R D) (Z : DSt) : R D := a.bind fun x => (asB x).bind fun k => bif k then .ok (.bl true) else fb Z
theorem zoj (fa fb : DSt -> R D) (Z : DSt) : vOr fa fb Z = zwl (fa Z) fb Z := rfl
theorem zq4 (fb : DSt -> R D) (Z : DSt) : zwl (.ok (.bl true)) fb Z = .ok (.bl true) := rfl
theorem zq5 (fb : DSt -> R D) (Z : DSt) : zwl (.ok (.bl false)) fb Z = fb Z := rfl
def zuC (a : R D) : R D := a.bind fun x => (asB x).bind fun k => .ok (.bl !k)
theorem zlo (fa : DSt -> R D) (Z : DSt) : zt8 fa Z = zuC (fa Z) := rfl
theorem zlp (b : Bool) : zuC (.ok (.bl b)) = .ok (.bl !b) := rfl
def zwm (c : R Bool) (fa fb : DSt -> R D) (Z : DSt) : R D := c.bind fun k => bif k then fa Z else fb Z
theorem zok (c : DSt -> R Bool) (fa fb : DSt -> R D) (Z : DSt) : eIf c fa fb Z = zwm (c Z) fa fb Z := rfl
theorem zq6 (fa fb : DSt -> R D) (Z : DSt) : zwm (.ok true) fa fb Z = fa Z := rfl
theorem zq7 (fa fb : DSt -> R D) (Z : DSt) : zwm (.ok false) fa fb Z = fb Z := rfl
def ifK (c : R Bool) (f g : DSt -> R Out) (Z : DSt) : R Out := c.bind fun k => bif k then f Z else g Z
theorem zol (c : DSt -> R Bool) (f g : DSt -> R Out) (Z : DSt) : sIf c f g Z = ifK (c Z) f g Z := rfl
theorem zuD (f g : DSt -> R Out) (Z : DSt) : ifK (.ok true) f g Z = f Z := rfl
theorem zuE (f g : DSt -> R Out) (Z : DSt) : ifK (.ok false) f g Z = g Z := rfl
def zq8 (g g' : D -> D -> R D) (a b c : R D) : R D := a.bind fun x => b.bind fun y => (g x y).bind fun z => (asB z).bind fun k => bif k then c.bind fun w => g' y w else .ok (.bl false)
theorem zhp (g g' : D -> D -> R D) (fa fb fc : DSt -> R D) (Z : DSt) : zt7 g g' fa fb fc Z = zq8 g g' (fa Z) (fb Z) (fc Z) := rfl
theorem zhq (p q : Int -> Int -> Bool) (i j k : Int) : zq8 (gB p) (gB q) (.ok (.int i)) (.ok (.int j)) (.ok (.int k)) = .ok (.bl (p i j && q j k)) := by
 show (bif p i j then R.ok (D.bl (q j k)) else R.ok (D.bl false)) = _
 cases p i j <;> rfl
def appK (i : Nat) (l : R (List D)) (a : R D) (Z : DSt) : R Out := l.bind fun ds => a.bind fun d => bif most ds.length then .ok (.nx (Z.set i (some (.lst (ds ++ [d]))))) else .bad
theorem zlq (own : List Nat) (i : Nat) (fe : DSt -> R D) (Z : DSt) : zs5 own i fe Z = appK i (zeh Z i) (fe (mask own Z)) Z := rfl
theorem zlr {n : Nat} (h : n <= 1000000) : most n = true := decide_eq_true (xbq h (by decide))
theorem zgm (i : Nat) (ds : List D) (d : D) (Z : DSt) (h : ds.length <= 1000000) : appK i (.ok ds) (.ok d) Z = .ok (.nx (Z.set i (some (.lst (ds ++ [d]))))) := by
 show (bif most ds.length then _ else _) = _
 rw [zlr h]; rfl
def zuF (i : Nat) (l : R (List D)) (a : R D) (Z : DSt) : R Out := l.bind fun ds => a.bind fun d => bif most ds.length && imm d then .ok (.nx (Z.set i (some (.lst (ds ++ [d]))))) else .bad
theorem zjj (i : Nat) (fe : DSt -> R D) (Z : DSt) : zwb i fe Z = zuF i (zeh Z i) (fe Z) Z := rfl
theorem zp4 (i : Nat) (ds : List D) (d : D) (Z : DSt) (h : ds.length <= 1000000) (h' : imm d = true) : zuF i (.ok ds) (.ok d) Z = .ok (.nx (Z.set i (some (.lst (ds ++ [d]))))) := by
 show (bif most ds.length && imm d then _ else _) = _
 rw [zlr h, h']; rfl
theorem zhr (ds : List D) (Z : DSt) : zeh (some (.lst ds) :: Z) 0 = .ok ds := rfl
theorem zhs (x : Option D) (Z : DSt) (n : Nat) : zeh (x :: Z) (n + 1) = zeh Z n := rfl
theorem zsw {i : Int} (h1 : -(10 ^ 100) <= i) (h2 : i <= 10 ^ 100) : zhX i = true := znY (n := 400) (B.of (k := 10 ^ 100) (by omega))
theorem zsx {i : Int} (h1 : -(10 ^ 100) <= i) (h2 : i <= 10 ^ 100) (h : i ≠ 0) : zpi i = true := zkj (n := 400) (B.of (k := 10 ^ 100) (by omega)) h
def zwn (a : R D) : R Out := a.bind fun d => .ok (.rt d)
theorem zls (fe : DSt -> R D) (Z : DSt) : zcN fe Z = zwn (fe Z) := rfl
theorem zom (d : D) : zwn (.ok d) = .ok (.rt d) := rfl
theorem zlt (e : D) : zwn (.err e) = .err e := rfl
def zsy (a : R D) (Z : DSt) : R Out := a.bind fun _ => .ok (.nx Z)
theorem zjk (fe : DSt -> R D) (Z : DSt) : zsk fe Z = zsy (fe Z) Z := rfl
theorem zlu (d : D) (Z : DSt) : zsy (.ok d) Z = .ok (.nx Z) := rfl
theorem zjl (e : D) (Z : DSt) : zsy (.err e) Z = .err e := rfl
def zvg (i : Nat) (a : R D) (Z : DSt) : R Out := a.bind fun d => .ok (.nx (Z.set i (some d)))
theorem zjm (i : Nat) (fe : DSt -> R D) (Z : DSt) : zaG i fe Z = zvg i (fe Z) Z := rfl
theorem zlv (own : List Nat) (i : Nat) (fe : DSt -> R D) (Z : DSt) : zmX own i fe Z = zvg i (fe (mask own Z)) Z := rfl
theorem zon (i : Nat) (d : D) (Z : DSt) : zvg i (.ok d) Z = .ok (.nx (Z.set i (some d))) := rfl
theorem zlw (i : Nat) (e : D) (Z : DSt) : zvg i (.err e) Z = .err e := rfl
def zuG (i : Nat) (a : R D) (Z : DSt) : R Out := a.bind fun d => bif imm d then .ok (.nx (Z.set i (some d))) else .bad
theorem zoo (i : Nat) (fe : DSt -> R D) (Z : DSt) : zv8 i fe Z = zuG i (fe Z) Z := rfl
theorem zp5 (i : Nat) (d : D) (Z : DSt) (h : imm d = true) : zuG i (.ok d) Z = .ok (.nx (Z.set i (some d))) := by
 show (bif imm d then _ else _) = _
 rw [h]; rfl
def newK (i : Nat) (a : R (List D)) (Z : DSt) : R Out := a.bind fun ds => .ok (.nx (Z.set i (some (.lst ds))))
theorem zlx (own : List Nat) (i : Nat) (fe : DSt -> R (List D)) (Z : DSt) : zqA own i fe Z = newK i (fe (mask own Z)) Z := rfl
theorem zop (i : Nat) (ds : List D) (Z : DSt) : newK i (.ok ds) Z = .ok (.nx (Z.set i (some (.lst ds)))) := rfl
def zs6 (ks : List Nat) (gp : D -> R (List D)) (a : R D) (Z : DSt) : R Out := a.bind fun d => (gp d).noerr.bind fun us => .ok (.nx (setAll Z ks us))
theorem zly (own ks : List Nat) (gp : D -> R (List D)) (fe : DSt -> R D) (Z : DSt) : zud own ks gp fe Z = zs6 ks gp (fe (mask own Z)) Z := rfl
theorem zoq (i j : Nat) (a b : D) (Z : DSt) : zs6 [i, j] (zff 2) (.ok (.tup [a, b])) Z = .ok (.nx ((Z.set i (some a)).set j (some b))) := rfl
theorem zor (i j : Nat) (a b : D) (Z : DSt) : zs6 [i, j] (zff 2) (.ok (.lst [a, b])) Z = .ok (.nx ((Z.set i (some a)).set j (some b))) := rfl
theorem zos (i j k : Nat) (a b c : D) (Z : DSt) : zs6 [i, j, k] (zff 3) (.ok (.tup [a, b, c])) Z = .ok (.nx (((Z.set i (some a)).set j (some b)).set k (some c))) := rfl
theorem zot (i j k : Nat) (a b c : D) (Z : DSt) : zs6 [i, j, k] (zff 3) (.ok (.lst [a, b, c])) Z = .ok (.nx (((Z.set i (some a)).set j (some b)).set k (some c))) := rfl
def parK (i j : Nat) (a : R (List D)) (Z : DSt) : R Out := a.bind fun ds => match ds with
 | [a, b] => .ok (.nx ((Z.set i (some a)).set j (some b)))
 | _ => .bad
theorem zlz (own : List Nat) (i j : Nat) (fs : DSt -> R (List D)) (Z : DSt) : zvc own i j fs Z = parK i j (fs (mask own Z)) Z := rfl
theorem zou (i j : Nat) (a b : D) (Z : DSt) : parK i j (.ok [a, b]) Z = .ok (.nx ((Z.set i (some a)).set j (some b))) := rfl
def zq9 (c : Str) (a : R (List D)) : R Out := a.bind fun ds => bif few ds.length then .err (.exc c []) else .bad
theorem zht (c : Str) (fs : DSt -> R (List D)) (Z : DSt) : zqI c fs Z = zq9 c (fs Z) := rfl
theorem zlA (c : Str) (a : D) : zq9 c (.ok [a]) = .err (.exc c []) := rfl
theorem zgn (c : Str) (Z : DSt) : zkl c Z = .err (.exc c []) := rfl
def zwo (i : Nat) (c : Str) (r : R Out) (hnd : DSt -> R Out) (Z : DSt) : R Out := match r with
 | .ok o => .ok o
 | .err (.exc cc as) => bif ziS cc c == some true then (hnd (Z.set i (some (.exc cc as)))).noerr.bind fun o => match o with
   | .nx Z' => .ok (.nx (Z'.set i none))
   | _ => .bad
  else .bad
 | _ => .bad
theorem zlB (i : Nat) (c : Str) (body hnd : DSt -> R Out) (Z : DSt) : zvf i c body hnd Z = zwo i c (body Z) hnd Z := rfl
theorem zov (i : Nat) (c : Str) (o : Out) (hnd : DSt -> R Out) (Z : DSt) : zwo i c (.ok o) hnd Z = .ok o := rfl
def zuH (i : Nat) (r : R Out) : R Out := r.noerr.bind fun o => match o with
 | .nx Z' => .ok (.nx (Z'.set i none))
 | _ => .bad
theorem zlC (i : Nat) (Z : DSt) : zuH i (.ok (.nx Z)) = .ok (.nx (Z.set i none)) := rfl
theorem zp6 (i : Nat) (c cc : Str) (as : List D) (hnd : DSt -> R Out) (Z : DSt) (h : ziS cc c = some true) : zwo i c (.err (.exc cc as)) hnd Z = zuH i (hnd (Z.set i (some (.exc cc as)))) := by
 show (bif ziS cc c == some true then _ else _) = _
 rw [h]; rfl
theorem zra (d : D) : fin (.ok (.rt d)) = .ok d := rfl
theorem zrb (Z : DSt) : fin (.ok (.nx Z)) = .ok .non := rfl
theorem zow (e : D) : fin (.err e) = .err e := rfl
theorem zox (i j : Int) : zdz (.int i) (.int j) = .ok (.int (i + j)) := rfl
theorem zoy (i j : Int) : gSub (.int i) (.int j) = .ok (.int (i - j)) := rfl
theorem zau (i j : Int) (hi : zhX i = true) (hj : zhX j = true) : zbI (.int i) (.int j) = .ok (.int (i * j)) := by
 show (bif zhX i && zhX j then _ else _) = _
 rw [hi, hj]; rfl
theorem zjn (i j : Int) (h : zpi j = true) (h0 : 0 < j) : zeI (.int i) (.int j) = .ok (.int (i / j)) := by
 show (bif zpi j then R.ok (D.int (i.fdiv j)) else .bad) = _
 rw [h, Int.fdiv_eq_ediv_of_nonneg _ (Int.le_of_lt h0)]; rfl
theorem zaU (i j : Int) (h : zpi j = true) : zeI (.int i) (.int j) = .ok (.int (i.fdiv j)) := by
 show (bif zpi j then _ else _) = _
 rw [h]; rfl
theorem zaD (i j : Int) (h0 : 0 < j) : zfs (.int i) (.int j) = .ok (.int (i % j)) := by
 have : decide (j ≠ 0) = true := decide_eq_true (by omega)
 show (bif decide (j ≠ 0) then R.ok (D.int (i.fmod j)) else .bad) = _
 rw [this, Int.fmod_eq_emod_of_nonneg _ (Int.le_of_lt h0)]; rfl
theorem zsz (i j : Int) (h : zwc i j = true) : zsp (.int i) (.int j) = .ok (.int (i ^ j.toNat)) := by
 show (bif zwc i j then _ else _) = _
 rw [h]; rfl
theorem zsA (i j : Int) (h : 0 <= j) : gShr (.int i) (.int j) = .ok (.int (i / 2 ^ j.toNat)) := by
 show (bif decide (0 <= j) then _ else _) = _
 rw [decide_eq_true h]; rfl
theorem zrc (i : Int) : zqD (.int i) = .ok (.int (-i)) := rfl
theorem zrd (i j : Int) : gLt (.int i) (.int j) = .ok (.bl (decide (i < j))) := rfl
theorem zre (i j : Int) : gLe (.int i) (.int j) = .ok (.bl (decide (i <= j))) := rfl
theorem zrf (i j : Int) : gGt (.int i) (.int j) = .ok (.bl (decide (j < i))) := rfl
theorem zrg (i j : Int) : gGe (.int i) (.int j) = .ok (.bl (decide (j <= i))) := rfl
theorem zjo {a b : D} (h : zmv a b = true) : gEq a b = .ok (.bl (eqD a b)) := by unfold gEq; rw [h]; rfl
theorem zoz {a b : D} (h : zmv a b = true) : gNe a b = .ok (.bl (!eqD a b)) := by unfold gNe; rw [h]; rfl
theorem zfu (i j : Int) : eqD (.int i) (.int j) = decide (i = j) := by unfold eqD; rfl
theorem zrh (i j : Int) : gEq (.int i) (.int j) = .ok (.bl (decide (i = j))) := by rw [zjo rfl, zfu]
theorem zri (i j : Int) : gNe (.int i) (.int j) = .ok (.bl (!decide (i = j))) := by rw [zoz rfl, zfu]
theorem zrj (i j : Bool) : gEq (.bl i) (.bl j) = .ok (.bl (i == j)) := by rw [zjo rfl]; unfold eqD; rfl
theorem zrk (i j : Bool) : gNe (.bl i) (.bl j) = .ok (.bl (!(i == j))) := by rw [zoz rfl]; unfold eqD; rfl
abbrev t3 (x y z : Int) : D := .tup [.int x, .int y, .int z]
abbrev l3 (x y z : Int) : D := .lst [.int x, .int y, .int z]
theorem zjp : ∀ (ns ms : List Int), eqDs (ns.map D.int) (ms.map D.int) = decide (ns = ms)
 | [], [] => by unfold eqDs; rfl
 | [], _ :: _ => by unfold eqDs; rfl
 | _ :: _, [] => by unfold eqDs; rfl
 | n :: ns, m :: ms => by
  show eqDs (D.int n :: ns.map D.int) (D.int m :: ms.map D.int) = _
  unfold eqDs
  rw [zjp ns ms, zfu, xc5]
  simp
theorem zjq (a b c x y z : Int) : eqD (t3 a b c) (t3 x y z) = decide (a = x /\ b = y /\ c = z) := by
 have := zjp [a, b, c] [x, y, z]
 unfold eqD
 rw [show ([D.int a, .int b, .int c] : List D) = [a, b, c].map D.int from rfl, show ([D.int x, .int y, .int z] : List D) = [x, y, z].map D.int from rfl, this, xc5]
 simp
theorem zuI (a b c x y z : Int) : eqD (l3 a b c) (l3 x y z) = decide (a = x /\ b = y /\ c = z) := by
 have := zjq a b c x y z
 unfold eqD at this ⊢
 exact this
theorem zrl (a b c x y z : Int) : gEq (t3 a b c) (t3 x y z) = .ok (.bl (decide (a = x /\ b = y /\ c = z))) := by rw [zjo rfl, zjq]
theorem zrm (a b c x y z : Int) : gNe (t3 a b c) (t3 x y z) = .ok (.bl (!decide (a = x /\ b = y /\ c = z))) := by rw [zoz rfl, zjq]
theorem zrn (a b c x y z : Int) : gEq (l3 a b c) (l3 x y z) = .ok (.bl (decide (a = x /\ b = y /\ c = z))) := by rw [zjo rfl, zuI]
theorem zro (a b : Bool) : gIs (.bl a) (.bl b) = .ok (.bl (a == b)) := rfl
theorem zoA (a b : Bool) : gIsn (.bl a) (.bl b) = .ok (.bl (a != b)) := rfl
theorem zoB (d : D) : gIs d .non = .ok (.bl (zmw d)) := by cases d <;> rfl
theorem zlD (d : D) : gIsn d .non = .ok (.bl (!zmw d)) := by cases d <;> rfl
theorem zlE (a b c : D) : gIx (.tup [a, b, c]) (.int 0) = .ok a := rfl
theorem zlF (a b c : D) : gIx (.tup [a, b, c]) (.int 1) = .ok b := rfl
theorem zlG (a b c : D) : gIx (.tup [a, b, c]) (.int 2) = .ok c := rfl
theorem zlH (a b c : D) : gIx (.lst [a, b, c]) (.int 0) = .ok a := rfl
theorem zlI (a b c : D) : gIx (.lst [a, b, c]) (.int 1) = .ok b := rfl
theorem zlJ (a b c : D) : gIx (.lst [a, b, c]) (.int 2) = .ok c := rfl
theorem zfg {xs : List D} {j : Nat} {d : D} (h : xs[j]? = some d) : gIx (.lst xs) (.int (j : Int)) = .ok d := by
 show (match atI xs (j : Int) with | some d => R.ok d | none => .bad) = _
 rw [zrZ h]
theorem zp7 (xs : List D) (d : D) : gIx (.lst (xs ++ [d])) (.int (-1)) = .ok d := by
 show (match atI (xs ++ [d]) (-1) with | some d => R.ok d | none => .bad) = _
 rw [zpv]
theorem zrp (xs : List D) : zmY [.lst xs] = .ok (.int xs.length) := rfl
theorem zoC : zmY [.tup []] = .ok (.int 0) := rfl
theorem zoD (a : D) : zmY [.tup [a]] = .ok (.int 1) := rfl
theorem zoE (a b : D) : zmY [.tup [a, b]] = .ok (.int 2) := rfl
theorem zoF (a b c : D) : zmY [.tup [a, b, c]] = .ok (.int 3) := rfl
theorem zoG (a b c d : D) : zmY [.tup [a, b, c, d]] = .ok (.int 4) := rfl
theorem zrq (i : Int) : zpj [.int i] = .ok (.int (i.natAbs : Int)) := rfl
theorem zoH (i j : Int) : gMin [.int i, .int j] = .ok (.int (min i j)) := rfl
theorem zoI (i j : Int) : zvd [.int i, .int j] = .ok (.int (max i j)) := rfl
theorem zrr (b : Bool) : gInt [.bl b] = .ok (.int (if b then 1 else 0)) := rfl
theorem zgo (i : Int) : g2 zfd [.int i, .ty "int"] = .ok (.bl true) := rfl
theorem zfv (i : Int) : g2 zfd [.int i, .ty "bool"] = .ok (.bl false) := rfl
theorem zgp (i : Bool) : g2 zfd [.bl i, .ty "bool"] = .ok (.bl true) := rfl
theorem zhu (i : Bool) : g2 zfd [.bl i, .ty "int"] = .ok (.bl true) := rfl
theorem zgq (xs : List D) : g2 zfd [.tup xs, .ty "tuple"] = .ok (.bl true) := rfl
theorem zgr (xs : List D) : g2 zfd [.lst xs, .ty "list"] = .ok (.bl true) := rfl
theorem zgs (xs : List D) : g2 zfd [.lst xs, .ty "tuple"] = .ok (.bl false) := rfl
theorem zgt (xs : List D) : g2 zfd [.tup xs, .ty "list"] = .ok (.bl false) := rfl
theorem zsB {c d : Str} {b : Bool} (h : ziS c d = some b) : g2 zfd [.exc c [], .cls d] = .ok (.bl b) := by
 show (match ziS c d with | some b => R.ok (D.bl b) | none => .bad) = _
 rw [h]
theorem zlK (c : Str) : g2 zfd [.exc c [], .ty "ValueError"] = .ok (.bl true) := rfl
theorem zrs (j : Int) (h : rOk j = true) : zkf [.int j] = .ok (zj2 0 j.toNat) := by
 show (bif rOk j then _ else _) = _
 rw [h]; rfl
theorem zsC (i j : Int) (h : rOk i = true) (h' : rOk j = true) : rng2 [.int i, .int j] = .ok (zj2 i (j - i).toNat) := by
 show (bif rOk i && rOk j then _ else _) = _
 rw [h, h']; rfl
theorem zrt {i : Int} (h : -1000000000 <= i) (h' : i <= 1000000000) : rOk i = true := by
 unfold rOk
 rw [Nat.blt_eq]
 omega
def zuJ (g : List D -> R (List D)) (a : R (List D)) : R (List D) := a.bind g
theorem zjr (g : List D -> R (List D)) (fs : DSt -> R (List D)) (Z : DSt) : zkg g fs Z = zuJ g (fs Z) := (rfl)
theorem zlL (g : List D -> R (List D)) (ds : List D) : zuJ g (.ok ds) = g ds := (rfl)
def zsD (a : R D) : R (List D) := a.bind zt9
theorem zlM (f : DSt -> R D) (Z : DSt) : zhn f Z = zsD (f Z) := rfl
theorem zoJ (xs : List D) : zsD (.ok (.tup xs)) = .ok xs := rfl
theorem zoK (xs : List D) : zsD (.ok (.lst xs)) = .ok xs := rfl
def forK (ks : List Nat) (gp : D -> R (List D)) (fb : DSt -> R Out) (a : R (List D)) (Z : DSt) : R Out := a.bind fun ds => zkh ks gp fb ds Z
theorem zlN (own ks : List Nat) (gp : D -> R (List D)) (fi : DSt -> R (List D)) (fb : DSt -> R Out) (Z : DSt) : zsl own ks gp fi fb Z = forK ks gp fb (fi (mask own Z)) Z := rfl
theorem zoL (ks : List Nat) (gp : D -> R (List D)) (fb : DSt -> R Out) (ds : List D) (Z : DSt) : forK ks gp fb (.ok ds) Z = zkh ks gp fb ds Z := rfl
def zkm (r : R Out) (k : DSt -> R Out) : R Out := r.bind fun o => match o with
 | .nx Z' => k Z'
 | .ct Z' => k Z'
 | .bk Z' => .ok (.nx Z')
 | .rt d => .ok (.rt d)
 | .rf d => .ok (.rf d)
theorem zlO (Z : DSt) (k : DSt -> R Out) : zkm (.ok (.nx Z)) k = k Z := rfl
theorem zlP (Z : DSt) (k : DSt -> R Out) : zkm (.ok (.ct Z)) k = k Z := rfl
theorem zlQ (Z : DSt) (k : DSt -> R Out) : zkm (.ok (.bk Z)) k = .ok (.nx Z) := rfl
theorem zlR (d : D) (k : DSt -> R Out) : zkm (.ok (.rt d)) k = .ok (.rt d) := rfl
theorem zjs (d : D) (k : DSt -> R Out) : zkm (.err d) k = .err d := rfl
theorem zlS (ks : List Nat) (gp : D -> R (List D)) (fb : DSt -> R Out) (Z : DSt) : zkh ks gp fb [] Z = .ok (.nx Z) := rfl
theorem zfZ (i : Nat) (fb : DSt -> R Out) (d : D) (ds : List D) (Z : DSt) : zkh [i] zaR fb (d :: ds) Z = zkm (fb (Z.set i (some d))) (zkh [i] zaR fb ds) := by
 show (fb (Z.set i (some d))).bind _ = _
 unfold zkm
 cases fb (Z.set i (some d)) with
 | ok o => cases o <;> rfl
 | err e => rfl
 | bad => rfl
theorem zlT {i : Nat} {fb : DSt -> R Out} (I : DSt -> Prop) : ∀ (ds : List D), (∀ d ∈ ds, ∀ Z, I Z -> ∃ Z', (fb (Z.set i (some d)) = .ok (.nx Z') \/ fb (Z.set i (some d)) = .ok (.ct Z')) /\ I Z') -> ∀ Z, I Z -> ∃ Z', zkh [i] zaR fb ds Z = .ok (.nx Z') /\ I Z'
 | [], _, Z, h => ⟨Z, rfl, h⟩
 | d :: ds, hs, Z, h => by
  obtain ⟨Z1, h1, h2⟩ := hs d xae Z h
  obtain ⟨Z2, h3, h4⟩ := zlT I ds (fun d' hd => hs d' (xab _ hd)) Z1 h2
  refine ⟨Z2, ?_, h4⟩
  rw [zfZ]
  rcases h1 with h1 | h1 <;> rw [h1]
  ·exact h3
  ·exact h3
theorem zp8 {i : Nat} {fb : DSt -> R Out} (I : Nat -> DSt -> Prop) (ds : List D) (hs : ∀ (k : Nat) (d : D) (Z : DSt), ds[k]? = some d -> I k Z -> ∃ Z', (fb (Z.set i (some d)) = .ok (.nx Z') \/ fb (Z.set i (some d)) = .ok (.ct Z')) /\ I (k + 1) Z') (Z : DSt) (h : I 0 Z) : ∃ Z', zkh [i] zaR fb ds Z = .ok (.nx Z') /\ I ds.length Z' := by
 have go : ∀ (ds : List D) (n : Nat), (∀ (k : Nat) (d : D) (Z : DSt), ds[k]? = some d -> I (n + k) Z -> ∃ Z', (fb (Z.set i (some d)) = .ok (.nx Z') \/ fb (Z.set i (some d)) = .ok (.ct Z')) /\ I (n + k + 1) Z') -> ∀ Z, I n Z -> ∃ Z', zkh [i] zaR fb ds Z = .ok (.nx Z') /\ I (n + ds.length) Z' := by
  intro ds
  induction ds with
  | nil => intro n _ Z h; exact ⟨Z, rfl, h⟩
  | cons d ds ih =>
   intro n hs Z h
   obtain ⟨Z1, h1, h2⟩ := hs 0 d Z rfl h
   obtain ⟨Z2, h3, h4⟩ := ih (n + 1) (fun k d' Z hd hI => by
    have := hs (k + 1) d' Z (by simpa using hd) (by rw [show n + (k + 1) = n + 1 + k by omega]; exact hI)
    rw [show n + (k + 1) + 1 = n + 1 + k + 1 by omega] at this
    exact this) Z1 h2
   refine ⟨Z2, ?_, by rw [xap, show n + (ds.length + 1) = n + 1 + ds.length by omega]; exact h4⟩
   rw [zfZ]
   rcases h1 with h1 | h1 <;> rw [h1]
   ·exact h3
   ·exact h3
 obtain ⟨Z', h1, h2⟩ := go ds 0 (fun k d Z hd hI => by
  rw [xbo] at hI ⊢
  exact hs k d Z hd hI) Z h
 exact ⟨Z', h1, by rw [xbo] at h2; exact h2⟩
theorem zh0 {c : DSt -> R Bool} {fb : DSt -> R Out} {Z Z' : DSt} (h : c Z = .ok true) (h' : fb Z = .ok (.nx Z')) : zbd c fb Z = zbd c fb Z' := by rw [zgh, h]; show (fb Z).bind _ = _; rw [h']; rfl
theorem zh1 {c : DSt -> R Bool} {fb : DSt -> R Out} {Z : DSt} (h : c Z = .ok false) : zbd c fb Z = .ok (.nx Z) := by rw [zgh, h]; rfl
def lcK (k : Nat) (ks : List Nat) (a : R (List D)) (gp : D -> R (List D)) (c : DSt -> R Bool) (e : DSt -> R D) (Z : DSt) : R (List D) := a.bind fun ds => bif most ds.length then (lcD ks gp c e (List.replicate k none ++ Z) ds).noerr else .bad
theorem zoM (k : Nat) (ks : List Nat) (fi : DSt -> R (List D)) (gp : D -> R (List D)) (c : DSt -> R Bool) (e : DSt -> R D) (Z : DSt) : eLC k ks fi gp c e Z = lcK k ks (fi Z) gp c e Z := rfl
theorem zh2 {n : Nat} (h : n <= 1000000) : most n = true := decide_eq_true (xbq h (by decide))
theorem zru {ds : List D} {e : DSt -> R D} {Z : DSt} {g : D -> D} (hl : ds.length <= 1000000) (h : ∀ d ∈ ds, e (some d :: Z) = .ok (g d)) : lcK 1 [0] (.ok ds) zaR zdm e Z = .ok (ds.map g) := by
 have go : ∀ ds : List D, (∀ d ∈ ds, e (some d :: Z) = .ok (g d)) -> lcD [0] zaR zdm e (List.replicate 1 none ++ Z) ds = .ok (ds.map g) := by
  intro ds
  induction ds with
  | nil => intro _; rfl
  | cons d ds ih =>
   intro h
   show (e (some d :: Z)).bind (fun y => (lcD [0] zaR zdm e (List.replicate 1 none ++ Z) ds).bind fun ys => .ok (y :: ys)) = _
   rw [h d xae, ih fun d' hd => h d' (xab _ hd)]; rfl
 show (bif most ds.length then _ else _) = _
 rw [zh2 hl, go ds h]; rfl
theorem zeS {ds : List D} {c : DSt -> R Bool} {e : DSt -> R D} {Z : DSt} {p : D -> Bool} {g : D -> D} (hl : ds.length <= 1000000) (hc : ∀ d ∈ ds, c (some d :: Z) = .ok (p d)) (h : ∀ d ∈ ds, p d = true -> e (some d :: Z) = .ok (g d)) :
  lcK 1 [0] (.ok ds) zaR c e Z = .ok ((ds.filter p).map g) := by
 have go : ∀ ds : List D, (∀ d ∈ ds, c (some d :: Z) = .ok (p d)) -> (∀ d ∈ ds, p d = true -> e (some d :: Z) = .ok (g d)) -> lcD [0] zaR c e (List.replicate 1 none ++ Z) ds = .ok ((ds.filter p).map g) := by
  intro ds
  induction ds with
  | nil => intro _ _; rfl
  | cons d ds ih =>
   intro hc h
   have ih' := ih (fun d' hd => hc d' (xab _ hd)) fun d' hd => h d' (xab _ hd)
   show (c (some d :: Z)).bind (fun k => bif k then (e (some d :: Z)).bind (fun y => (lcD [0] zaR c e (List.replicate 1 none ++ Z) ds).bind fun ys => .ok (y :: ys)) else lcD [0] zaR c e (List.replicate 1 none ++ Z) ds) = _
   rw [hc d xae, ih']
   cases hp : p d with
   | true =>
    show (e (some d :: Z)).bind _ = _
    rw [h d xae hp, List.filter_cons_of_pos hp]; rfl
   | false => rw [List.filter_cons_of_neg (by rw [hp]; exact xa1)]; rfl
 show (bif most ds.length then _ else _) = _
 rw [zh2 hl, go ds hc h]; rfl
end DL
namespace DL
open L2 PyProof.Rows
section
variable {X : Cx} {E : XK} {e : Expr} {te : TE} {pos : Pos}
def zwp (i : Nat) (l : R (List D)) (a k : R D) (Z : DSt) : R Out := l.bind fun ds => a.bind fun d => k.bind fun kd => match kd with
 | .int n => match ixN ds.length n with
  | some j => .ok (.nx (Z.set i (some (.lst (ds.set j d)))))
  | none => .bad
 | _ => .bad
def zuK (i : Nat) (l : R (List D)) (a k : R D) (Z : DSt) : R Out := l.bind fun ds => a.bind fun d => bif imm d then k.bind fun kd => match kd with
 | .int n => match ixN ds.length n with
  | some j => .ok (.nx (Z.set i (some (.lst (ds.set j d)))))
  | none => .bad
 | _ => .bad else .bad
def zvh (own : List Nat) (i : Nat) (fk fe : DSt -> R D) : DSt -> R Out := fun Z => zwp i (zeh Z i) (fe (mask own Z)) (fk (mask own Z)) Z
def zmy (i : Nat) (fk fe : DSt -> R D) : DSt -> R Out := fun Z => zuK i (zeh Z i) (fe Z) (fk Z) Z
variable {own ol : List Nat} {x : Str} {k : Expr} {fk fe : DSt -> R D} {np tpos : Pos}
theorem zuL (i : Nat) (hk : DE X E k fk) (he : DE X E e fe) (ho : own.contains i = true := by rfl) (hN : X.N[i]? = some x := by rfl) (hv : Vis X.env.scope x := by first | exact Or.inl rfl | exact Or.inr (Or.inl rfl) | exact Or.inr (Or.inr rfl)) (hd : (x == ("__debug__" : Str)) = false := by decide)
  (hcd : (x == ("__classdict__" : Str)) = false := by decide)
  (ha : ∀ v, assign (.Subscript (.Name x np) k tpos) X.env v = (do
   let ov <- holding [v] (eval (.Name x np) X.env)
   let iv <- holding [v, ov] (eval k X.env)
   standAt tpos
   holding [v, ov, iv] (setItem ov iv v)
   release [v, ov, iv] []) := by intro _; rfl)
  (hs : swapsWithSole [.Subscript (.Name x np) k tpos] e pos.line X.env = pure false := by rfl) (hw : swappedStores [.Subscript (.Name x np) k tpos] e X.env = pure none := by rfl)
  (h1 : (assignEach [.Subscript (.Name x np) k tpos] X.env).map (·.2) = [assign (.Subscript (.Name x np) k tpos) X.env] := by rfl) :
  DS X E own own ol (.Assign [.Subscript (.Name x np) k tpos] e pos) (zvh own i fk fe) := fun G0 =>
 PS.mono' (zm4 he (zqt (pv i hN hv hd hcd) hk zkJ ha) hs hw h1) fun Dn Z H ⟨G, Zd, ok, s0, q⟩ => by
 unfold zvh zwp at q
 cases hL : zeh Zd i with
 | bad => rw [hL] at q; exact q.elim
 | err e => exact absurd hL zhV
 | ok ds =>
  rw [hL] at q
  have hd := zhU hL
  have hi : i ∈ own := by simpa using ho
  obtain ⟨a, ds', vs, p1, p2, p3, p4, p5, p6⟩ := ok.mine i _ hi hd
  cases p2
  refine ⟨G, mask own Zd, ok.masked, (show RW ((fe (mask own Zd)).bind _) _ _ from q).of_bind.mono (fun d _ z v G1 H1 s1 r1 => ?_) fun _ z => z.step s0⟩
  have ok1 := ok.step s1
  refine ⟨_, p1, G1, mask own Zd, ok1.masked, z.of_bind.mono (fun kd _ z kv G2 H2 s2 r2 => ?_) fun _ z => z.step (s0.trans s1)⟩
  have ok2 := ok1.step s2
  have s12 := s1.trans s2
  cases kd with
  | int n =>
   cases r2
   cases hj : ixN ds.length n with
   | none => simp only [hj] at z; exact z.elim
   | some j =>
    simp only [hj] at z
    refine ⟨a, vs, n, j, rfl, rfl, s12.h _ _ p3, by rw [<- p6.length]; exact hj, ?_⟩
    exact (show zfr X.K X.mg G0 X.H₀ own ol Dn G (.nx (Zd.set i (some (.lst (ds.set j d))))) from z) Z G2 _ (ok2.write hi hd p1 ((p6.mono s12.g).set j (r1.mono s2.g))) ((s0.trans s12).write (o := .lst vs) p5 (s12.c _ _ p3 p4)) s12.g
  | _ => exact (show False from z).elim
theorem zh3 (i : Nat) (hk : DE X E k fk) (he : DE X E e fe) (ho : own.contains i = true := by rfl) (hN : X.N[i]? = some x := by rfl) (hv : Vis X.env.scope x := by first | exact Or.inl rfl | exact Or.inr (Or.inl rfl) | exact Or.inr (Or.inr rfl)) (hd : (x == ("__debug__" : Str)) = false := by decide)
  (hcd : (x == ("__classdict__" : Str)) = false := by decide)
  (ha : ∀ v, assign (.Subscript (.Name x np) k tpos) X.env v = (do
   let ov <- holding [v] (eval (.Name x np) X.env)
   let iv <- holding [v, ov] (eval k X.env)
   standAt tpos
   holding [v, ov, iv] (setItem ov iv v)
   release [v, ov, iv] []) := by intro _; rfl)
  (hs : swapsWithSole [.Subscript (.Name x np) k tpos] e pos.line X.env = pure false := by rfl) (hw : swappedStores [.Subscript (.Name x np) k tpos] e X.env = pure none := by rfl)
  (h1 : (assignEach [.Subscript (.Name x np) k tpos] X.env).map (·.2) = [assign (.Subscript (.Name x np) k tpos) X.env] := by rfl) :
  DS X E own own ol (.Assign [.Subscript (.Name x np) k tpos] e pos) (zmy i fk fe) := fun G0 =>
 PS.mono' (zm4 he (zqt (pv i hN hv hd hcd) hk zkJ ha) hs hw h1) fun Dn Z H ⟨G, Zd, ok, s0, q⟩ => by
 unfold zmy zuK at q
 cases hL : zeh Zd i with
 | bad => rw [hL] at q; exact q.elim
 | err e => exact absurd hL zhV
 | ok ds =>
  rw [hL] at q
  have hd := zhU hL
  have hi : i ∈ own := by simpa using ho
  obtain ⟨a, ds', vs, p1, p2, p3, p4, p5, p6⟩ := ok.mine i _ hi hd
  cases p2
  have sp := ok.pubStep s0
  refine ⟨_, Zd, ok.pub.1, (show RW ((fe Zd).bind _) _ _ from q).of_bind.mono (fun d _ z v G1 H1 s1 r1 => ?_) fun _ z => z.step sp⟩
  cases hd2 : imm d with
  | false => rw [hd2] at z; exact (show False from z).elim
  | true =>
   rw [hd2] at z
   obtain ⟨st1, sT1⟩ := ok.hide s1
   have ok1 := ok.step st1
   have rd := r1.imm sT1 hd2
   have sp1 := ok1.pubStep (s0.trans st1)
   refine ⟨_, p1, _, Zd, ok1.pub.1, (show RW ((fk Zd).bind _) _ _ from z).of_bind.mono (fun kd _ z kv G2 H2 s2 r2 => ?_) fun _ z => z.step sp1⟩
   have ok2 := ok1.drop s2.h
   have st12 := st1.trans (.heap ok1.ext s2.h)
   cases kd with
   | int n =>
    cases r2
    cases hj : ixN ds.length n with
    | none => simp only [hj] at z; exact z.elim
    | some j =>
     simp only [hj] at z
     refine ⟨a, vs, n, j, rfl, rfl, st12.h _ _ p3, by rw [<- p6.length]; exact hj, ?_⟩
     exact (show zfr X.K X.mg G0 X.H₀ own ol Dn G (.nx (Zd.set i (some (.lst (ds.set j d))))) from z) Z _ _ (ok2.write hi hd p1 ((p6.mono st12.g).set j rd)) ((s0.trans st12).write (o := .lst vs) p5 (st12.c _ _ p3 p4)) st12.g
   | _ => exact (show False from z).elim
end
end DL
namespace DL
open L2 PyProof.Rows
def inD (d : D) (xs : List D) : Bool := xs.any fun y => eqD y d
def in2 (d : D) (xs : List D) : Bool := zd9 9 d && xs.all (zd9 9)
def gIn : D -> D -> R D
 | d, .lst xs => bif in2 d xs then .ok (.bl (inD d xs)) else .bad
 | d, .tup xs => bif in2 d xs then .ok (.bl (inD d xs)) else .bad
 | .str i, .str j => .ok (.bl (!(Builtin.Str.occurrences j i 0 j.length 1).isEmpty))
 | _, _ => .bad
def zm0 : D -> D -> R D
 | d, .lst xs => bif in2 d xs then .ok (.bl (!inD d xs)) else .bad
 | d, .tup xs => bif in2 d xs then .ok (.bl (!inD d xs)) else .bad
 | .str i, .str j => .ok (.bl (!(!(Builtin.Str.occurrences j i 0 j.length 1).isEmpty)))
 | _, _ => .bad
section
variable {X : Cx} {E : XK}
theorem zuM {K : xFg} {mg : Str -> Option Value} {G : Hp} {d : D} (f : Value -> Bool) : ∀ {ds : List D} {vs : List V} {its : List Value}, (∀ d' v' u, d' ∈ ds -> Rep K mg G d' v' -> RelV v' u -> f u = eqD d' d) -> Reps K mg G ds vs -> zbf vs its -> its.any f = ds.any fun y => eqD y d
 | [], _, _, _, r, t => by cases r; cases t; rfl
 | d' :: ds, _, _, h, ⟨v, vs, e, r1, r2⟩, t => by
  subst e
  cases t with
  | cons q t =>
   rw [List.any_cons, List.any_cons, h d' _ _ xae r1 q, zuM f (fun d'' v'' u hd => h d'' v'' u (xab _ hd)) r2 t]
theorem zgu {K : xFg} {mg : Str -> Option Value} {G : Hp} : ∀ {ds : List D} {vs : List V} {its : List Value}, Reps K mg G ds vs -> zbf vs its -> ∀ u ∈ its, ∃ d' v', d' ∈ ds /\ Rep K mg G d' v' /\ RelV v' u
 | [], _, _, r, t, u, hu => by cases r; cases t; cases hu
 | d' :: ds, _, _, ⟨v, vs, e, r1, r2⟩, t, u, hu => by
  subst e
  cases t with
  | cons q t =>
   rcases xaf.mp hu with rfl | hu
   ·exact ⟨d', v, xae, r1, q⟩
   ·obtain ⟨d'', v'', h1, h2, h3⟩ := zgu r2 t u hu
    exact ⟨d'', v'', xab _ h1, h2, h3⟩
def rInD (K : xFg) (mg : Str -> Option Value) (neg : Bool) : R2 := fun x y H Q => ∃ G d ds p vs, zaI G H /\ Rep K mg G d x /\ y = .ref p /\ (SqL K G p vs \/ SqT K G p vs) /\ Reps K mg G ds vs /\ in2 d ds = true /\ Q (.bl (bif neg then !inD d ds else inD d ds)) H
open Classical in
theorem zlU {pins : List (Addr × Obj)} {Z : L2.St} {G H : Hp} {s : Shared} (I : Inv X pins Z H s) {k : Nat} (r : zfP k X.A) (e : zaI G H) {d : D} {x : V} {v : Value} {ds : List D} {vs : List V} {its : List Value} (rx : Rep X.K X.mg G d x) (qx : RelV x v) (rs : Reps X.K X.mg G ds vs) (t : zbf vs its) (h : in2 d ds = true) :
  ∃ f : Value -> Bool, (∀ u ∈ its, SeqAt.EqAt X.A.in1 s u v (f u)) /\ its.any f = inD d ds := by
 unfold in2 at h
 rw [xav, xay] at h
 obtain ⟨h1, h2⟩ := h
 have key : ∀ d' v' u, d' ∈ ds -> Rep X.K X.mg G d' v' -> RelV v' u -> decide (∃ d'' v'', d'' ∈ ds /\ Rep X.K X.mg G d'' v'' /\ RelV v'' u /\ eqD d'' d = true) = eqD d' d := by
  intro d' v' u hd r1 q1
  by_cases hq : eqD d' d = true
  ·rw [hq]; exact decide_eq_true ⟨d', v', hd, r1, q1, hq⟩
  ·rw [Bool.not_eq_true] at hq
   rw [hq]
   refine decide_eq_false ?_
   rintro ⟨d'', v'', hd', r2, q2, hq'⟩
   have ev := q1.inj q2
   subst ev
   have := zki I e 9 (h2 _ hd) (h2 _ hd') r1 r2
   subst this
   rw [hq] at hq'; cases hq'
 refine ⟨fun u => decide (∃ d'' v'', d'' ∈ ds /\ Rep X.K X.mg G d'' v'' /\ RelV v'' u /\ eqD d'' d = true), fun u hu => ?_, zuM _ key rs t⟩
 obtain ⟨d', v', hd, r1, q1⟩ := zgu rs t u hu
 show SeqAt.EqAt X.A.in1 s u v (decide _)
 rw [key d' v' u hd r1 q1]
 exact (znX I e 9 (by rw [in1_units]; have := r.un; omega) (h2 _ hd) h1 r1 q1 rx qx).1
theorem zsE {k : Nat} (r : zfP k X.A) : OpR X (compareOp .NotIn) (rInD X.K X.mg true) := by
 intro pins s Z H x y v u Q I rx ry h
 obtain ⟨G, d, ds, p, vs, e, r1, rfl, hq, rs, c, q⟩ := h
 cases ry
 rcases hq with hq | hq
 ·obtain ⟨its, t, pl, hz⟩ := I.list (e.seq hq)
  obtain ⟨f, h1, h2⟩ := zlU I r e r1 rx rs t c
  refine SeqAt.notIn_listAt f pl.isList (fun w hw => h1 w (by simpa using hw)) ⟨.bl _, H, I, rfl, ?_⟩
  rw [show its.toArray.any f = its.any f by simp, h2]; exact q
 ·obtain ⟨its, t, pl, hz⟩ := I.tuple (zaI.sqT e hq)
  obtain ⟨f, h1, h2⟩ := zlU I r e r1 rx rs t c
  refine SeqAt.notIn_tupleAt f pl (fun w hw => h1 w (by simpa using hw)) ⟨.bl _, H, I, rfl, ?_⟩
  rw [show its.toArray.any f = its.any f by simp, h2]; exact q
abbrev rInS (neg : Bool) : R2 := fun x y H Q => ∃ i j, x = .str i /\ y = .str j /\ Q (.bl (bif neg then !(!(Builtin.Str.occurrences j i 0 j.length 1).isEmpty) else !(Builtin.Str.occurrences j i 0 j.length 1).isEmpty)) H
theorem zuN {k : Nat} (C : XC X E k) : zqE X .NotIn zm0 := ⟨_, (zsE C.room).or (ziE : OpR X _ (rInS true)), fun G H a b x y Q e ra rb q => by
 cases b with
 | lst xs =>
  obtain ⟨p, vs, rfl, h1, h2⟩ := rb
  cases hc : in2 a xs with
  | false => simp only [zm0, hc, cond_false] at q; exact q.elim
  | true => simp only [zm0, hc, cond_true] at q; exact .inl ⟨G, a, xs, p, vs, e, ra, rfl, .inl h1, h2, hc, zay.now q e rfl⟩
 | tup xs =>
  obtain ⟨p, vs, rfl, h1, h2⟩ := rb
  cases hc : in2 a xs with
  | false => simp only [zm0, hc, cond_false] at q; exact q.elim
  | true => simp only [zm0, hc, cond_true] at q; exact .inl ⟨G, a, xs, p, vs, e, ra, rfl, .inr h1, h2, hc, zay.now q e rfl⟩
 | str j => cases a with
  | str i => cases ra; cases rb; exact .inr ⟨i, j, rfl, rfl, zay.now q e rfl⟩
  | _ => exact (show False from q).elim
 | _ => cases a <;> exact (show False from q).elim, fun a b e => by
  cases b with
  | lst xs => simp only [zm0]; cases in2 a xs <;> simp [cond]
  | tup xs => simp only [zm0]; cases in2 a xs <;> simp [cond]
  | _ => cases a <;> simp [zm0]⟩
end
theorem zsF {d : D} {xs : List D} (h : in2 d xs = true) : zm0 d (.lst xs) = .ok (.bl (!inD d xs)) := by
 cases d <;> (simp only [zm0]; rw [h]; rfl)
end DL
namespace DL
open L2 PyProof.Rows
section
variable {prog : Program} {w : World} {A : Around} {E : Value -> Shared -> Prop} {s : Shared}
theorem items_int {ks : List Int} {vs : List Value} (h : ItemsAre (intKind prog w) ks vs) : ∀ v ∈ vs, ∃ i t, v = .int i t := by
 induction h with
 | nil => intro v hv; cases hv
 | cons q _ ih =>
  intro v hv
  rcases xaf.mp hv with rfl | hv
  ·cases v with
   | int i t => exact ⟨i, t, rfl⟩
   | _ => cases q
  ·exact ih v hv
theorem zlV {ks : List Int} {b : Addr} {Q : Bool -> Shared -> Prop} (hk : IsTupleKey (intKind prog w) s.heap ks b) (q : Q false s) : wpAny (model prog w) A (ofAClassStatement 8 (.ref b)) Q E s := by
 have ty := hk.typeIs
 obtain ⟨ob, its, m, g1, _, g2, g3⟩ := hk
 have hint := items_int g3
 unfold ofAClassStatement
 refine wpAny_bind (wpAny_typeOf ty ?_)
 refine wpAny_bind (wpAny_pure ?_)
 dsimp only
 rw [if_neg (by decide)]
 refine wpAny_bind (wpAny_seqItems g1 g2 ?_)
 dsimp only
 refine wpAny_bind ?_
 show wpAny _ _ (forIn its _ _) _ _ s
 rw [<- Array.forIn_toList]
 refine wpAny_forIn_list _ (fun left r s1 => r.1 = none /\ s1 = s /\ ∀ v ∈ left, ∃ i t, v = Value.int i t) _ ?_ ?_ _ _ ⟨rfl, rfl, hint⟩
 ·rintro v left r s1 ⟨hr, rfl, all⟩
  obtain ⟨i, t, rfl⟩ := all v xae
  refine wpAny_bind (wpAny_pure (a := false) ?_)
  rw [if_neg (by decide)]
  exact wpAny_pure ⟨rfl, rfl, fun u hu => all u (xab _ hu)⟩
 ·rintro ⟨r1, r2⟩ s1 ⟨hr, rfl, _⟩
  simp only at hr
  subst hr
  exact wpAny_pure q
theorem zoN {ks : List Int} {b : Addr} {stored : List Value} {Q : Bool -> Shared -> Prop} (hk : IsTupleKey (intKind prog w) s.heap ks b) (hs : ∀ v ∈ stored, ∃ c ls, v = .ref c /\ IsTupleKey (intKind prog w) s.heap ls c) (q : Q false s) : wpAny (model prog w) A (searchCouldBeSeen (.ref b) stored) Q E s := by
 unfold searchCouldBeSeen
 refine wpAny_bind ?_
 refine wpAny_forIn_list _ (fun left r s1 => r.1 = none /\ s1 = s /\ ∀ v ∈ left, ∃ c ls, v = Value.ref c /\ IsTupleKey (intKind prog w) s.heap ls c) _ ?_ ?_ _ _ ⟨rfl, rfl, hs⟩
 ·rintro v left r s1 ⟨hr, rfl, all⟩
  obtain ⟨c, ls, rfl, hc⟩ := all v xae
  have zch : ∀ u ∈ left, ∃ c ls, u = Value.ref c /\ IsTupleKey (intKind prog w) s1.heap ls c := fun u hu => all u (xab _ hu)
  dsimp only
  by_cases hv : (b == c || carriedByValue (.ref b) && carriedByValue (.ref c)) = true
  ·rw [if_pos hv]
   exact wpAny_pure ⟨rfl, rfl, zch⟩
  ·rw [if_neg hv]
   refine wpAny_bind (wpAny_eqIsQuiet_tuple hk ?_)
   rw [if_neg (by decide)]
   refine wpAny_bind (wpAny_eqIsQuiet_tuple hc ?_)
   rw [if_neg (by decide)]
   refine wpAny_bind (zlV hk ?_)
   rw [if_neg (by decide)]
   refine wpAny_bind (zlV hc ?_)
   rw [if_neg (by decide)]
   exact wpAny_pure ⟨rfl, rfl, zch⟩
 ·rintro ⟨r1, r2⟩ s1 ⟨hr, rfl, _⟩
  simp only at hr
  subst hr
  exact wpAny_pure q
theorem zsG {ks : List Int} {b : Addr} {Q : Bool -> Shared -> Prop} (hk : IsTupleKey (intKind prog w) s.heap ks b) (q : Q true s) : wpAny (model prog w) A (hashByValue 8 (.ref b)) Q E s := by
 have ty := hk.typeIs
 obtain ⟨ob, its, m, g1, _, g2, g3⟩ := hk
 have hint := items_int g3
 unfold hashByValue
 refine wpAny_bind (wpAny_specialOf ty PySem.F.slot_tuple_hash.lookup ?_)
 dsimp only
 refine wpAny_bind (wpAny_seqItems g1 g2 ?_)
 refine wpAny_bind ?_
 show wpAny _ _ (forIn its _ _) _ _ s
 rw [<- Array.forIn_toList]
 refine wpAny_forIn_list _ (fun left r s1 => r.1 = none /\ s1 = s /\ ∀ v ∈ left, ∃ i t, v = Value.int i t) _ ?_ ?_ _ _ ⟨rfl, rfl, hint⟩
 ·rintro v left r s1 ⟨hr, rfl, all⟩
  obtain ⟨i, t, rfl⟩ := all v xae
  refine wpAny_bind (wpAny_pure (a := true) ?_)
  rw [if_neg (by decide)]
  exact wpAny_pure ⟨rfl, rfl, fun u hu => all u (xab _ hu)⟩
 ·rintro ⟨r1, r2⟩ s1 ⟨hr, rfl, _⟩
  simp only at hr
  subst hr
  exact wpAny_pure q
structure TSet (prog : Program) (w : World) (h : Heap) (a : Addr) (o : Obj) (es : Array (Int × Value)) (ep : Nat) (t : SetTable) (kss : List (List Int)) : Prop where
 get : h.get? a = some o
 ex : o.ExactSet
 dat : o.data = .set es ep t
 dm : t.dummies = #[]
 pl : t.place.size = es.size
 msk : (t.mask = 7 /\ es.size <= 4) \/ (t.mask = 31 /\ es.size <= 18)
 n : es.size = kss.length
 el : ∀ e ∈ es.toList, ∃ c ls, e.2 = .ref c /\ IsTupleKey (intKind prog w) h ls c /\ ls ∈ kss
variable {h : Heap} {a : Addr} {o : Obj} {es : Array (Int × Value)} {ep : Nat} {t : SetTable} {kss : List (List Int)}
theorem zhv : ∀ (n : Nat) (p : SetTable.Probe), p.dummy = none -> (SetT.iter t n p).dummy = none
 | 0, _, hp => hp
 | n + 1, p, hp => zhv n (t.advance p) (by rw [SetT.adv_dummy]; exact hp)
theorem zeJ {h' : Heap} (sb : Heap.SameBut a h h') (g : h.get? a = some o) (dd : o.data = .set es ep t) {ls : List Int} {c : Addr} (hk : IsTupleKey (intKind prog w) h ls c) : IsTupleKey (intKind prog w) h' ls c := by
 obtain ⟨ob, its, m, g1, g2, g3, g4⟩ := hk
 have ne : c ≠ a := fun z => by
  subst z
  rw [g] at g1
  cases g1
  rw [dd] at g3
  cases g3
 exact ⟨ob, its, m, (sb.2 c ne).trans g1, g2, g3, g4⟩
theorem zjt {es' : Array (Int × Value)} {t' : SetTable} (g : h.get? a = some o) (dd : o.data = .set es ep t) : (h.update a (Obj.putSet es' t')).get? a = some { o with data := .set es' (ep + 1) t' } := by
 have := xcc (Obj.putSet es' t') g (by rw [putSet_of es' t' dd]; rfl)
 rw [putSet_of es' t' dd] at this
 exact this
theorem zeT {α : Type} (xs : Array α) (p : Nat) (x : α) : (SetTable.insertAt xs p x).size = xs.size + 1 := by
 have := (SetTable.insertAt_perm xs p x).length_eq
 rw [xan, xan, Array.size_push] at this
 exact this
theorem zju {α : Type} {xs : Array α} {p : Nat} {x y : α} (hy : y ∈ (SetTable.insertAt xs p x).toList) : y = x \/ y ∈ xs.toList := by
 have := (SetTable.insertAt_perm xs p x).mem_iff.mp hy
 rw [Array.toList_push] at this
 rcases xb1.mp this with z | z
 ·exact .inr z
 ·exact .inl (xbr.mp z)
end
end DL
namespace DL
open L2 PyProof.Rows
section
variable {prog : Program} {w : World} {A : Around} {h h' : Heap} {it l z : Addr} {items : Array Value}
theorem zgv (kp : ∀ b u, b ∉ [it] -> h.get? b = some u -> h'.get? b = some u) {i : Nat} (hi : h.IsListIter it l i) {ls : List Int} {c : Addr} (hk : IsTupleKey (intKind prog w) h ls c) : IsTupleKey (intKind prog w) h' ls c := by
 obtain ⟨ob, its, m, g1, g2, g3, g4⟩ := hk
 obtain ⟨oi, e1, e2, _⟩ := hi
 have ne : c ∉ [it] := fun q => by
  rw [xbr] at q
  subst q
  rw [g1] at e1
  cases e1
  rw [g2] at e2
  exact absurd e2 (by decide)
 exact ⟨ob, its, m, kp c _ ne g1, g2, g3, g4⟩
abbrev zdr (led : Bool) : Obj := { cls := .type "set", dict := none, data := .set #[] 0 (.fresh 0 0 led) }
end
end DL
namespace DL
open L2 PyProof.Rows
section
variable {X : Cx} {E : XK}
def zvi (a : Addr) (n : Nat) : Heap -> Prop := fun h => ∃ o es ep t, h.get? a = some o /\ o.ExactSet /\ o.data = .set es ep t /\ SetTable.fits t es.size = true /\ es.size = n
def zbt (K : xFg) (H : Hp) : List V -> List (List Int) -> Prop
 | [], [] => True
 | v :: vs, ks :: kss => (∃ b, v = .ref b /\ SqT K H b (ks.map V.int)) /\ zbt K H vs kss
 | _, _ => False
theorem zbt.length {K : xFg} {H : Hp} : ∀ {vs : List V} {kss : List (List Int)}, zbt K H vs kss -> vs.length = kss.length
 | [], [], _ => rfl
 | _ :: _, _ :: _, ⟨_, t⟩ => by rw [xap, xap, zbt.length t]
 | [], _ :: _, h => h.elim
 | _ :: _, [], h => h.elim
theorem zh4 : ∀ {ks : List Int} {us : List Value}, zbf (ks.map V.int) us -> ItemsAre (intKind X.prog X.w) ks us
 | [], _, h => by cases h; exact .nil
 | k :: ks, _, h => by
  cases h with
  | cons q t =>
   obtain ⟨tk, rfl⟩ := q
   exact .cons (intKind_is _ _ _ _) (zh4 t)
theorem zkn {pins : List (Addr × Obj)} {Z : L2.St} {H : Hp} {s : Shared} (I : Inv X pins Z H s) : ∀ {vs : List V} {kss : List (List Int)} {us : List Value}, zbt X.K H vs kss -> zbf vs us -> ∀ j, j < us.length -> ∃ b, us[j]? = some (.ref b) /\ IsTupleKey (intKind X.prog X.w) s.heap (kss.getD j []) b
 | [], [], _, _, h, j, hj => by cases h; cases hj
 | v :: vs, ks :: kss, _, ⟨⟨b, e1, e2⟩, t⟩, h, j, hj => by
  cases h with
  | cons q r =>
   subst e1
   cases q
   cases j with
   | zero =>
    obtain ⟨its, rv, ⟨ob, g1, g2, n, g3⟩, _⟩ := I.tuple e2
    exact ⟨b, rfl, ob, its.toArray, n, g1, g2, g3, by rw [xcj]; exact zh4 rv⟩
   | succ j =>
    obtain ⟨c, c1, c2⟩ := zkn I t r j (by simpa using hj)
    exact ⟨c, c1, c2⟩
 | [], _ :: _, _, h, _, _, _ => h.elim
 | _ :: _, [], _, h, _, _, _ => h.elim
def zwq : List V -> Hp -> VK -> Prop := fun xs H Q => ∃ (a : Addr) (n : Nat), xs = [.ref a] /\ H a = some (.ext (zvi a n)) /\ n <= 1000 /\ Q (.int n) H
theorem zoO : zdd X (.builtin "len") zwq := by
 intro pins s Z H xs us Q I rs h
 obtain ⟨a, n, rfl, hq, hn, q⟩ := h
 obtain ⟨u, rfl, rx⟩ := zhF rs
 cases rx
 obtain ⟨⟨o, es, ep, t, g1, g2, g3, g4, g5⟩, _⟩ := (show zdc X.prog X.w H s.heap a (.ext (zvi a n)) from I.hok a _ hq)
 exact call_len_set g1 g2 g3 g4 (by omega) ⟨.int n, H, I.tok _, ⟨s.toks + 1, by rw [g5]⟩, q⟩
def zbj : List D -> Option (List (List Int))
 | [] => some []
 | .tup xs :: ds => match zeR xs with
  | some ks => (zbj ds).map (ks :: ·)
  | none => none
 | _ => none
theorem zgw {K : xFg} {mg : Str -> Option Value} {G : Hp} : ∀ {ds : List D} {kss : List (List Int)} {vs : List V}, zbj ds = some kss -> Reps K mg G ds vs -> zbt K G vs kss
 | [], _, _, h, r => by cases h; cases r; exact True.intro
 | .tup xs :: ds, _, _, h, ⟨v, t, e1, r1, r2⟩ => by
  subst e1
  cases hi : zeR xs with
  | none => simp [zbj, hi] at h
  | some ks =>
   cases hd : zbj ds with
   | none => simp [zbj, hi, hd] at h
   | some kss' =>
    simp [zbj, hi, hd] at h
    subst h
    obtain ⟨a, ws, rfl, q1, q2⟩ := r1
    rw [zgk hi] at q2
    rw [Reps.of_ints q2] at q1
    exact ⟨⟨a, rfl, q1⟩, zgw hd r2⟩
 | .non :: _, _, _, h, _ => by simp [zbj] at h
 | .bl _ :: _, _, _, h, _ => by simp [zbj] at h
 | .int _ :: _, _, _, h, _ => by simp [zbj] at h
 | .str _ :: _, _, _, h, _ => by simp [zbj] at h
 | .ty _ :: _, _, _, h, _ => by simp [zbj] at h
 | .cls _ :: _, _, _, h, _ => by simp [zbj] at h
 | .lst _ :: _, _, _, h, _ => by simp [zbj] at h
 | .dct _ _ :: _, _, _, h, _ => by simp [zbj] at h
 | .exc _ _ :: _, _, _, h, _ => by simp [zbj] at h
theorem zbt.mono {K : xFg} {G H : Hp} (e : zaI G H) : ∀ {vs : List V} {kss : List (List Int)}, zbt K G vs kss -> zbt K H vs kss
 | [], [], _ => True.intro
 | _ :: _, _ :: _, ⟨⟨b, e1, e2⟩, t⟩ => ⟨⟨b, e1, zaI.sqT e e2⟩, zbt.mono e t⟩
 | [], _ :: _, h => h.elim
 | _ :: _, [], h => h.elim
end
end DL
section
namespace L2
open PySem.Spec PyProof.Rows
def zcG : Int -> List Int -> Int
 | a, [] => a
 | a, b :: r => zcG (min a b) r
theorem zjv : ∀ (r : List Int) (a : Int), zcG a r <= a /\ (∀ b ∈ r, zcG a r <= b) /\ (zcG a r = a \/ zcG a r ∈ r)
 | [], a => ⟨Int.le_refl _, by simp, .inl rfl⟩
 | b :: r, a => by
  obtain ⟨h1, h2, h3⟩ := zjv r (min a b)
  refine ⟨Int.le_trans h1 (Int.min_le_left _ _), fun c hc => ?_, ?_⟩
  ·rcases xaf.mp hc with rfl | hc
   ·exact Int.le_trans h1 (Int.min_le_right _ _)
   ·exact h2 c hc
  ·show zcG (min a b) r = a \/ zcG (min a b) r ∈ b :: r
   rcases h3 with h3 | h3
   ·by_cases hab : a <= b
    ·left; rw [h3]; omega
    ·right; rw [h3, show min a b = b by omega]; exact xae
   ·right; exact xab _ h3
theorem zoP {a : Int} {r : List Int} {M : Int} (hm : M ∈ a :: r) (hl : ∀ b ∈ a :: r, M <= b) : zcG a r = M := by
 obtain ⟨h1, h2, h3⟩ := zjv r a
 have u : zcG a r <= M := by
  rcases xaf.mp hm with rfl | hm
  ·exact h1
  ·exact h2 _ hm
 have v : M <= zcG a r := by
  rcases h3 with h3 | h3
  ·rw [h3]; exact hl _ xae
  ·exact hl _ (xab _ h3)
 omega
variable {X : Cx}
theorem zoQ (hc : X.calm = true) : zdd X (.builtin "min") (fun xs H Q => ∃ (p : Addr) (a : Int) (r : List Int), xs = [.ref p] /\ SqL X.K H p ((a :: r).map V.int) /\ Q (.int (zcG a r)) H) := by
 intro pins s Z H xs us Q I r h
 obtain ⟨p, a, ns, rfl, hq, q⟩ := h
 obtain ⟨u, rfl, e⟩ := zhF r
 cases e
 obtain ⟨its, rv, pl, hz⟩ := I.list hq
 have hi := zmh rv
 obtain ⟨zs, e⟩ := hi.allInts.items
 have hl : s.heap.IsList p (intItems zs) := by rw [<- e]; exact pl.isList
 have hn : (zs.toList.map (·.1)) = a :: ns := by
  have a1 := nums_intItems zs
  rw [<- e] at a1
  rw [show its.toArray.toList = its from rfl, hi.numsOf] at a1
  exact a1.symm
 have hs : zs.size = ns.length + 1 := by
  have := congrArg List.length hn
  simpa using this
 refine min_intList (I.ok.hd hc) hl (by omega) fun v h' tk hv hk => ?_
 obtain ⟨t, rfl⟩ := intItems_at hv
 refine ⟨.int (zcG a ns), H, I.kept hk, ⟨t, ?_⟩, q⟩
 obtain ⟨b1, b2⟩ := argBest_lt (numAt zs) (zs.size - 1)
 have hle : zcG a ns = numAt zs (argBest (fun i j => decide (numAt zs i < numAt zs j)) (zs.size - 1)) := by
  refine zoP ?_ fun b hb => ?_
  ·rw [numAt_eq, hn]; exact getD_mem (by rw [xap]; omega)
  ·obtain ⟨j, hj, rfl⟩ := mem_getD hb
   rw [<- hn, <- numAt_eq]
   exact b2 j (by rw [xap] at hj; omega)
 rw [hle]
end L2
namespace DL
open PySem.Spec PyProof.Rows L2
variable {K : xFg} {mg : Str -> Option Value} {X : Cx} {e : Expr} {es : List Expr} {p pos : Pos}
def zp9 : D -> R D
 | .lst xs => match zeR xs with
  | some (a :: r) => .ok (.int (zcG a r))
  | _ => .bad
 | _ => .bad
abbrev zsH := g1 zp9
theorem zsI : zg2 K mg (fun xs H Q => ∃ (p : Addr) (a : Int) (r : List Int), xs = [.ref p] /\ SqL K H p ((a :: r).map V.int) /\ Q (.int (zcG a r)) H) zsH := cd1 fun G H d v Q e r q => by
 cases d with
 | lst xs =>
  obtain ⟨a, vs, rfl, h1, h2⟩ := r
  cases hn : zeR xs with
  | none => simp only [zp9, hn] at q; exact q.elim
  | some ns =>
   cases ns with
   | nil => simp only [zp9, hn] at q; exact q.elim
   | cons n ns =>
    simp only [zp9, hn] at q
    rw [zgk hn] at h2
    rw [Reps.of_ints h2] at h1
    exact ⟨a, n, ns, rfl, e.seq h1, zay.now q e rfl⟩
 | _ => exact (show False from q).elim
theorem zsJ {E : XK} {fs : DSt -> R (List D)} (hc : X.calm = true) (hm : X.mg "min" = none) (ha : DA X E (e :: es) fs) (hg : Gl X "min" := by rfl) (he : starEach (e :: es) X.env = (false, eval e X.env) :: starEach es X.env := by rfl) (hpl : (backTo pos (starEach es X.env)).any (·.1) = false := by rfl) : DE X E (.Call (.Name "min" p) (e :: es) [] pos) (zdP zsH fs) :=
 zge (zoQ hc) zsI hm PyProof.Rows.boot_min ha hg (by decide) (by decide) he hpl
end DL
end
section
namespace SetT
open PySem.SetTable
theorem go_ok2 {t : SetTable} (hd : t.dummies = #[]) (hashAt : Nat -> Int) (h : Int) : ∀ (k n : Nat) (p : Probe), p.dummy = none -> t.slot (iter t k p).j = .empty -> (∀ m, m < k -> t.slot (iter t m p).j ≠ .empty) -> k < n ->
  SetTable.probe.go t hashAt h n p = some (.empty (iter t k p).j none) \/ ∃ j i m, m < k /\ SetTable.probe.go t hashAt h n p = some (.candidate j i (iter t (m + 1) p)) /\ t.slot j = .live i /\ t.place[i]? = some j := by
 intro k
 induction k with
 | zero =>
  intro n p hp he _ hn
  obtain ⟨n, rfl⟩ : ∃ m, n = m + 1 := ⟨n - 1, by omega⟩
  have he : t.slot p.j = .empty := he
  left
  unfold SetTable.probe.go
  rw [he, hp]; rfl
 | succ k ih =>
  intro n p hp he hb hn
  obtain ⟨n, rfl⟩ : ∃ m, n = m + 1 := ⟨n - 1, by omega⟩
  rcases slot_cases hd p.j with e | ⟨i, e, hi⟩
  ·exact absurd e (hb 0 (by omega))
  ·by_cases hh : (hashAt i == h) = true
   ·refine .inr ⟨p.j, i, 0, by omega, ?_, e, hi⟩
    unfold SetTable.probe.go
    rw [e]
    simp only [hh, if_true]
    rfl
   ·rcases ih n (t.advance p) (by rw [adv_dummy]; exact hp) he (fun m hm => hb (m + 1) (by omega)) (by omega) with q | ⟨j, i', m, hm, q, q2, q3⟩
    ·left
     unfold SetTable.probe.go
     rw [e]
     simp only [hh, if_false]
     exact q
    ·refine .inr ⟨j, i', m + 1, by omega, ?_, q2, q3⟩
     unfold SetTable.probe.go
     rw [e]
     simp only [hh, if_false]
     exact q
theorem go_there {t : SetTable} (hd : t.dummies = #[]) (hashAt : Nat -> Int) (h : Int) {i0 : Nat} (h0 : hashAt i0 = h) : ∀ (k n : Nat) (p : Probe), t.slot (iter t k p).j = .live i0 -> (∀ m, m < k -> t.slot (iter t m p).j ≠ .empty) -> k < n ->
  ∃ i m, m <= k /\ SetTable.probe.go t hashAt h n p = some (.candidate (iter t m p).j i (iter t (m + 1) p)) /\ t.slot (iter t m p).j = .live i /\ t.place[i]? = some (iter t m p).j := by
 intro k
 induction k with
 | zero =>
  intro n p he _ hn
  obtain ⟨n, rfl⟩ : ∃ m, n = m + 1 := ⟨n - 1, by omega⟩
  have he : t.slot p.j = .live i0 := he
  refine ⟨i0, 0, by omega, ?_, he, ?_⟩
  ·unfold SetTable.probe.go
   rw [he]
   simp only [h0, beq_self_eq_true, if_true]
   rfl
  ·rcases slot_cases hd p.j with e | ⟨i, e, hi⟩
   ·rw [e] at he; cases he
   ·rw [e] at he; cases he; exact hi
 | succ k ih =>
  intro n p he hb hn
  obtain ⟨n, rfl⟩ : ∃ m, n = m + 1 := ⟨n - 1, by omega⟩
  rcases slot_cases hd p.j with e | ⟨i, e, hi⟩
  ·exact absurd e (hb 0 (by omega))
  ·by_cases hh : (hashAt i == h) = true
   ·refine ⟨i, 0, by omega, ?_, e, hi⟩
    unfold SetTable.probe.go
    rw [e]
    simp only [hh, if_true]
    rfl
   ·obtain ⟨i', m, hm, q, q2, q3⟩ := ih n (t.advance p) he (fun m hm => hb (m + 1) (by omega)) (by omega)
    refine ⟨i', m + 1, by omega, ?_, q2, q3⟩
    unfold SetTable.probe.go
    rw [e]
    simp only [hh, if_false]
    exact q
theorem srt_lt {xs : Array Nat} (hs : xs.toList.Pairwise (· < ·)) {i k a b : Nat} (h : i < k) (ha : xs[i]? = some a) (hb : xs[k]? = some b) : a < b := by
 rw [<- xaq] at ha hb
 obtain ⟨h1, rfl⟩ := xah.mp ha
 obtain ⟨h2, rfl⟩ := xah.mp hb
 exact xb5.mp hs i k h1 h2 h
theorem zqa {xs : Array Nat} {j : Nat} (hs : xs.toList.Pairwise (· < ·)) : ∀ (n lo hi : Nat), hi - lo <= n -> lo <= hi -> hi <= xs.size -> (∀ i v, i < lo -> xs[i]? = some v -> v < j) -> (∀ i v, hi <= i -> xs[i]? = some v -> j <= v) ->
  SetTable.below.go xs j n lo hi <= xs.size /\ (∀ i v, i < SetTable.below.go xs j n lo hi -> xs[i]? = some v -> v < j) /\ (∀ i v, SetTable.below.go xs j n lo hi <= i -> xs[i]? = some v -> j <= v) := by
 intro n
 induction n with
 | zero =>
  intro lo hi h1 h2 h3 h4 h5
  unfold SetTable.below.go
  exact ⟨by omega, h4, fun i v hi' => h5 i v (by omega)⟩
 | succ n ih =>
  intro lo hi h1 h2 h3 h4 h5
  unfold SetTable.below.go
  by_cases hl : lo < hi
  ·rw [if_pos hl]
   simp only
   have hm : (lo + hi) / 2 < xs.size := by omega
   have hg : xs[(lo + hi) / 2]? = some xs[(lo + hi) / 2] := xa4 hm
   have hd : xs.getD ((lo + hi) / 2) j = xs[(lo + hi) / 2] := by rw [xar, hg]; rfl
   rw [hd]
   by_cases hx : xs[(lo + hi) / 2] < j
   ·rw [if_pos hx]
    refine ih _ _ (by omega) (by omega) h3 (fun i v hi' hv => ?_) h5
    by_cases e : i = (lo + hi) / 2
    ·subst e; rw [hg] at hv; cases hv; exact hx
    ·exact Nat.lt_trans (srt_lt hs (show i < (lo + hi) / 2 by omega) hv hg) hx
   ·rw [if_neg hx]
    refine ih _ _ (by omega) (by omega) (by omega) h4 (fun i v hi' hv => ?_)
    by_cases e : i = (lo + hi) / 2
    ·subst e; rw [hg] at hv; cases hv; omega
    ·have := srt_lt hs (show (lo + hi) / 2 < i by omega) hg hv
     omega
  ·rw [if_neg hl]
   exact ⟨by omega, h4, fun i v hi' => h5 i v (by omega)⟩
theorem below_ok {xs : Array Nat} (j : Nat) (hs : xs.toList.Pairwise (· < ·)) : below xs j <= xs.size /\ (∀ i v, i < below xs j -> xs[i]? = some v -> v < j) /\ (∀ i v, below xs j <= i -> xs[i]? = some v -> j <= v) :=
 zqa hs xs.size 0 xs.size (by omega) (by omega) (by omega) (fun i v h => absurd h (by omega)) fun i v h hv => by
  have := (xaz.mp hv).1
  omega
theorem slot_live {t : SetTable} (hs : t.place.toList.Pairwise (· < ·)) {i j : Nat} (hp : t.place[i]? = some j) : t.slot j = .live i := by
 obtain ⟨b1, b2, b3⟩ := below_ok j hs
 have e : below t.place j = i := by
  by_cases h1 : i < below t.place j
  ·have := b2 i j h1 hp; omega
  ·by_cases h2 : below t.place j < i
   ·have hlt : below t.place j < t.place.size := by have := (xaz.mp hp).1; omega
    have hg : t.place[below t.place j]? = some t.place[below t.place j] := xa4 hlt
    have := b3 _ _ (xaj _) hg
    have := srt_lt hs h2 hg hp
    omega
   ·omega
 unfold slot
 simp only
 rw [e, hp, if_pos (beq_self_eq_true _)]
theorem put_srt {xs : Array Nat} {j : Nat} (hs : xs.toList.Pairwise (· < ·)) (hj : ∀ i : Nat, xs[i]? ≠ some j) : (insertAt xs (below xs j) j).toList.Pairwise (· < ·) := by
 obtain ⟨b1, b2, b3⟩ := below_ok j hs
 rw [toList_insertAt, List.pairwise_append]
 refine ⟨hs.sublist (List.take_sublist _ _), xbj.mpr ⟨fun x hx => ?_, hs.sublist (List.drop_sublist _ _)⟩, fun x hx y hy => ?_⟩
 ·obtain ⟨i, hi, rfl⟩ := xbi hx
  have e : xs[below xs j + i]? = some (xs.toList.drop (below xs j))[i] := by
   rw [<- xaq, <- List.getElem?_drop, xao hi]
  have := b3 _ _ (by omega) e
  have : (xs.toList.drop (below xs j))[i] ≠ j := fun z => hj _ (by rw [e, z])
  omega
 ·have hx' : x < j := by
   obtain ⟨i, hi, rfl⟩ := xbi hx
   rw [xbd] at hi
   have e : xs[i]? = some (xs.toList.take (below xs j))[i] := by
    rw [<- xaq, List.getElem_take, xao]
   exact b2 _ _ (by omega) e
  rcases xaf.mp hy with rfl | hy
  ·exact hx'
  ·obtain ⟨i, hi, rfl⟩ := xbi hy
   have e : xs[below xs j + i]? = some (xs.toList.drop (below xs j))[i] := by
    rw [<- xaq, <- List.getElem?_drop, xao hi]
   have := b3 _ _ (by omega) e
   omega
theorem zip_put {α β : Type} {as : Array α} {bs : Array β} {p : Nat} {x : α} {y : β} (hl : as.size = bs.size) (hp : p <= as.size) {z : α × β} : z ∈ (insertAt as p x).toList.zip (insertAt bs p y).toList ↔ z = (x, y) \/ z ∈ as.toList.zip bs.toList := by
 rw [toList_insertAt, toList_insertAt, List.zip_append (by rw [xbd, xbd, xan, xan, hl]), List.zip_cons_cons, xb1, xaf]
 have e : as.toList.zip bs.toList = (as.toList.take p).zip (bs.toList.take p) ++ (as.toList.drop p).zip (bs.toList.drop p) := by
  rw [<- List.zip_append (by rw [xbd, xbd, xan, xan, hl]), xc3, xc3]
 rw [e, xb1]
 constructor
 ·rintro (h | h | h)
  ·exact .inr (.inl h)
  ·exact .inl h
  ·exact .inr (.inr h)
 ·rintro (h | h | h)
  ·exact .inr (.inl h)
  ·exact .inl h
  ·exact .inr (.inr h)
theorem iter_mask {t t' : SetTable} (h : t'.mask = t.mask) : ∀ (k : Nat) (p : Probe), iter t' k p = iter t k p
 | 0, _ => rfl
 | k + 1, p => by
  show iter t' k (t'.advance p) = iter t k (t.advance p)
  have : t'.advance p = t.advance p := by unfold advance; rw [h]
  rw [this, iter_mask h k]
theorem start_mask {t t' : SetTable} (h : t'.mask = t.mask) (hh : Int) : t'.probeStart hh = t.probeStart hh := by unfold probeStart; rw [h]
theorem first_empty {t : SetTable} (p : Probe) {k : Nat} (h : t.slot (iter t k p).j = .empty) : ∃ k0, k0 <= k /\ t.slot (iter t k0 p).j = .empty /\ ∀ m, m < k0 -> t.slot (iter t m p).j ≠ .empty := by
 induction k using Nat.strongRecOn with
 | _ k ih =>
  by_cases hx : ∃ m, m < k /\ t.slot (iter t m p).j = .empty
  ·obtain ⟨m, h1, h2⟩ := hx
   obtain ⟨k0, a, b, c⟩ := ih m h1 h2
   exact ⟨k0, by omega, b, c⟩
  ·exact ⟨k, xaj _, h, fun m hm e => hx ⟨m, hm, e⟩⟩
theorem relaid_flags {t t' : SetTable} {hashes : Array Int} {order : Array Nat} {n : Nat} (h : t.relaid hashes n = some (t', order)) : t'.plain = t.plain /\ t'.led = t.led := by
 unfold relaid laid at h
 cases hl : layClean (sizeAbove n - 1) hashes with
 | none => rw [hl] at h; cases h
 | some o =>
  rw [hl] at h
  have h := Option.some.inj h
  have e : t' = _ := (congrArg Prod.fst h).symm
  rw [e]
  exact ⟨rfl, rfl⟩
theorem relaid_found (t : SetTable) (hashes : Array Int) {n : Nat} (hn : hashes.size = n) (h : n <= 32) : ∃ t' order, t.relaid hashes 20 = some (t', order) /\ t'.mask = 31 /\ t'.dummies = #[] /\ t'.place.size = n /\ order.size = n /\ (∀ k ∈ order.toList, k < n) /\ t'.place.toList.Pairwise (· < ·) /\
  ∀ c, c < n -> ∃ (i j m : Nat), order[i]? = some c /\ t'.place[i]? = some j /\ m < 10 * turns t'.mask /\ (iter t' m (t'.probeStart (hashes.getD c 0))).j = j /\ ∀ m', m' < m -> t'.slot (iter t' m' (t'.probeStart (hashes.getD c 0))).j ≠ .empty := by
 obtain ⟨t', order, r1, r2, r3, r4, r5, r6⟩ := znG t hashes hn h
 refine ⟨t', order, r1, r2, r3, r4, r5, r6, ?_⟩
 have e0 : sizeAbove 20 - 1 = 31 := by decide
 unfold relaid at r1
 rw [e0] at r1
 unfold laid at r1
 cases hl : layClean 31 hashes with
 | none => rw [hl] at r1; cases r1
 | some o =>
  rw [hl] at r1
  have r1 := Option.some.inj r1
  have rt := (congrArg Prod.fst r1).symm
  have ro := (congrArg Prod.snd r1).symm
  simp only at rt ro
  have pl : t'.place = (((List.range 32).filterMap fun j => (o.getD j none).map (j, ·)).map (·.1)).toArray := by rw [rt]
  have srt : t'.place.toList.Pairwise (· < ·) := by
   rw [pl, xcj]
   exact znI _ _ List.pairwise_lt_range
  refine ⟨srt, ?_⟩
  unfold layClean at hl
  rw [<- Array.foldl_toList] at hl
  obtain ⟨⟨o', k'⟩, hl1, hl2⟩ := xcw.mp hl
  have hl2 : o' = o := hl2
  subst hl2
  have m0 : ∀ P : Nat -> Prop, P 31 -> P t'.mask := fun P hP => by rw [r2]; exact hP
  obtain ⟨os, L⟩ := ziR (t := t') (fun c => hashes.getD c 0) hashes.toList (Array.replicate 32 none) o' 0 k' (by rw [r2]; simp) (fun i hi => by
   rw [xbo, xar, xaq]
   rw [xan] at hi
   rw [xa4 hi]; rfl) (fun c hc => absurd hc (by omega)) (by rw [r2]; exact hl1)
  rw [xbo, xan, hn] at L
  have tk : ∀ j, j <= t'.mask -> (o'.getD j none).isSome = true -> t'.slot j ≠ .empty := fun j hj hs => by
   obtain ⟨b, hb⟩ := xbc.mp hs
   have := zqz (f := fun j => o'.getD j none) (l := List.range 32) (xa2.mpr (by omega)) hb
   obtain ⟨i, hi, ei⟩ := xbi this
   have : t'.place[i]? = some j := by
    rw [pl, xb2, xbl, xao hi, ei]; rfl
   rw [slot_live srt this]
   exact fun z => by cases z
  intro c hc
  obtain ⟨j, j1, j2, m, m1, m2, m3⟩ := L c hc
  have := zqz (f := fun j => o'.getD j none) (l := List.range 32) (xa2.mpr (by omega)) j2
  obtain ⟨i, hi, ei⟩ := xbi this
  refine ⟨i, j, m, ?_, ?_, m1, m2, fun m' hm => tk _ (zhQ _ _) (m3 m' hm)⟩
  ·rw [ro, xb2, xbl, xao hi, ei]; rfl
  ·rw [pl, xb2, xbl, xao hi, ei]; rfl
end SetT
namespace DL
open L2 PyProof.Rows
section
variable {prog : Program} {w : World} {A : Around} {E : Value -> Shared -> Prop} {s : Shared}
structure zko (prog : Program) (w : World) (P : Addr -> Prop) (h : Heap) (a : Addr) (o : Obj) (es : Array (Int × Value)) (ep : Nat) (t : SetTable) (kss : List (List Int)) : Prop where
 get : h.get? a = some o
 ex : o.ExactSet
 dat : o.data = .set es ep t
 dm : t.dummies = #[]
 pl : t.place.size = es.size
 msk : (t.mask = 7 /\ es.size <= 4) \/ (t.mask = 31 /\ es.size <= 18)
 srt : t.place.toList.Pairwise (· < ·)
 n : es.size = kss.length
 el : ∀ e ∈ es.toList, ∃ c ls, e.2 = .ref c /\ IsTupleKey (intKind prog w) h ls c /\ ls ∈ kss /\ P c
 all : ∀ ls ∈ kss, ∃ c j k, ((tupleKeyHash (intKind prog w) ls, Value.ref c), j) ∈ es.toList.zip t.place.toList /\ IsTupleKey (intKind prog w) h ls c /\ k < 10 * SetTable.turns t.mask /\ (SetT.iter t k (t.probeStart (tupleKeyHash (intKind prog w) ls))).j = j /\ ∀ m, m < k -> t.slot (SetT.iter t m (t.probeStart (tupleKeyHash (intKind prog w) ls))).j ≠ .empty
 pln : t.plain = true
 ld : t.led = !w.params.followText "set-order"
variable {P : Addr -> Prop} {h : Heap} {a : Addr} {o : Obj} {es : Array (Int × Value)} {ep : Nat} {t : SetTable} {kss : List (List Int)}
theorem zko.fits (S : zko prog w P h a o es ep t kss) : t.fits es.size = true := by
 unfold SetTable.fits SetTable.fill
 rw [S.pl, S.dm, xav, decide_eq_true_eq]
 refine ⟨beq_self_eq_true _, ?_⟩
 show es.size + 0 <= t.mask
 rcases S.msk with ⟨h1, h2⟩ | ⟨h1, h2⟩ <;> omega
theorem zko.odd (S : zko prog w P h a o es ep t kss) : t.gaveWay = false := by
 unfold SetTable.gaveWay
 rcases S.msk with ⟨h1, h2⟩ | ⟨h1, h2⟩ <;> rw [h1] <;> rfl
theorem zqb {ks : List Int} {b : Addr} {Q : SetFound -> Shared -> Prop} (S : zko prog w P s.heap a o es ep t kss) (hk : IsTupleKey (intKind prog w) s.heap ks b) (hu : A.units < cLine) (hh : Int) {i0 j0 : Nat} {c0 : Addr} (z1 : es[i0]? = some (hh, .ref c0)) (z2 : t.place[i0]? = some j0) (z3 : IsTupleKey (intKind prog w) s.heap ks c0) (q : Q (.there none) s) :
  ∀ (k fuel : Nat) (stand : Option SetTable.Probe), (SetT.iter t k (stand.getD (t.probeStart hh))).j = j0 -> (∀ m, m < k -> t.slot (SetT.iter t m (stand.getD (t.probeStart hh))).j ≠ .empty) -> k < 10 * SetTable.turns t.mask -> k < fuel -> wpAny (model prog w) A (setSearchFrom a (.ref b) hh true fuel stand) Q E s := by
 intro k
 induction k using Nat.strongRecOn with
 | _ k ih =>
  intro fuel stand he hb hk1 hk2
  obtain ⟨f, rfl⟩ : ∃ f, fuel = f + 1 := ⟨fuel - 1, by omega⟩
  have l0 := SetT.slot_live S.srt z2
  unfold setSearchFrom
  refine wpAny_bind (wpAny_setState_of S.get S.dat S.fits ?_)
  dsimp only
  rw [S.odd, if_neg (by decide)]
  have key2 : ∀ ha X, ha i0 = hh -> t.probe ha hh (stand.getD (t.probeStart hh)) = X -> ∃ i m, m <= k /\ X = some (.candidate (SetT.iter t m (stand.getD (t.probeStart hh))).j i (SetT.iter t (m + 1) (stand.getD (t.probeStart hh)))) /\ t.slot (SetT.iter t m (stand.getD (t.probeStart hh))).j = .live i /\ t.place[i]? = some (SetT.iter t m (stand.getD (t.probeStart hh))).j := fun ha X h0 z => by
   subst z
   exact SetT.go_there S.dm ha hh h0 k (10 * SetTable.turns t.mask) (stand.getD (t.probeStart hh)) (by rw [he]; exact l0) hb hk1
  generalize hX : t.probe _ hh (stand.getD (t.probeStart hh)) = X
  obtain ⟨i, m, hm, rfl, hl, hp⟩ := key2 _ _ (by show (Option.map (fun x => x.fst) es[i0]?).getD 0 = hh; rw [z1]; rfl) hX
  dsimp only
  have hi : i < es.size := by
   have := (xaz.mp hp).1
   rw [S.pl] at this
   exact this
  have pre : ∀ {mm : Sem SetFound}, wpAny (model prog w) A mm Q E s -> wpAny (model prog w) A (if (!t.led) = true then do
    let l <- searchCouldBeSeen (Value.ref b) (List.map (fun x => x.snd) (Array.filter (fun x => x.fst == hh) es).toList)
    if l = true then do
     unsupported "set:the-search-would-show-the-table"
     mm
    else mm
   else mm) Q E s := by
   intro mm hmm
   by_cases hled : (!t.led) = true
   ·rw [if_pos hled]
    refine wpAny_bind (zoN hk (fun v hv => ?_) ?_)
    ·obtain ⟨x, hx, rfl⟩ := xbb.mp hv
     rw [Array.toList_filter] at hx
     obtain ⟨c, ls, h1, h2, _⟩ := S.el x (xbm.mp hx).1
     exact ⟨c, ls, h1, h2⟩
    ·rw [if_neg (by decide)]
     exact hmm
   ·rw [if_neg hled]
    exact hmm
  refine pre ?_
  by_cases ei : i = i0
  ·subst ei
   rw [z1]
   dsimp only
   refine wpAny_bind (wpAny_holding (wpAny_eqBool_tuple hu z3 hk ?_))
   rw [decide_eq_true rfl]
   refine wpAny_bind (wpAny_setState_of S.get S.dat S.fits ?_)
   dsimp only
   rw [if_pos (by decide)]
   exact wpAny_pure q
  ·have hmk : m < k := by
    refine Nat.lt_of_le_of_ne hm fun z => ei ?_
    rw [z, he, l0] at hl
    cases hl; rfl
   obtain ⟨c, ls, h1, h2, h3⟩ := S.el es[i] (by rw [<- Array.getElem_toList]; exact xbx _)
   have eqn : es[i]? = some (es[i].1, Value.ref c) := by rw [xa4 hi, <- h1]
   rw [eqn]
   dsimp only
   refine wpAny_bind (wpAny_holding (wpAny_eqBool_tuple hu h2 hk ?_))
   by_cases ek : ls = ks
   ·rw [decide_eq_true ek]
    refine wpAny_bind (wpAny_setState_of S.get S.dat S.fits ?_)
    dsimp only
    rw [if_pos (by decide)]
    exact wpAny_pure q
   ·rw [decide_eq_false ek]
    refine wpAny_bind (wpAny_setState_of S.get S.dat S.fits ?_)
    dsimp only
    rw [if_neg (by decide), show t.sameMemory t.moves t.mask = some true from by unfold SetTable.sameMemory; rw [if_pos (beq_self_eq_true _)]]
    dsimp only
    rw [if_pos rfl, hl]
    dsimp only
    rw [eqn]
    dsimp only
    refine wpAny_bind (wpAny_isSame_ref_self ?_)
    refine wpAny_bind (wpAny_pure ?_)
    rw [if_pos rfl]
    dsimp only
    rw [if_neg (by decide)]
    have e3 : ∀ n, SetT.iter t (m + 1 + n) (stand.getD (t.probeStart hh)) = SetT.iter t n (SetT.iter t (m + 1) (stand.getD (t.probeStart hh))) := fun n => SetT.iter_add t (m + 1) n _
    refine ih (k - (m + 1)) (by omega) f (some _) ?_ (fun n hn => ?_) (by omega) (by omega)
    ·show (SetT.iter t (k - (m + 1)) (SetT.iter t (m + 1) (stand.getD (t.probeStart hh)))).j = j0
     rw [<- e3, show m + 1 + (k - (m + 1)) = k by omega]; exact he
    ·show t.slot (SetT.iter t n (SetT.iter t (m + 1) (stand.getD (t.probeStart hh)))).j ≠ .empty
     rw [<- e3]; exact hb _ (by omega)
theorem zmz {ks : List Int} {b : Addr} {Q : SetFound -> Shared -> Prop} (S : zko prog w P s.heap a o es ep t kss) (hk : IsTupleKey (intKind prog w) s.heap ks b) (hu : A.units < cLine) (hne : ks ∉ kss) (hh : Int) {j0 : Nat} (q : Q (.free j0 false) s) :
  ∀ (k fuel : Nat) (stand : Option SetTable.Probe), (stand.getD (t.probeStart hh)).dummy = none -> (SetT.iter t k (stand.getD (t.probeStart hh))).j = j0 -> t.slot j0 = .empty -> (∀ m, m < k -> t.slot (SetT.iter t m (stand.getD (t.probeStart hh))).j ≠ .empty) -> k < 10 * SetTable.turns t.mask -> k < fuel -> wpAny (model prog w) A (setSearchFrom a (.ref b) hh true fuel stand) Q E s := by
 intro k
 induction k using Nat.strongRecOn with
 | _ k ih =>
  intro fuel stand hd hj he hb hk1 hk2
  obtain ⟨f, rfl⟩ : ∃ f, fuel = f + 1 := ⟨fuel - 1, by omega⟩
  unfold setSearchFrom
  refine wpAny_bind (wpAny_setState_of S.get S.dat S.fits ?_)
  dsimp only
  rw [S.odd, if_neg (by decide)]
  have key2 : ∀ ha X, t.probe ha hh (stand.getD (t.probeStart hh)) = X -> X = some (.empty j0 none) \/ ∃ j i m, m < k /\ X = some (.candidate j i (SetT.iter t (m + 1) (stand.getD (t.probeStart hh)))) /\ t.slot j = .live i /\ t.place[i]? = some j := fun ha X z => by
   subst z
   have := SetT.go_ok2 S.dm ha hh k (10 * SetTable.turns t.mask) (stand.getD (t.probeStart hh)) hd (by rw [hj]; exact he) hb hk1
   rw [hj] at this
   exact this
  generalize hX : t.probe _ hh (stand.getD (t.probeStart hh)) = X
  rcases key2 _ _ hX with rfl | ⟨j, i, m, hm, rfl, hl, hp⟩
  ·exact wpAny_pure q
  ·dsimp only
   have hi : i < es.size := by
    have := (xaz.mp hp).1
    rw [S.pl] at this
    exact this
   have pre : ∀ {mm : Sem SetFound}, wpAny (model prog w) A mm Q E s -> wpAny (model prog w) A (if (!t.led) = true then do
     let l <- searchCouldBeSeen (Value.ref b) (List.map (fun x => x.snd) (Array.filter (fun x => x.fst == hh) es).toList)
     if l = true then do
      unsupported "set:the-search-would-show-the-table"
      mm
     else mm
    else mm) Q E s := by
    intro mm hmm
    by_cases hled : (!t.led) = true
    ·rw [if_pos hled]
     refine wpAny_bind (zoN hk (fun v hv => ?_) ?_)
     ·obtain ⟨x, hx, rfl⟩ := xbb.mp hv
      rw [Array.toList_filter] at hx
      obtain ⟨c, ls, h1, h2, _⟩ := S.el x (xbm.mp hx).1
      exact ⟨c, ls, h1, h2⟩
     ·rw [if_neg (by decide)]
      exact hmm
    ·rw [if_neg hled]
     exact hmm
   refine pre ?_
   obtain ⟨c, ls, h1, h2, h3⟩ := S.el es[i] (by rw [<- Array.getElem_toList]; exact xbx _)
   have eqn : es[i]? = some (es[i].1, Value.ref c) := by rw [xa4 hi, <- h1]
   rw [eqn]
   dsimp only
   refine wpAny_bind (wpAny_holding (wpAny_eqBool_tuple hu h2 hk ?_))
   rw [decide_eq_false (fun z : ls = ks => hne (z ▸ h3.1))]
   refine wpAny_bind (wpAny_setState_of S.get S.dat S.fits ?_)
   dsimp only
   rw [if_neg (by decide), show t.sameMemory t.moves t.mask = some true from by unfold SetTable.sameMemory; rw [if_pos (beq_self_eq_true _)]]
   dsimp only
   rw [if_pos rfl, hl]
   dsimp only
   rw [eqn]
   dsimp only
   refine wpAny_bind (wpAny_isSame_ref_self ?_)
   refine wpAny_bind (wpAny_pure ?_)
   rw [if_pos rfl]
   dsimp only
   rw [if_neg (by decide)]
   have e3 : ∀ n, SetT.iter t (m + 1 + n) (stand.getD (t.probeStart hh)) = SetT.iter t n (SetT.iter t (m + 1) (stand.getD (t.probeStart hh))) := fun n => SetT.iter_add t (m + 1) n _
   refine ih (k - (m + 1)) (by omega) f (some _) (zhv _ _ hd) ?_ he (fun n hn => ?_) (by omega) (by omega)
   ·show (SetT.iter t (k - (m + 1)) (SetT.iter t (m + 1) (stand.getD (t.probeStart hh)))).j = j0
    rw [<- e3, show m + 1 + (k - (m + 1)) = k by omega]; exact hj
   ·show t.slot (SetT.iter t n (SetT.iter t (m + 1) (stand.getD (t.probeStart hh)))).j ≠ .empty
    rw [<- e3]; exact hb _ (by omega)
theorem zuO {ks : List Int} {b : Addr} {Q : Bool -> Shared -> Prop} (S : zko prog w P s.heap a o es ep t kss) (hk : IsTupleKey (intKind prog w) s.heap ks b) (hu : A.units < cLine) (hks : ks ∈ kss)
  (q : ∀ tk, Q false { s with toks := tk }) : wpAny (model prog w) A (setAdd a (.ref b)) Q E s := by
 unfold setAdd
 refine wpAny_holding (wpAny_bind (wpAny_pyHash_tuple hu hk ?_))
 obtain ⟨c0, j0, k, z1, z2, z3, z4, z5⟩ := S.all ks hks
 generalize tupleKeyHash (intKind prog w) ks = hh at z1 z4 z5
 unfold setAddHashed setAddHashedIn
 refine wpAny_holding (wpAny_bind (wpAny_setState_of S.get S.dat S.fits ?_))
 dsimp only
 rw [show byScan (.ref b) es = false from rfl, if_neg (by decide)]
 unfold setSearch
 obtain ⟨i0, hi, e⟩ := xbi z1
 have hi1 : i0 < es.toList.length := by rw [xc6] at hi; omega
 have hi2 : i0 < t.place.toList.length := by rw [xc6] at hi; omega
 rw [List.getElem_zip] at e
 have e1 : es[i0]? = some (hh, .ref c0) := by rw [<- xaq, xao hi1]; exact congrArg some (congrArg Prod.fst e)
 have e2 : t.place[i0]? = some j0 := by rw [<- xaq, xao hi2]; exact congrArg some (congrArg Prod.snd e)
 refine wpAny_bind (zqb (s := { s with toks := s.toks + (ks.length + 1) }) S hk hu hh e1 e2 z2 ?_ k 100000 none z4 z5 z3 (by
  have : 10 * SetTable.turns t.mask <= 460 := by unfold SetTable.turns; rcases S.msk with ⟨h1, h2⟩ | ⟨h1, h2⟩ <;> omega
  omega))
 dsimp only
 exact wpAny_pure (q _)
theorem zuP {ks : List Int} {b : Addr} {Q : Bool -> Shared -> Prop} (S : zko prog w P s.heap a o es ep t kss) (hk : IsTupleKey (intKind prog w) s.heap ks b) (hu : A.units < cLine) (hne : ks ∉ kss) (hsz : kss.length <= 17) (hP : P b)
  (q : ∀ h' o' es' ep' t' tk, Heap.SameBut a s.heap h' -> zko prog w P h' a o' es' ep' t' (ks :: kss) -> Q true { s with heap := h', toks := tk }) : wpAny (model prog w) A (setAdd a (.ref b)) Q E s := by
 unfold setAdd
 refine wpAny_holding (wpAny_bind (wpAny_pyHash_tuple hu hk ?_))
 obtain ⟨hh, hhe⟩ : ∃ hh, tupleKeyHash (intKind prog w) ks = hh := ⟨_, rfl⟩
 rw [hhe]
 unfold setAddHashed setAddHashedIn
 refine wpAny_holding (wpAny_bind (wpAny_setState_of S.get S.dat S.fits ?_))
 dsimp only
 rw [show byScan (.ref b) es = false from rfl, if_neg (by decide)]
 unfold setSearch
 obtain ⟨k', k1', k2'⟩ := SetT.meets_empty S.dm (S.msk.elim (fun h => .inl h.1) fun h => .inr h.1) (by rw [S.pl]; rcases S.msk with ⟨h1, h2⟩ | ⟨h1, h2⟩ <;> omega) hh
 obtain ⟨k, kk, k2, k3⟩ := SetT.first_empty (t.probeStart hh) k2'
 have k1 : k < 10 * SetTable.turns t.mask := by omega
 obtain ⟨j, hj⟩ : ∃ j, (SetT.iter t k (t.probeStart hh)).j = j := ⟨_, rfl⟩
 rw [hj] at k2
 refine wpAny_bind (zmz (s := { s with toks := s.toks + (ks.length + 1) }) (j0 := j) S hk hu hne hh ?_ k 100000 none rfl hj k2 k3 k1 (by
  have : 10 * SetTable.turns t.mask <= 460 := by unfold SetTable.turns; rcases S.msk with ⟨h1, h2⟩ | ⟨h1, h2⟩ <;> omega
  omega))
 dsimp only
 have p1 : (t.put j).1.mask = t.mask := rfl
 have p2 : (t.put j).1.dummies = #[] := by
  show (if SetTable.has t.dummies j then SetTable.eraseAt t.dummies (SetTable.below t.dummies j) else t.dummies) = #[]
  rw [S.dm, SetT.no_has]
  rfl
 have p3 : (t.put j).1.place.size = es.size + 1 := by
  show (SetTable.insertAt t.place _ j).size = _
  rw [zeT, S.pl]
 have nj : ∀ i : Nat, t.place[i]? ≠ some j := fun i e => by
  have := SetT.slot_live S.srt e
  rw [k2] at this; cases this
 have p4 : (t.put j).1.place.toList.Pairwise (· < ·) := SetT.put_srt S.srt nj
 have bl := (SetT.below_ok j S.srt).1
 have p5 : ∀ z, z ∈ (SetTable.insertAt es (t.put j).snd (hh, Value.ref b)).toList.zip (t.put j).1.place.toList ↔ z = ((hh, Value.ref b), j) \/ z ∈ es.toList.zip t.place.toList := fun z => SetT.zip_put (as := es) (bs := t.place) (p := SetTable.below t.place j) S.pl.symm (by rw [<- S.pl]; exact bl)
 have fin : wpAny (model prog w) A (do
   storeSet a (SetTable.insertAt es (t.put j).snd (hh, Value.ref b)) (t.put j).fst
   if (!false && (t.put j).fst.tooFull) = true then do
    setRelay a (SetTable.grown (es.size + 1))
    pure true
   else pure true) Q E { s with toks := s.toks + (ks.length + 1) } := by
  have p6 : (t.put j).fst.plain = true /\ (t.put j).fst.led = !w.params.followText "set-order" := ⟨S.pln, S.ld⟩
  generalize (t.put j).fst = t1 at p1 p2 p3 p4 p5 p6
  have zz := zeT es (t.put j).snd (hh, Value.ref b)
  have mm := fun y hy => zju (xs := es) (p := (t.put j).snd) (x := (hh, Value.ref b)) (y := y) hy
  generalize SetTable.insertAt es (t.put j).snd (hh, Value.ref b) = es1 at zz mm p5
  have hn := S.n
  have h18 : es.size <= 17 := by omega
  refine wpAny_bind (wpAny_storeSet_of S.get S.dat ?_ (xba (show es1.size <= 1000 by omega) (by decide)))
  have g1 := zjt (es' := es1) (t' := t1) S.get S.dat
  have sb1 : Heap.SameBut a s.heap (s.heap.update a (Obj.putSet es1 t1)) := Heap.SameBut.update _ a _
  generalize s.heap.update a (Obj.putSet es1 t1) = h1 at g1 sb1
  have el1 : ∀ e ∈ es1.toList, ∃ c ls, e.2 = .ref c /\ IsTupleKey (intKind prog w) h1 ls c /\ ls ∈ ks :: kss /\ P c := by
   intro e he
   rcases mm e he with rfl | he
   ·exact ⟨b, ks, rfl, zeJ sb1 S.get S.dat hk, xae, hP⟩
   ·obtain ⟨c, ls, e1, e2, e3⟩ := S.el e he
    exact ⟨c, ls, e1, zeJ sb1 S.get S.dat e2, xab _ e3.1, e3.2⟩
  have fill1 : t1.fill = es.size + 1 := by
   unfold SetTable.fill
   rw [p2, p3]; rfl
  have full : t1.tooFull = decide ((es.size + 1) * 5 ≥ t.mask * 3) := by
   unfold SetTable.tooFull
   rw [fill1, p1]
  have taken : ∀ jj, t.slot jj ≠ .empty -> t1.slot jj ≠ .empty := fun jj hx => by
   rcases SetT.slot_cases S.dm jj with e | ⟨i, e, hi⟩
   ·exact absurd e hx
   ·have hm : jj ∈ t1.place.toList := by
     have hi1 : i < t.place.toList.length := by have := (xaz.mp hi).1; simpa using this
     have hi2 : i < es.toList.length := by have := S.pl; simp at hi1 ⊢; omega
     have : (es.toList[i], t.place.toList[i]) ∈ es.toList.zip t.place.toList := by
      rw [<- List.getElem_zip (h := by rw [xc6]; omega)]; exact xbx _
     have := (p5 _).mpr (.inr this)
     have := (xck this).2
     rw [<- xaq, xao hi1] at hi
     rw [Option.some.inj hi] at this
     exact this
    obtain ⟨i', hi', e'⟩ := xbi hm
    rw [SetT.slot_live p4 (i := i') (j := jj) (by rw [<- xaq, xao hi', e'])]
    exact fun z => by cases z
  have zqG : ∀ ls ∈ ks :: kss, ∃ c j k, ((tupleKeyHash (intKind prog w) ls, Value.ref c), j) ∈ es1.toList.zip t1.place.toList /\ IsTupleKey (intKind prog w) h1 ls c /\ k < 10 * SetTable.turns t1.mask /\ (SetT.iter t1 k (t1.probeStart (tupleKeyHash (intKind prog w) ls))).j = j /\ ∀ m, m < k -> t1.slot (SetT.iter t1 m (t1.probeStart (tupleKeyHash (intKind prog w) ls))).j ≠ .empty := by
   intro ls hls
   rcases xaf.mp hls with rfl | hls
   ·refine ⟨b, j, k, (p5 _).mpr (.inl (by rw [hhe])), zeJ sb1 S.get S.dat hk, by rw [p1]; exact k1, ?_, fun m hm => ?_⟩
    ·rw [SetT.iter_mask p1, SetT.start_mask p1, hhe]; exact hj
    ·rw [SetT.iter_mask p1, SetT.start_mask p1, hhe]; exact taken _ (k3 m hm)
   ·obtain ⟨c, j', k', y1, y2, y3, y4, y5⟩ := S.all ls hls
    refine ⟨c, j', k', (p5 _).mpr (.inr y1), zeJ sb1 S.get S.dat y2, by rw [p1]; exact y3, ?_, fun m hm => ?_⟩
    ·rw [SetT.iter_mask p1, SetT.start_mask p1]; exact y4
    ·rw [SetT.iter_mask p1, SetT.start_mask p1]; exact taken _ (y5 m hm)
  by_cases hf : (es.size + 1) * 5 ≥ t.mask * 3
  ·have h7 : t.mask = 7 /\ es.size = 4 := by rcases S.msk with ⟨x1, x2⟩ | ⟨x1, x2⟩ <;> omega
   rw [full, decide_eq_true hf, if_pos (by decide), h7.2]
   have gr : SetTable.grown (4 + 1) = 20 := by decide
   rw [gr]
   unfold setRelay
   refine wpAny_bind (wpAny_bind (wpAny_setState_of g1 rfl ?_ ?_))
   ·unfold SetTable.fits
    rw [fill1, p1, p3, zz, xav, decide_eq_true_eq]
    exact ⟨beq_self_eq_true _, by omega⟩
   ·dsimp only
    obtain ⟨t2, order, r1, r2, r3, r4, r5, r6, r7, r8⟩ := SetT.relaid_found t1 (Array.map (fun x => x.fst) es1) (n := 5) (by rw [Array.size_map]; omega) (by decide)
    have some2 : ∀ k ∈ order.toList, (es1[k]?).isSome = true := fun k hk => by
     have := r6 k hk
     rw [xa4 (by omega)]; rfl
    have z2 : (order.filterMap (es1[·]?)).size = 5 := by
     rw [<- xan, xcx, SetT.fm_all _ _ some2, xan, r5]
    have i2 : ∀ i : Nat, (order.filterMap (es1[·]?)).toList[i]? = (order.toList[i]?).bind (es1[·]?) := fun i => by
     rw [xcx]; exact SetT.fm_get _ _ some2 i
    have m2 : ∀ e ∈ (order.filterMap (es1[·]?)).toList, e ∈ es1.toList := by
     intro e he
     rw [xcx] at he
     obtain ⟨k, _, hk⟩ := xbp.mp he
     rw [<- xaq] at hk
     exact xbf hk
    rw [if_neg (by decide), r1]
    refine wpAny_bind (wpAny_of_eq (a := (order.filterMap (es1[·]?), t2)) ?_ ?_)
    ·show (if ((order.filterMap (es1[·]?)).size != es1.size) = true then _ else _) = _
     rw [if_neg (by rw [z2, zz, h7.2]; decide)]
    ·generalize order.filterMap (es1[·]?) = es2 at z2 m2 i2
     refine wpAny_storeSet_of g1 rfl ?_ (xba (show es2.size <= 1000 by omega) (by decide))
     have g2 := zjt (es' := es2) (t' := t2) g1 rfl
     have sb2 : Heap.SameBut a h1 (h1.update a (Obj.putSet es2 t2)) := Heap.SameBut.update _ a _
     generalize h1.update a (Obj.putSet es2 t2) = h2 at g2 sb2
     refine wpAny_pure (q h2 _ es2 (ep + 1 + 1) t2 _ (sb1.trans sb2) ⟨g2, S.ex, rfl, r3, by rw [r4, z2], .inr ⟨r2, by omega⟩, r7, by rw [z2, xap, <- hn, h7.2], fun e he => ?_, fun ls hls => ?_, by rw [(SetT.relaid_flags r1).1]; exact p6.1, by rw [(SetT.relaid_flags r1).2]; exact p6.2⟩)
     ·obtain ⟨c, ls, e1, e2, e3⟩ := el1 e (m2 e he)
      exact ⟨c, ls, e1, zeJ sb2 g1 rfl e2, e3⟩
     ·obtain ⟨c, j1, _, y1, y2, _⟩ := zqG ls hls
      obtain ⟨i0, hi, e⟩ := xbi y1
      have hi1 : i0 < es1.toList.length := by rw [xc6] at hi; omega
      rw [List.getElem_zip] at e
      have e1 : es1[i0]? = some (tupleKeyHash (intKind prog w) ls, .ref c) := by rw [<- xaq, xao hi1]; exact congrArg some (congrArg Prod.fst e)
      have eh : (Array.map (fun x => x.fst) es1).getD i0 0 = tupleKeyHash (intKind prog w) ls := by
       rw [xar, Array.getElem?_map, e1]; rfl
      obtain ⟨i, j2, m, o1, o2, o3, o4, o5⟩ := r8 i0 (by rw [xan, zz, h7.2] at hi1; omega)
      rw [eh] at o4 o5
      refine ⟨c, j2, m, ?_, zeJ sb2 g1 rfl y2, o3, o4, o5⟩
      have f1 : es2.toList[i]? = some (tupleKeyHash (intKind prog w) ls, .ref c) := by
       rw [i2, xaq, o1]; exact e1
      have f2 : t2.place.toList[i]? = some j2 := by rw [xaq]; exact o2
      refine xbf (i := i) ?_
      rw [List.getElem?_zip_eq_some]
      exact ⟨f1, f2⟩
  ·rw [full, decide_eq_false hf, if_neg (by decide)]
   refine wpAny_pure (q h1 _ es1 (ep + 1) t1 _ sb1 ⟨g1, S.ex, rfl, p2, by rw [p3, zz], ?_, p4, by rw [zz, hn, xap], el1, zqG, p6.1, p6.2⟩)
   rw [p1, zz]
   rcases S.msk with ⟨x1, x2⟩ | ⟨x1, x2⟩
   ·exact .inl ⟨x1, by omega⟩
   ·exact .inr ⟨x1, by omega⟩
 refine wpAny_bind (wpAny_setState_of (s := { s with toks := s.toks + (ks.length + 1) }) S.get S.dat S.fits ?_)
 dsimp only
 by_cases hpl : (t.put j).fst.plain = true
 ·rw [if_pos hpl]
  refine wpAny_bind (zsG (s := { s with toks := s.toks + (ks.length + 1) }) hk ?_)
  exact fin
 ·rw [if_neg hpl]
  refine wpAny_bind (wpAny_pure ?_)
  exact fin
end
end DL
namespace DL
open L2 PyProof.Rows
section
variable {prog : Program} {w : World} {P : Addr -> Prop} {A : Around} {h h' : Heap} {it l z : Addr} {items : Array Value}
theorem zko.move (kp : ∀ b u, b ∉ [it] -> h.get? b = some u -> h'.get? b = some u) {i : Nat} (hi : h.IsListIter it l i) (hz : z ≠ it) {o : Obj} {es : Array (Int × Value)} {ep : Nat} {t : SetTable} {kss : List (List Int)} (S : zko prog w P h z o es ep t kss) : zko prog w P h' z o es ep t kss :=
 ⟨kp z _ (by simpa using hz) S.get, S.ex, S.dat, S.dm, S.pl, S.msk, S.srt, S.n, fun e he => by
  obtain ⟨c, ls, e1, e2, e3⟩ := S.el e he
  exact ⟨c, ls, e1, zgv kp hi e2, e3⟩, fun ls hls => by
  obtain ⟨c, j, k, e1, e2, e3⟩ := S.all ls hls
  exact ⟨c, j, k, e1, zgv kp hi e2, e3⟩, S.pln, S.ld⟩
def zj3 (kss : List (List Int)) (ks : List Int) : List (List Int) := if ks ∈ kss then kss else ks :: kss
def zg0 (keys : Nat -> List Int) : Nat -> List (List Int)
 | 0 => []
 | i + 1 => zj3 (zg0 keys i) (keys i)
theorem zsK (kss : List (List Int)) (ks : List Int) : kss.length <= (zj3 kss ks).length := by unfold zj3; split <;> simp
theorem zoR (keys : Nat -> List Int) : ∀ (n i : Nat), i <= n -> (zg0 keys i).length <= (zg0 keys n).length
 | 0, i, h => by rw [show i = 0 by omega]; exact xaj _
 | n + 1, i, h => by
  by_cases e : i = n + 1
  ·rw [e]; exact xaj _
  ·exact xba (zoR keys n i (by omega)) (zsK _ _)
def zuQ (prog : Program) (w : World) (P : Addr -> Prop) (h : Heap) (z : Addr) (keys : Nat -> List Int) (i : Nat) : Prop := ∃ o es ep t, zko prog w P h z o es ep t (zg0 keys i)
theorem zoS {R : Result -> Shared -> Prop} (hh : A.handled = none) (hl : l ≠ it) (hz1 : z ≠ it) (hz2 : z ≠ l) (hu : A.units + 1 < cLine) (keys : Nat -> List Int) (h4 : (zg0 keys items.size).length <= 18) :
  ∀ (k i : Nat) (s : Shared), items.size - i = k -> i <= items.size -> (s.heap.IsListIter it l i /\ s.heap.IsList l items) -> zuQ prog w P s.heap z keys i -> (∀ j, j < items.size -> ∃ b, items[j]? = some (.ref b) /\ IsTupleKey (intKind prog w) s.heap (keys j) b /\ P b) ->
   (∀ h2 tk, (∀ b u, b ≠ z -> b ≠ it -> s.heap.get? b = some u -> h2.get? b = some u) -> zuQ prog w P h2 z keys items.size -> R (.ok (.ret .none)) { s with heap := h2, toks := tk }) ->
   codeAny (model prog w) A (.builtin "set.update.loop" ⟨[.ref z, .ref it], []⟩) R s := by
 have W := Walks.list (prog := prog) (w := w) (A := A.in1) (by rw [Around.in1_handled]; exact hh) it l hl items
 intro k
 induction k with
 | zero =>
  intro i s hk hi st ⟨o, es, ep, t, S⟩ ht fin
  obtain rfl : i = items.size := by omega
  refine codeAny_builtin PyProof.Rows.F.entry_set_update_loop ?_
  rw [Around.under_plainId PyProof.Rows.F.plain_set_update_loop _]
  show wpAny _ A.in1 (pyNext (.ref it) >>= _) _ _ _
  refine wpAny_bind (W.done s _ _ st fun h2 tk kp => ?_)
  show wpAny _ A.in1 (ret Value.none) _ _ _
  exact wpAny_pure (fin h2 tk (fun b u _ b2 e => kp b u (by simpa using b2) e) ⟨o, es, ep, t, S.move kp st.1 hz1⟩)
 | succ k ih =>
  intro i s hk hi st ⟨o, es, ep, t, S⟩ ht fin
  have hlt : i < items.size := by omega
  refine codeAny_builtin PyProof.Rows.F.entry_set_update_loop ?_
  rw [Around.under_plainId PyProof.Rows.F.plain_set_update_loop _]
  show wpAny _ A.in1 (pyNext (.ref it) >>= _) _ _ _
  refine wpAny_bind (W.item i s _ _ hlt st fun v h1 tk hv st1 kp => ?_)
  obtain ⟨b, e1, e2, eP⟩ := ht i hlt
  rw [hv] at e1
  cases e1
  have S1 := S.move (prog := prog) (w := w) kp st.1 hz1
  have ht1 : ∀ j, j < items.size -> ∃ b, items[j]? = some (.ref b) /\ IsTupleKey (intKind prog w) h1 (keys j) b /\ P b := fun j hj => by
   obtain ⟨c, c1, c2, c3⟩ := ht j hj
   exact ⟨c, c1, zgv kp st.1 c2, c3⟩
  show wpAny _ A.in1 (holding [Value.ref b] (setAdd z (.ref b)) >>= _) _ _ _
  have gz : z ∉ [it, l] := by
   rw [xaf, xbr]
   rintro (q | q)
   ·exact hz1 q
   ·exact hz2 q
  by_cases hin : keys i ∈ zg0 keys i
  ·refine wpAny_bind (wpAny_holding (zuO (s := { s with heap := h1, toks := tk }) S1 (zgv kp st.1 e2) (by rw [Around.in1_units]; exact hu) hin fun tk2 => ?_))
   refine wpAny_pure ⟨plainId_quiet PyProof.Rows.F.plain_set_update_loop _, ih (i + 1) _ (by omega) hlt ?_ ⟨o, es, ep, t, ?_⟩ (fun j hj => ht1 j hj) fun h3 tk3 kp3 S3 => ?_⟩
   ·exact W.frame _ h1 h1 st1 fun b hb u e => e
   ·show zko prog w P _ z o es ep t (zj3 (zg0 keys i) (keys i))
    unfold zj3
    rw [if_pos hin]
    exact S1
   ·exact fin h3 tk3 (fun b u b1 b2 e => kp3 b u b1 b2 (kp b u (by simpa using b2) e)) S3
  ·have l3 : (zg0 keys i).length <= 17 := by
    have := zoR keys items.size (i + 1) hlt
    have e : (zg0 keys (i + 1)).length = (zg0 keys i).length + 1 := by
     show (zj3 (zg0 keys i) (keys i)).length = _
     unfold zj3
     rw [if_neg hin]; rfl
    omega
   refine wpAny_bind (wpAny_holding (zuP (s := { s with heap := h1, toks := tk }) S1 (zgv kp st.1 e2) (by rw [Around.in1_units]; exact hu) hin l3 eP fun h2 o2 es2 ep2 t2 tk2 sb S2 => ?_))
   refine wpAny_pure ⟨plainId_quiet PyProof.Rows.F.plain_set_update_loop _, ih (i + 1) _ (by omega) hlt ?_ ⟨o2, es2, ep2, t2, ?_⟩ (fun j hj => ?_) fun h3 tk3 kp3 S3 => ?_⟩
   ·exact W.frame _ h1 h2 st1 fun b hb u e => (sb.2 b fun q => gz (q ▸ hb)).trans e
   ·show zko prog w P _ z o2 es2 ep2 t2 (zj3 (zg0 keys i) (keys i))
    unfold zj3
    rw [if_neg hin]
    exact S2
   ·obtain ⟨c, c1, c2, c3⟩ := ht1 j hj
    exact ⟨c, c1, zeJ sb S1.get S1.dat c2, c3⟩
   ·exact fin h3 tk3 (fun b u b1 b2 e => kp3 b u b1 b2 ((sb.2 b b1).trans (kp b u (by simpa using b2) e))) S3
theorem zqc {keys : Nat -> List Int} (g : h.get? z = some (zdr (!w.params.followText "set-order"))) : zuQ prog w P h z keys 0 :=
 ⟨_, #[], 0, .fresh 0 0 (!w.params.followText "set-order"), g, ⟨rfl, rfl, rfl⟩, rfl, rfl, rfl, .inl ⟨rfl, by decide⟩, List.Pairwise.nil, rfl, (fun e he => by cases he), (fun ls hls => by cases hls), rfl, rfl⟩
theorem zfS {E : Value -> Shared -> Prop} {s : Shared} (a : Value) {Q₁ : Value -> Shared -> Prop}
  (h : Q₁ (.ref s.heap.objs.size) { s with heap := s.heap.push (zdr (!w.params.followText "set-order")) }) :
  codeAny (model prog w) A (.call (.builtin "set.__new__") ⟨[.type "set", a], []⟩) (wants Q₁ E) s := by
 refine codeAny_of_tree ?_
 show wpAny _ A.in1 (do checkBuiltinCall "set.__new__" ⟨[.type "set", a], []⟩; again (.builtin "set.__new__" ⟨[.type "set", a], []⟩)) _ _ s
 refine wpAny_bind (wpAny_of_eq (F.newCall_set_1 a) (wpAny_pure ⟨plainId_quiet F.plain_set_new _, codeAny_builtin F.entry_set_new ?_⟩))
 rw [Around.under_plainId F.plain_set_new _]
 unfold Builtin.«set.__new__» Builtin.Frozenset.newClass
 have hsub := sub_set_self
 obtain ⟨hp, g, d, tk, os⟩ := s
 dsimp only
 wp_walk
 refine wpAny_askSetting (wpAny_pure ?_)
 dsimp only
 wp_walk
 exact h
set_option maxHeartbeats 3200000 in
theorem zjw {E : Value -> Shared -> Prop} {s : Shared} {Q : Value -> Shared -> Prop} (hh : A.handled = none) (hl : s.heap.IsList l items) (hu : A.units + 3 < cLine) (keys : Nat -> List Int) (h4 : (zg0 keys items.size).length <= 18)
  (ht : ∀ j, j < items.size -> ∃ b, items[j]? = some (.ref b) /\ IsTupleKey (intKind prog w) s.heap (keys j) b /\ P b)
  (q : ∀ h2 tk, zuQ prog w P h2 s.heap.objs.size keys items.size -> (∀ b u, s.heap.get? b = some u -> h2.get? b = some u) -> Q (.ref s.heap.objs.size) { s with heap := h2, toks := tk }) : wpAny (model prog w) A (call (.type "set") [.ref l]) Q E s := by
 obtain ⟨mr1, mr2, mr3⟩ := PySem.F.called_set.mro
 have ma := PySem.F.called_set.made
 have su := PySem.F.called_set.sub
 have no := PySem.F.called_set.notType
 have cc := PySem.F.called_set.canCreate
 have ct := PySem.F.typeCall_set_1 (.ref l)
 refine wpAny_call (codeAny_of_tree ?_)
 show wpAny _ _ (callAny (.type "set") _) _ _ _
 refine wpAny_pure ⟨Code.quiet_builtin _ (by decide +kernel), codeAny_builtin F.entry_type_call ?_⟩
 rw [Around.under_plain (weight_type_call_type "set" [.ref l] []) rfl]
 repeat (any_goals (first | assumption | wp_step))
 refine codeAny_mono (zfS (.ref l) (E := E) (Q₁ := fun ob s1 => ∃ led : Bool, led = (!w.params.followText "set-order") /\ ob = .ref s.heap.objs.size /\ s1 = { s with heap := s.heap.push (zdr led) }) ⟨_, rfl, rfl, rfl⟩) fun r s1 hr => ?_
 cases r with
 | error e => exact hr
 | ok fl =>
  cases fl with
  | ret ob =>
   obtain ⟨led, hled, rfl, rfl⟩ := hr
   have gS : (s.heap.push (zdr led)).get? s.heap.objs.size = some (zdr led) := xau _ rfl
   have tS : Shared.TypeIs { s with heap := s.heap.push (zdr led) } (.ref s.heap.objs.size) "set" := ⟨_, gS, rfl⟩
   have il := PySem.F.called_set.init.lookup
   have ib := PySem.F.called_set.init.bind (.ref s.heap.objs.size)
   repeat (any_goals (first | assumption | wp_step))
   refine codeAny_mono (codeAny_call_builtin (R := wants (fun r s2 => r = .none /\ ∃ h2 tk, s2 = { s with heap := h2, toks := tk } /\ zuQ prog w P h2 s.heap.objs.size keys items.size /\ (∀ b u, s.heap.get? b = some u -> h2.get? b = some u)) E) PySem.F.called_set.init.plain PySem.F.entry_set_init (check_set_init_1 tS ?_)) fun r2 s2 hr2 => ?_
   ·obtain ⟨⟨c1, c2, c3, c4⟩, gl, cl, nl, dl⟩ := hl
    simp only at cl dl
    subst cl dl
    have gl1 : (s.heap.push (zdr led)).get? l = some { cls := .type "list", dict := c2, data := .seq items nl, slots := c4 } := xaa _ gl
    have ls := PySem.F.sub_list_set
    have lf := PySem.F.sub_list_frozenset
    have nd : (Value.type "list" == Value.type "dict") = false := by decide
    have il1 : (s.heap.push (zdr led)).IsList l items := ⟨_, gl1, rfl, nl, rfl⟩
    unfold Builtin.«set.__init__» noKeywords Builtin.Frozenset.updateFrom
    generalize hPI : pyIter = PI
    wp_walk
    subst hPI
    refine wpAny_pyIter_list il1 ?_
    refine wpAny_bind (wpAny_runValue ?_)
    have lS : l < s.heap.objs.size := xai gl
    refine zoS (P := P) (A := A.in1.in1) (it := (s.heap.push (zdr led)).objs.size) (l := l) (z := s.heap.objs.size) (items := items) hh ?_ ?_ ?_ hu keys h4 items.size 0 _ (by omega) (xbt _) ⟨⟨_, xau _ rfl, rfl, rfl⟩, il1.push _⟩ (zqc (by rw [<- hled]; exact xaa _ gS)) ?_ ?_
    ·rw [xc8]; exact xa0 (Nat.lt_succ_of_lt lS)
    ·rw [xc8]; exact xa0 (xc0 _)
    ·exact xc4 lS
    ·intro j hj
     obtain ⟨b, b1, b2, b3⟩ := ht j hj
     obtain ⟨ob, its, m, g1, g2, g3, g4⟩ := b2
     exact ⟨b, b1, ⟨ob, its, m, xaa _ (xaa _ g1), g2, g3, g4⟩, b3⟩
    ·intro h2 tk kp S2
     show wpAny _ _ _ _ _ _
     refine wpAny_pure ?_
     show wpAny _ _ (ret Value.none) _ _ _
     refine wpAny_pure ⟨rfl, h2, tk, rfl, S2, fun b u e => ?_⟩
     have lb := xai e
     refine kp b u (xa0 lb) ?_ (xaa _ (xaa _ e))
     rw [xc8]; exact xa0 (Nat.lt_succ_of_lt lb)
   ·cases r2 with
    | error e => exact hr2
    | ok fl2 =>
     cases fl2 with
     | ret r =>
      obtain ⟨rfl, h2, tk, rfl, S2, k2⟩ := hr2
      repeat (any_goals (first | assumption | wp_step))
      exact q _ _ S2 k2
     | _ => exact hr2.elim
  | _ => exact hr.elim
end
end DL
namespace DL
open L2 PyProof.Rows
section
variable {X : Cx} {E : XK}
def zci (kss : List (List Int)) : List (List Int) := zg0 (fun j => kss.getD j []) kss.length
def zwr (K : xFg) : List V -> Hp -> VK -> Prop := fun xs H Q => ∃ (p : Addr) (ys : List V) (kss : List (List Int)), xs = [.ref p] /\ SqL K H p ys /\ zbt K H ys kss /\ (zci kss).length <= 18 /\ ∀ a, H a = none -> Q (.ref a) (upd H a (.ext (zvi a (zci kss).length)))
theorem zoT {k : Nat} (hc : X.calm = true) (r : zfP k X.A) : zdd X (.type "set") (zwr X.K) := by
 intro pins s Z H xs us Q I rs h
 obtain ⟨p, ys, kss, rfl, hq, ht, h4, q⟩ := h
 obtain ⟨u, rfl, rx⟩ := zhF rs
 cases rx
 obtain ⟨its, rv, pl, hz⟩ := I.list hq
 have hlen : its.length = kss.length := by rw [<- rv.length, ht.length]
 have hsz : its.toArray.size = kss.length := by rw [xag, hlen]
 refine zjw (P := fun _ => True) (I.ok.hd hc) pl.isList (by have := r.un; omega) (fun j => kss.getD j []) (by rw [hsz]; exact h4) (fun j hj => ?_) fun h2 tk S2 kp => ?_
 ·rw [xag] at hj
  obtain ⟨b, b1, b2⟩ := zkn I ht rv j hj
  exact ⟨b, by rw [xb2]; exact b1, b2, trivial⟩
 ·obtain ⟨o, es, ep, t, S⟩ := S2
  have hn : es.size = (zci kss).length := by rw [S.n, hsz]; rfl
  refine ⟨.ref s.heap.objs.size, _, I.laid (t' := tk) (h' := h2) kp (xaj _) (show zdc X.prog X.w _ h2 _ (.ext (zvi s.heap.objs.size (zci kss).length)) from ⟨⟨o, es, ep, t, S.get, S.ex, S.dat, S.fits, hn⟩, ⟨o, S.get⟩, ?_⟩), rfl, q _ (I.hok.fresh (xaj _))⟩
  rintro h1 h3 ⟨o, es, ep, t, g, r1⟩ kk
  exact ⟨o, es, ep, t, kk o g, r1⟩
def zdV : D -> R D
 | .lst ds => match zbj ds with
  | some kss => bif Nat.ble (zci kss).length 18 then .ok (.int (zci kss).length) else .bad
  | none => .bad
 | _ => .bad
def zh5 (f : DSt -> R D) : DSt -> R D := fun Z => (f Z).bind zdV
theorem zmA {k : Nat} (C : XC X E k) (hm1 : X.mg "len" = none) (hm2 : X.mg "set" = none) {e : Expr} {fe : DSt -> R D} {p1 p2 pos pos2 : Pos} (hfe : DE X E e fe) (hg1 : Gl X "len" := by rfl) (hg2 : Gl X "set" := by rfl)
  (he1 : starEach [.Call (.Name "set" p2) [e] [] pos2] X.env = (false, eval (.Call (.Name "set" p2) [e] [] pos2) X.env) :: starEach [] X.env := by rfl) (hpl1 : (backTo pos (starEach [] X.env)).any (·.1) = false := by rfl)
  (he2 : starEach [e] X.env = (false, eval e X.env) :: starEach [] X.env := by rfl) (hpl2 : (backTo pos2 (starEach [] X.env)).any (·.1) = false := by rfl) :
  DE X E (.Call (.Name "len" p1) [.Call (.Name "set" p2) [e] [] pos2] [] pos) (zh5 fe) := by
 refine PE.mono' (zhG zoO hg1 hm1 PySem.boot_len (zj5 (ziC (zoT C.calm C.room) hg2 hm2 (by rfl) (zab hfe zah he2) (by decide) (by decide) he2 hpl2) znb he1) (by decide) (by decide) he1 hpl1) fun Z H Q ⟨G, Zd, ok, q⟩ => ?_
 refine ⟨G, Zd, ok, (show RW ((zad fe zaC) Zd) _ _ from ?_)⟩
 unfold zad
 have q2 := q.of_bind
 cases hf : fe Zd with
 | bad => rw [hf] at q2; exact q2.elim
 | err x => rw [hf] at q2; exact (show zaL X.K X.mg E G H x from q2)
 | ok d =>
  rw [hf] at q2
  have q3 : RW (zdV d) (zay X.K X.mg Q G H) (zaL X.K X.mg E G H) := q2
  rintro ws G2 H2 s2 ⟨v, _, e1, r3, r4⟩
  subst e1
  cases r4
  cases d with
  | lst ds =>
   obtain ⟨b, vs, rfl, hb, hv⟩ := r3
   cases hs' : zbj ds with
   | none => simp only [zdV, hs'] at q3; exact q3.elim
   | some kss =>
    cases hC : Nat.ble (zci kss).length 18 with
    | false => simp only [zdV, hs', hC, cond_false] at q3; exact q3.elim
    | true =>
     simp only [zdV, hs', hC, cond_true] at q3
     rw [Nat.ble_eq] at hC
     refine ⟨b, vs, kss, rfl, s2.e.seq hb, (zgw hs' hv).mono s2.e, hC, fun a ha => ?_⟩
     have q4 : zay X.K X.mg Q G H (.int (zci kss).length) := q3
     exact ⟨a, (zci kss).length, rfl, zav, by omega, q4 _ G2 _ (s2.trans (.hid s2.e ha)) rfl⟩
  | _ => exact (show False from q3).elim
end
end DL
end
namespace DL
open L2 PyProof.Rows
def zej : List D -> Option (List Str)
 | [] => some []
 | .cls c :: ds => (zej ds).map (c :: ·)
 | _ => none
def zjx (c : Str) : List Str -> Option Bool
 | [] => some false
 | d :: ds => match ziS c d with
  | some true => some true
  | some false => zjx c ds
  | none => none
def zoU : D -> D -> R D
 | .exc c [], .tup ts => match zej ts with
  | some cs => match zjx c cs with
   | some b => .ok (.bl b)
   | none => .bad
  | none => .bad
 | _, _ => .bad
section
variable {X : Cx} {E : XK} {K : xFg} {mg : Str -> Option Value} {G H : Hp}
variable {x : Str} {p pos : Pos} {e : Expr} {es : List Expr} {fs : DSt -> R (List D)}
theorem Reps.clss : ∀ {ds : List D} {cs : List Str} {vs : List V}, zej ds = some cs -> Reps K mg G ds vs -> ∃ Ds : List Addr, vs = Ds.map V.ref /\ cs.map mg = Ds.map fun a => some (.ref a)
 | [], _, _, h, r => by cases h; cases r; exact ⟨[], rfl, rfl⟩
 | .cls c :: ds, _, _, h, ⟨v, t, e1, r1, r2⟩ => by
  subst e1
  cases hd : zej ds with
  | none => simp [zej, hd] at h
  | some cs' =>
   simp [zej, hd] at h
   subst h
   obtain ⟨Ds, rfl, e2⟩ := Reps.clss hd r2
   obtain ⟨C, rfl, hC⟩ := r1
   exact ⟨C :: Ds, rfl, by rw [xat, xat, hC, e2]⟩
 | .non :: _, _, _, h, _ => by simp [zej] at h
 | .bl _ :: _, _, _, h, _ => by simp [zej] at h
 | .int _ :: _, _, _, h, _ => by simp [zej] at h
 | .str _ :: _, _, _, h, _ => by simp [zej] at h
 | .ty _ :: _, _, _, h, _ => by simp [zej] at h
 | .tup _ :: _, _, _, h, _ => by simp [zej] at h
 | .lst _ :: _, _, _, h, _ => by simp [zej] at h
 | .dct _ _ :: _, _, _, h, _ => by simp [zej] at h
 | .exc _ _ :: _, _, _, h, _ => by simp [zej] at h
theorem zjy : ∀ {Ds : List Addr} {us : List Value}, zbf (Ds.map V.ref) us -> us = Ds.map Value.ref
 | [], _, h => by cases h; rfl
 | T :: Ts, _, h => by
  cases h with
  | cons q t =>
   rw [zjy t]
   rw [show _ = Value.ref T from q]; rfl
theorem zlW {c : Str} {C : Addr} (hx : znJ K mg c C) : ∀ {cs : List Str} {Ds : List Addr} {b : Bool}, zjx c cs = some b -> (cs.map mg = Ds.map fun a => some (.ref a)) -> PySem.W.kitAny K (.ref C) (Ds.map Value.ref) = some b
 | [], [], _, h, _ => h
 | [], _ :: _, _, _, h => by cases h
 | _ :: _, [], _, _, h => by cases h
 | d :: cs, a :: Ds, b, h, he => by
  rw [xat, xat, List.cons.injEq] at he
  rw [xat]
  unfold PySem.W.kitAny
  unfold zjx at h
  cases hs : ziS c d with
  | none => rw [hs] at h; cases h
  | some v =>
   rw [hs] at h
   rw [hx.isi d a v hs he.1]
   cases v with
   | true => exact h
   | false => exact zlW hx h he.2
def zuR (K : xFg) : List V -> Hp -> VK -> Prop := fun xs H Q => ∃ (a C q : Addr) (Ds : List Addr) (b : Bool), xs = [.ref a, .ref q] /\ H a = some (zno a C none) /\ zr6 K C /\ SqT K H q (Ds.map V.ref) /\ PySem.W.kitAny K (.ref C) (Ds.map Value.ref) = some b /\ Q (.bl b) H
theorem zoV : zdd X (.builtin "isinstance") (zuR X.K) := by
 intro pins s Z H xs us Q I r h
 obtain ⟨a, C, q, Ds, b, rfl, ha, ec, hq, hk, z⟩ := h
 obtain ⟨u, w', rfl, ru, rw'⟩ := zpr r
 cases (show u = Value.ref a from ru)
 cases (show w' = Value.ref q from rw')
 obtain ⟨its, rv, ⟨⟨oc, od, odt, osl⟩, ho, hc, n, hdt⟩, _⟩ := I.tuple hq
 simp only at hc hdt
 subst hc hdt
 have ei := zjy rv
 subst ei
 obtain ⟨⟨o, e1, e2, e3, e4⟩, _, _⟩ := I.hok a _ ha
 have hI : PySem.W.InstAt s.heap a o C none := ⟨e1, e2, e4, by rw [e3]; trivial⟩
 exact PySem.W.kia_tup (zkM ec) I.kIn ⟨o, none, hI⟩ ho hk (fun z => nomatch z) fun tk => ⟨.bl b, H, I.tok tk, rfl, z⟩
theorem zsL : zg2 K mg (zuR K) (g2 zoU) := cd2 fun G H d d' v v' Q e r r' q => by
 cases d with
 | exc c as =>
  cases as with
  | cons b bs => cases d' <;> exact (show False from q).elim
  | nil =>
   cases d' with
   | tup ts =>
    obtain ⟨a, C, dct, vs, rfl, h2, h3, h4, h5⟩ := r
    cases h5
    rcases h4 with ⟨rfl, _⟩ | ⟨dx, w, _, z, _⟩
    ·obtain ⟨q', ws, rfl, k1, k2⟩ := r'
     cases hs : zej ts with
     | none => simp only [zoU, hs] at q; exact q.elim
     | some cs =>
      cases hb : zjx c cs with
      | none => simp only [zoU, hs, hb] at q; exact q.elim
      | some b =>
       simp only [zoU, hs, hb] at q
       obtain ⟨Ds, rfl, e2⟩ := Reps.clss hs k2
       exact ⟨a, C, q', Ds, b, rfl, e _ _ h2, h3.exc, zaI.sqT e k1, zlW h3 hb e2, zay.now q e rfl⟩
    ·cases z
   | _ => exact (show False from q).elim
 | _ => cases d' <;> exact (show False from q).elim
theorem zkp (hm : X.mg "isinstance" = none) (ha : DA X E (e :: es) fs) (hg : Gl X "isinstance" := by rfl) (he : starEach (e :: es) X.env = (false, eval e X.env) :: starEach es X.env := by rfl) (hpl : (backTo pos (starEach es X.env)).any (·.1) = false := by rfl) : DE X E (.Call (.Name "isinstance" p) (e :: es) [] pos) (zdP (g2 zoU) fs) :=
 zge zoV zsL hm zk4 ha hg (by decide) (by decide) he hpl
end
end DL
namespace L2
open PySem.Spec PyProof.Rows
def off (H : Hp) (x : Addr) : Hp := fun b => if b = x then none else H b
end L2
namespace DL
open L2 PyProof.Rows
theorem zbC : Slot "set_iterator" "__next__" "set_iterator.__next__" :=
 .of (owner := "set_iterator") (n := "__next__") (by rw [typeLookup_type, builtinLookup_eq_fast]; kernel_rfl) (by decide +kernel) (by decide +kernel) (by decide +kernel)
  (by first | exact .inl (by decide +kernel) | exact .inr (by decide +kernel)) (by rw [isSubtype_type]; kernel_rfl)
theorem zeU : entryFor table "set_iterator.__next__" = some Builtin.«set_iterator.__next__» := entryFor_of_tree (by kernel_rfl)
theorem zfw (a : Value) : argsOk "set_iterator.__next__" ⟨[a], []⟩ := by unfold argsOk; kernel_rfl
abbrev siO (z : Addr) (slot i n ep : Nat) : Obj := { cls := .type "set_iterator", dict := none, data := .fields #[rawInt slot, rawInt i, .ref z, rawInt n, rawInt ep] }
def zbS (w : World) (z : Addr) (ep : Nat) (es : Array (Int × Value)) : Array (Int × Value) := if w.params.followText "set-order" = true then pickOrder (w.params.setOrder z ep) es else es
section
variable {prog : Program} {w : World} {A : Around} {E : Value -> Shared -> Prop} {s : Shared} {I z : Addr} {o : Obj} {es : Array (Int × Value)} {ep slot i n : Nat} {t : SetTable} {x : Int × Value}
theorem zqd {Q : Option (Value × Nat) -> Shared -> Prop} (hz : s.heap.get? z = some o) (od : o.data = .set es ep t) (hf : t.fits es.size = true) (hp : t.plain = true) (hld : t.led = !w.params.followText "set-order")
  (hs : w.params.followText "set-order" = true \/ SetTable.below t.place slot = i) (hx : (zbS w z ep es)[i]? = some x)
  (hQ : ∀ slot', (w.params.followText "set-order" = true \/ ∃ j, t.place[i]? = some j /\ slot' = j + 1) -> Q (some (x.2, slot')) s) : wpAny (model prog w) A (setNext z slot i ep) Q E s := by
 unfold setNext
 refine wpAny_bind (wpAny_setState_of hz od hf ?_)
 dsimp only
 unfold setsByText
 refine wpAny_bind (wpAny_bind (wpAny_askSetting (wpAny_pure ?_)))
 dsimp only
 unfold zbS at hx
 change wpAny (model prog w) A (if w.params.followText "set-order" = true then _ else _) Q E s
 by_cases hb : w.params.followText "set-order" = true
 ·rw [if_pos hb] at hx
  rw [if_pos hb, if_neg (by simp)]
  unfold setWalk
  refine wpAny_bind (wpAny_bind (wpAny_setState_of hz od hf ?_))
  dsimp only
  unfold setsByText
  refine wpAny_bind (wpAny_bind (wpAny_askSetting (wpAny_pure ?_)))
  dsimp only
  change wpAny (model prog w) A (if w.params.followText "set-order" = true then _ else _) _ E s
  rw [if_pos hb]
  refine wpAny_bind (wpAny_askSetting (wpAny_pure (wpAny_pure ?_)))
  change Q (((pickOrder (w.params.setOrder z ep) es)[i]?).map fun e => (e.2, slot)) s
  rw [hx]
  exact hQ slot (.inl hb)
 ·rw [if_neg hb] at hx
  rw [if_neg hb]
  have hb' : w.params.followText "set-order" = false := by simpa using hb
  have hi : SetTable.below t.place slot = i := hs.resolve_left hb
  have hlt : i < es.size := (xaz.mp hx).1
  have hpl : t.place.size = es.size := by
   unfold SetTable.fits at hf
   rw [xav] at hf
   exact eq_of_beq hf.1
  obtain ⟨j, hj⟩ : ∃ j, t.place[i]? = some j := ⟨t.place[i]'(by omega), xa4 (by omega)⟩
  refine wpAny_ite ?_
  split
  ·rename_i hd
   have hd : (!t.plain && decide (es.size > 1)) = true := hd
   rw [hp] at hd
   cases hd
  refine wpAny_bind ?_
  change wpAny (model prog w) A (if (!t.led && !es.isEmpty) = true then unsupported "set:maker-not-led" else pure ()) _ E s
  rw [if_neg (by rw [hld, hb']; simp)]
  refine wpAny_pure (wpAny_pure ?_)
  rw [hi, hx, hj]
  exact hQ (j + 1) (.inr ⟨j, hj, rfl⟩)
theorem zqe {Q : Option (Value × Nat) -> Shared -> Prop} (hz : s.heap.get? z = some o) (od : o.data = .set es ep t) (hf : t.fits es.size = true) (hn : es.size = n) (hp : t.plain = true) (hld : t.led = !w.params.followText "set-order")
  (hs : w.params.followText "set-order" = true \/ SetTable.below t.place slot = n) (ho : (zbS w z ep es).size = n) (hQ : Q none s) : wpAny (model prog w) A (setNext z slot n ep) Q E s := by
 unfold setNext
 refine wpAny_bind (wpAny_setState_of hz od hf ?_)
 dsimp only
 unfold setsByText
 refine wpAny_bind (wpAny_bind (wpAny_askSetting (wpAny_pure ?_)))
 dsimp only
 unfold zbS at ho
 change wpAny (model prog w) A (if w.params.followText "set-order" = true then _ else _) Q E s
 by_cases hb : w.params.followText "set-order" = true
 ·rw [if_pos hb] at ho
  rw [if_pos hb, if_neg (by simp)]
  unfold setWalk
  refine wpAny_bind (wpAny_bind (wpAny_setState_of hz od hf ?_))
  dsimp only
  unfold setsByText
  refine wpAny_bind (wpAny_bind (wpAny_askSetting (wpAny_pure ?_)))
  dsimp only
  change wpAny (model prog w) A (if w.params.followText "set-order" = true then _ else _) _ E s
  rw [if_pos hb]
  refine wpAny_bind (wpAny_askSetting (wpAny_pure (wpAny_pure ?_)))
  change Q (((pickOrder (w.params.setOrder z ep) es)[n]?).map fun e => (e.2, slot)) s
  rw [xcv (by omega)]
  exact hQ
 ·rw [if_neg hb]
  have hb' : w.params.followText "set-order" = false := by simpa using hb
  have hi : SetTable.below t.place slot = n := hs.resolve_left hb
  refine wpAny_ite ?_
  split
  ·rename_i hd
   have hd : (!t.plain && decide (es.size > 1)) = true := hd
   rw [hp] at hd
   cases hd
  refine wpAny_bind ?_
  change wpAny (model prog w) A (if (!t.led && !es.isEmpty) = true then unsupported "set:maker-not-led" else pure ()) _ E s
  rw [if_neg (by rw [hld, hb']; simp)]
  refine wpAny_pure (wpAny_pure ?_)
  rw [hi, xcv (by omega)]
  exact hQ
theorem zsM {Q : Option Value -> Shared -> Prop} (hI : s.heap.get? I = some (siO z slot i n ep)) (hz : s.heap.get? z = some o) (od : o.data = .set es ep t) (hf : t.fits es.size = true) (hn : es.size = n) (hp : t.plain = true) (hld : t.led = !w.params.followText "set-order")
  (hs : w.params.followText "set-order" = true \/ SetTable.below t.place slot = i) (hx : (zbS w z ep es)[i]? = some x)
  (hQ : ∀ h' slot', h'.get? I = some (siO z slot' (i + 1) n ep) -> Heap.SameBut I s.heap h' -> (w.params.followText "set-order" = true \/ ∃ j, t.place[i]? = some j /\ slot' = j + 1) -> Q (some x.2) { s with heap := h' }) : wpAny (model prog w) A (pyNext (.ref I)) Q E s := by
 have hT : s.TypeIs (.ref I) "set_iterator" := ⟨_, hI, rfl⟩
 unfold pyNext
 refine wpAny_bind (wpAny_attempt (wpAny_callSpecial?_slot (name := Str.ofString "__next__") hT zbC (wpAny_call_entry zbC hT zeU ?_ (zfw _))))
 unfold Builtin.«set_iterator.__next__»
 refine wpAny_bind (wpAny_of_eq (a := (Value.ref I, [])) rfl ?_)
 dsimp only
 refine wpAny_bind (wpAny_fieldsOf hI rfl ?_)
 change wpAny (model prog w) A.in1 (setEntries z >>= _) _ _ s
 refine wpAny_bind (wpAny_setEntries_of hz od hf ?_)
 rw [if_neg (by rw [hn]; simp)]
 try refine wpAny_bind (wpAny_pure ?_)
 change wpAny (model prog w) A.in1 (setNext z slot i ep >>= _) _ _ s
 refine wpAny_bind (zqd hz od hf hp hld hs hx fun slot' hs' => ?_)
 dsimp only
 refine wpAny_bind (wpAny_setField_rec hI (by simp) fun h1 g1 b1 => ?_)
 refine wpAny_bind (wpAny_setField_rec (s := { s with heap := h1 }) g1 (by simp) fun h2 g2 b2 => ?_)
 refine wpAny_pure ⟨_, rfl, wpAny_pure (hQ h2 slot' ?_ (b1.trans b2) hs')⟩
 rw [g2]
 rfl
theorem zuS {Q : Option Value -> Shared -> Prop} (hh : A.handled = none) (hI : s.heap.get? I = some (siO z slot n n ep)) (hz : s.heap.get? z = some o) (od : o.data = .set es ep t) (hf : t.fits es.size = true) (hn : es.size = n) (hp : t.plain = true) (hld : t.led = !w.params.followText "set-order")
  (hs : w.params.followText "set-order" = true \/ SetTable.below t.place slot = n) (ho : (zbS w z ep es).size = n)
  (hQ : ∀ h', Heap.ExtBut I s.heap h' -> Q none { s with heap := h' }) : wpAny (model prog w) A (pyNext (.ref I)) Q E s := by
 have hT : s.TypeIs (.ref I) "set_iterator" := ⟨_, hI, rfl⟩
 unfold pyNext
 refine wpAny_bind (wpAny_attempt (wpAny_callSpecial?_slot (name := Str.ofString "__next__") hT zbC (wpAny_call_entry zbC hT zeU ?_ (zfw _))))
 unfold Builtin.«set_iterator.__next__»
 refine wpAny_bind (wpAny_of_eq (a := (Value.ref I, [])) rfl ?_)
 dsimp only
 refine wpAny_bind (wpAny_fieldsOf hI rfl ?_)
 change wpAny (model prog w) A.in1 (setEntries z >>= _) _ _ s
 refine wpAny_bind (wpAny_setEntries_of hz od hf ?_)
 rw [if_neg (by rw [hn]; simp)]
 try refine wpAny_bind (wpAny_pure ?_)
 change wpAny (model prog w) A.in1 (setNext z slot n ep >>= _) _ _ s
 refine wpAny_bind (zqe hz od hf hn hp hld hs ho ?_)
 dsimp only
 refine wpAny_bind (wpAny_setField_rec hI (by simp) fun h1 g1 b1 => ?_)
 refine wpAny_bind ?_
 simp only [newExc, newTuple]
 refine wpAny_bind (wpAny_newObj_type ?_ (by size_fits))
 refine wpAny_bind (m := firstArgMember _ _) (wpAny_of_eq (a := Value.none) (by first | rfl | (simp only [firstArgMember]; rfl)) ?_)
 refine wpAny_newObj_type ?_ (by size_fits)
 simp only [raiseNew]
 refine wpAny_bind (wpAny_handled ?_)
 first | rw [show A.in1.handled = none from hh] | rw [hh]
 refine wpAny_bind (wpAny_pure (wpAny_throw ?_))
 refine wpAny_bind (wpAny_isInstance (T := "StopIteration") (b := true) ⟨_, xau _ rfl, rfl⟩ isSubtype_stop ?_)
 exact wpAny_pure (hQ _ ((b1.extBut.push _).push _))
theorem zg3 : entryFor table "set.__iter__" = some Builtin.«frozenset.__iter__» := entryFor_alias (id' := "frozenset.__iter__") (by kernel_rfl) rfl (by decide +kernel) (by kernel_rfl)
theorem zmB {Q : Value -> Shared -> Prop} (hz : s.heap.get? z = some o) (ex : o.ExactSet) (od : o.data = .set es ep t) (hf : t.fits es.size = true) (hn : es.size = n) (hp : t.plain = true)
  (hQ : Q (.ref s.heap.objs.size) { s with heap := s.heap.push (siO z 0 0 n ep) }) : wpAny (model prog w) A (pyIter (.ref z)) Q E s := by
 have hT : s.TypeIs (.ref z) "set" := ⟨_, hz, ex.1⟩
 refine wpAny_pyIter_slot hT PySem.F.slot_set_iter (wpAny_call_entry PySem.F.slot_set_iter hT zg3 ?_ (PySem.F.args_set_iter_1 _))
 unfold Builtin.«frozenset.__iter__»
 refine wpAny_bind (wpAny_of_eq (a := z) rfl ?_)
 unfold Builtin.Frozenset.sizeOf
 refine wpAny_bind (wpAny_bind (wpAny_setEntries_of hz od hf (wpAny_pure ?_)))
 unfold setDrawn
 refine wpAny_bind (wpAny_bind ?_)
 refine wpAny_setState_of hz od hf ?_
 dsimp only
 unfold setsByText
 refine wpAny_bind (wpAny_bind (wpAny_askSetting (wpAny_pure (wpAny_pure ?_))))
 rw [show (!((model prog w).w.params.followText "set-order") && _) = false from by
  show (!w.params.followText "set-order" && (!t.plain && decide (es.size > 1))) = false
  rw [hp]; simp]
 try dsimp only
 rw [if_neg (by decide)]
 try refine wpAny_bind (wpAny_pure ?_)
 unfold setEpoch
 refine wpAny_bind (wpAny_bind (wpAny_setState_of hz od hf (wpAny_pure ?_)))
 dsimp only
 unfold newFields
 refine wpAny_bind (wpAny_newObj_type ?_ (by size_fits))
 refine wpAny_pure ⟨_, rfl, "set_iterator", _, ⟨_, xau _ rfl, rfl⟩, zbC.lookup, ?_⟩
 rw [hn]
 exact hQ
end
end DL
namespace DL
open L2 PyProof.Rows
theorem zfx : Slot "set_iterator" "__iter__" "set_iterator.__iter__" :=
 .of (owner := "set_iterator") (n := "__iter__") (by rw [typeLookup_type, builtinLookup_eq_fast]; kernel_rfl) (by decide +kernel) (by decide +kernel) (by decide +kernel)
  (by first | exact .inl (by decide +kernel) | exact .inr (by decide +kernel)) (by rw [isSubtype_type]; kernel_rfl)
theorem zh6 : entryFor table "set_iterator.__iter__" = some Builtin.«dict_keyiterator.__iter__» := entryFor_alias (id' := "dict_keyiterator.__iter__") (by kernel_rfl) rfl (by decide +kernel) (by kernel_rfl)
theorem zjz (a : Value) : argsOk "set_iterator.__iter__" ⟨[a], []⟩ := by unfold argsOk; kernel_rfl
theorem zjA {α : Type} (next : Nat -> Nat) : ∀ (n k : Nat) (left : List α) (out : Array α), left.length = n -> (pickOrder.go next n k left out).toList.Perm (out.toList ++ left)
 | 0, k, left, out, h => by
  rw [List.eq_nil_of_length_eq_zero h, xb9]
  unfold pickOrder.go
  exact List.Perm.refl _
 | n + 1, k, left, out, h => by
  unfold pickOrder.go
  have hl : next k % left.length < left.length := xcb _ (by omega)
  rw [xao hl]
  dsimp only
  have ih := zjA next n (k + 1) (left.eraseIdx (next k % left.length)) (out.push left[next k % left.length]) (by rw [List.length_eraseIdx_of_lt hl]; omega)
  refine ih.trans ?_
  rw [Array.toList_push, List.append_assoc]
  refine List.Perm.append_left _ ?_
  have e : left = left.take (next k % left.length) ++ left[next k % left.length] :: left.drop (next k % left.length + 1) := by
   rw [<- xcn hl, xc3]
  have p := List.perm_middle (a := left[next k % left.length]) (l₁ := left.take (next k % left.length)) (l₂ := left.drop (next k % left.length + 1))
  rw [<- e] at p
  rw [List.eraseIdx_eq_take_drop_succ, List.singleton_append]
  exact p.symm
theorem zhw (w : World) (z : Addr) (ep : Nat) (es : Array (Int × Value)) : (zbS w z ep es).toList.Perm es.toList := by
 unfold zbS
 split
 ·unfold pickOrder
  have := zjA (w.params.setOrder z ep) es.size 0 es.toList #[] (by simp)
  simpa using this
 ·exact List.Perm.refl _
theorem zfh (w : World) (z : Addr) (ep : Nat) (es : Array (Int × Value)) : (zbS w z ep es).size = es.size := by
 have := (zhw w z ep es).length_eq
 simpa using this
theorem zmC {xs : Array Nat} (hs : xs.toList.Pairwise (· < ·)) : SetTable.below xs 0 = 0 := by
 obtain ⟨h1, h2, h3⟩ := SetT.below_ok 0 hs
 refine xaw fun h => ?_
 have hl : 0 < xs.size := by omega
 have := h2 0 xs[0] (by omega) (by simp [hl])
 omega
theorem zmD {xs : Array Nat} (hs : xs.toList.Pairwise (· < ·)) {i j : Nat} (hj : xs[i]? = some j) : SetTable.below xs (j + 1) = i + 1 := by
 obtain ⟨h1, h2, h3⟩ := SetT.below_ok (j + 1) hs
 have hi : i < xs.size := (xaz.mp hj).1
 have a : i < SetTable.below xs (j + 1) := xaw fun h => by
  have := h3 i j (by omega) hj
  omega
 refine xaw fun h => ?_
 have hi1 : i + 1 < xs.size := by omega
 have := h2 (i + 1) xs[i + 1] (by omega) (by simp [hi1])
 have := SetT.srt_lt hs (xc0 i) hj (show xs[i + 1]? = some xs[i + 1] by simp [hi1])
 omega
section
variable {prog : Program} {w : World} {A : Around} {I z : Addr} {o : Obj} {es : Array (Int × Value)} {ep n : Nat} {t : SetTable}
theorem zoW (hh : A.handled = none) (hne : z ≠ I) (od : o.data = .set es ep t) (hf : t.fits es.size = true) (hn : es.size = n) (hp : t.plain = true) (hld : t.led = !w.params.followText "set-order") (srt : t.place.toList.Pairwise (· < ·)) :
  Walks prog w A I [I, z] [I] n (fun i v => ∃ e, (zbS w z ep es)[i]? = some e /\ v = e.2) (fun i h => ∃ slot, h.get? I = some (siO z slot i n ep) /\ (w.params.followText "set-order" = true \/ SetTable.below t.place slot = i) /\ h.get? z = some o) where
 sub := fun b hb => by simp at hb; simp [hb]
 frame := fun _ _ _ ⟨slot, g1, g2, g3⟩ hk => ⟨slot, hk I (by simp) _ g1, g2, hk z (by simp) _ g3⟩
 item := fun i s Q E hi ⟨slot, g1, g2, g3⟩ hQ => by
  have hl : i < (zbS w z ep es).size := by rw [zfh]; omega
  refine zsM g1 g3 od hf hn hp hld g2 (xa4 hl) fun h' slot' a1 a2 a3 => ?_
  refine hQ _ h' s.toks ⟨_, xa4 hl, rfl⟩ ⟨slot', a1, ?_, (a2.2 z hne).trans g3⟩ fun b o hb e => a2.extBut b o (fun h => hb (by simp [h])) e
  rcases a3 with a3 | ⟨j, hj, rfl⟩
  ·exact .inl a3
  ·exact .inr (zmD srt hj)
 done := fun s Q E ⟨slot, g1, g2, g3⟩ hQ => zuS hh g1 g3 od hf hn hp hld g2 (by rw [zfh]; exact hn) fun h' he => hQ h' s.toks fun b o hb e => he b o (fun h => hb (by simp [h])) e
 self := fun i s Q E ⟨slot, g1, g2, g3⟩ hQ => by
  have hT : s.TypeIs (.ref I) "set_iterator" := ⟨_, g1, rfl⟩
  refine wpAny_pyIter_slot hT zfx (wpAny_call_entry zfx hT zh6 ?_ (zjz _))
  show wpAny _ _ (ret (.ref I)) _ _ s
  exact wpAny_pure ⟨_, rfl, "set_iterator", _, hT, zbC.lookup, hQ⟩
end
end DL
namespace DL
open L2 PyProof.Rows PySem.W PySem.Spec
section
variable {prog : Program} {w : World} {A : Around} {E : Value -> Shared -> Prop} {s : Shared} {r : Addr} {Q : Bool -> Shared -> Prop}
theorem zqf (hT : s.TypeIs (.ref r) "set") (h : Q false s) : wpAny (model prog w) A (Builtin.List.listLengthHint (.ref r)) Q E s := by
 unfold Builtin.List.listLengthHint
 refine wpAny_bind (wpAny_specialOf hT PySem.F.slot_set_len.lookup ?_)
 generalize hid : ("set.__len__" : String) = id0
 wp_delta
 rw [show splitId id0 = some ("set", "__len__") from by subst hid; decide +kernel]
 subst hid
 refine wpAny_bind (wpAny_isInstance (T := "set") (b := true) hT (by rw [isSubtype_type]; kernel_rfl) ?_)
 refine wpAny_ite_split (fun hab => absurd hab (by decide)) (fun _ => ?_)
 refine wpAny_ite_split (fun _ => ?_) (fun hab => absurd (by decide +kernel) hab)
 refine wpAny_bind (wpAny_typeOf hT ?_)
 exact wpAny_pure h
end
section
variable {prog : Program} {w : World} {z : Addr} {o : Obj} {es : Array (Int × Value)} {ep n : Nat} {t : SetTable}
theorem zsN (ex : o.ExactSet) (od : o.data = .set es ep t) (hf : t.fits es.size = true) (hn : es.size = n) (hp : t.plain = true) (hld : t.led = !w.params.followText "set-order") (srt : t.place.toList.Pairwise (· < ·)) :
  KdlSrc prog w "set" z z n (fun i v => ∃ e, (zbS w z ep es)[i]? = some e /\ v = e.2) (fun h => h.get? z = some o) where
 type := fun s hm => ⟨_, hm, ex.1⟩
 there := fun h hm => ⟨xai hm, xai hm⟩
 keep := fun h h' hm hk => hk z (.inl rfl) _ hm
 notList := by decide
 notTuple := by decide
 hint := fun A E s Q hm hq => zqf ⟨_, hm, ex.1⟩ hq
 iter := fun A s hh hm => ⟨siO z 0 0 n ep, _, (fun E Q hq => zmB hm ex od hf hn hp hq), zoW hh (xa0 (xai hm)) od hf hn hp hld srt, ⟨0, xau _ rfl, .inr (zmC srt), xaa _ hm⟩⟩
end
end DL
namespace DL
open PySem.W PyProof.Rows
def TW (n : Nat) (lt : Nat -> Nat -> Bool) {α : Type} : KasT α -> (α -> Prop) -> Prop
 | .ret a, P => P a
 | .ask i j k, P => i < n /\ j < n /\ TW n lt (k (lt i j)) P
section
variable {n : Nat} {lt : Nat -> Nat -> Bool}
theorem TW.bind {α β : Type} {f : α -> KasT β} {P : β -> Prop} : ∀ (t : KasT α), TW n lt t (fun a => TW n lt (f a) P) -> TW n lt (t.bind f) P
 | .ret _, h => h
 | .ask i j k, h => ⟨h.1, h.2.1, TW.bind (k (lt i j)) h.2.2⟩
theorem TW.mono {α : Type} {P P' : α -> Prop} (h : ∀ a, P a -> P' a) : ∀ (t : KasT α), TW n lt t P -> TW n lt t P'
 | .ret a, q => h a q
 | .ask i j k, q => ⟨q.1, q.2.1, TW.mono h (k (lt i j)) q.2.2⟩
theorem TW.wp {α : Type} {cmp : Nat -> Nat -> (Bool -> Shared -> Prop) -> Shared -> Prop} {s : Shared} {P : α -> Prop} {Q : α -> Shared -> Prop} (hc : ∀ i j (C : Bool -> Shared -> Prop), i < n -> j < n -> C (lt i j) s -> cmp i j C s) (h : ∀ a, P a -> Q a s) : ∀ (t : KasT α), TW n lt t P -> t.kasWp cmp Q s
 | .ret a, q => h a q
 | .ask i j k, q => hc i j _ q.1 q.2.1 (TW.wp hc h (k (lt i j)) q.2.2)
structure zpk (n : Nat) (lt : Nat -> Nat -> Bool) : Prop where
 tot : ∀ i j, i < n -> j < n -> i ≠ j -> lt i j = false -> lt j i = true
 asy : ∀ i j, i < n -> j < n -> lt i j = true -> lt j i = false
 trn : ∀ i j k, i < n -> j < n -> k < n -> lt i j = true -> lt j k = true -> lt i k = true
abbrev sg (p : Array Nat) (i : Nat) : Nat := p.getD i 0
structure SIp (n : Nat) (p : Array Nat) : Prop where
 perm : p.toList.Perm (List.range n)
theorem SIp.size {p : Array Nat} (h : SIp n p) : p.size = n := by have := h.perm.length_eq; simpa using this
theorem zsO {p : Array Nat} {i : Nat} (hi : i < p.size) : p[i]? = some (sg p i) := by simp [sg, hi]
theorem zqg {p q : Array Nat} {i j : Nat} (h : p[i]? = q[j]?) : sg p i = sg q j := by
 simp only [sg, xar, h]
theorem SIp.bnd {p : Array Nat} (h : SIp n p) {i : Nat} (hi : i < n) : sg p i < n := by
 have e := zsO (p := p) (i := i) (by rw [h.size]; exact hi)
 have m : sg p i ∈ p.toList := by
  rw [<- xaq] at e
  exact xbf e
 exact xa2.mp (h.perm.mem_iff.mp m)
theorem SIp.inj {p : Array Nat} (h : SIp n p) {i j : Nat} (hi : i < n) (hj : j < n) (e : i ≠ j) : sg p i ≠ sg p j := fun q => by
 have nd : p.toList.Nodup := h.perm.nodup_iff.mpr List.nodup_range
 have go : ∀ i j, i < j -> j < n -> sg p i ≠ sg p j := fun i j hij hj q => by
  have h1 := zsO (p := p) (i := i) (by rw [h.size]; omega)
  have h2 := zsO (p := p) (i := j) (by rw [h.size]; omega)
  rw [<- xaq] at h1 h2
  obtain ⟨l1, e1⟩ := xah.mp h1
  obtain ⟨l2, e2⟩ := xah.mp h2
  have := xb5.mp nd i j l1 l2 hij
  rw [e1, e2] at this
  exact this q
 rcases Nat.lt_or_gt_of_ne e with l | l
 ·exact go i j l hj q
 ·exact go j i l hi q.symm
theorem SIp.rev {p : Array Nat} (h : SIp n p) (i j : Nat) : SIp n (kas_rev p i j) := ⟨(mirror_perm p i j _).toList.trans h.perm⟩
theorem SIp.bub {p : Array Nat} (h : SIp n p) (i j : Nat) : SIp n (bubble p i j) := ⟨(bubble_perm p i j).toList.trans h.perm⟩
def Up (lt : Nat -> Nat -> Bool) (p : Array Nat) (m : Nat) : Prop := ∀ i j, i < j -> j < m -> lt (sg p i) (sg p j) = true
def Dn (lt : Nat -> Nat -> Bool) (p : Array Nat) (m : Nat) : Prop := ∀ i j, i < j -> j < m -> lt (sg p j) (sg p i) = true
theorem Up.step {p : Array Nat} {m : Nat} (O : zpk n lt) (h : SIp n p) (u : Up lt p m) (hm : m < n) (h1 : 1 <= m) (l : lt (sg p (m - 1)) (sg p m) = true) : Up lt p (m + 1) := by
 intro i j hij hj
 by_cases e : j = m
 ·subst e
  by_cases e2 : i = j - 1
  ·rw [e2]; exact l
  ·exact O.trn _ (sg p (j - 1)) _ (h.bnd (by omega)) (h.bnd (by omega)) (h.bnd (by omega)) (u i (j - 1) (by omega) (by omega)) l
 ·exact u i j hij (by omega)
theorem Dn.step {p : Array Nat} {m : Nat} (O : zpk n lt) (h : SIp n p) (u : Dn lt p m) (hm : m < n) (h1 : 1 <= m) (l : lt (sg p m) (sg p (m - 1)) = true) : Dn lt p (m + 1) := by
 intro i j hij hj
 by_cases e : j = m
 ·subst e
  by_cases e2 : i = j - 1
  ·rw [e2]; exact l
  ·exact O.trn _ (sg p (j - 1)) _ (h.bnd (by omega)) (h.bnd (by omega)) (h.bnd (by omega)) l (u i (j - 1) (by omega) (by omega))
 ·exact u i j hij (by omega)
theorem zoX {p : Array Nat} (O : zpk n lt) (h : SIp n p) : ∀ (f m : Nat), m + f = n -> 1 <= m -> Up lt p m -> TW n lt (kas_asc p f m) (fun r => m <= r /\ r <= n /\ Up lt p r /\ (r = n \/ r < n /\ lt (sg p r) (sg p (r - 1)) = true))
 | 0, m, e, h1, u => ⟨xaj _, by omega, u, .inl (by omega)⟩
 | f + 1, m, e, h1, u => by
  refine ⟨h.bnd (by omega), h.bnd (by omega), ?_⟩
  cases l : lt (sg p m) (sg p (m - 1)) with
  | true => simp only [l, if_true]; exact ⟨xaj _, by omega, u, .inr ⟨by omega, l⟩⟩
  | false =>
   simp only [l, xbk, if_false]
   refine TW.mono (fun r q => ⟨Nat.le_of_succ_le q.1, q.2⟩) _ (zoX O h f (m + 1) (by omega) (by omega) ?_)
   exact u.step O h (by omega) h1 (O.tot _ _ (h.bnd (by omega)) (h.bnd (by omega)) (h.inj (by omega) (by omega) (by omega)) l)
theorem zoY {p : Array Nat} (O : zpk n lt) (h : SIp n p) : ∀ (f m : Nat), m + f = n -> 1 <= m -> Dn lt p m -> TW n lt (kas_desc f p m 0) (fun r => r.1 = p /\ r.2.2 = 0 /\ m <= r.2.1 /\ r.2.1 <= n /\ Dn lt p r.2.1)
 | 0, m, e, h1, u => ⟨rfl, rfl, xaj _, by show m <= n; omega, u⟩
 | f + 1, m, e, h1, u => by
  refine ⟨h.bnd (by omega), h.bnd (by omega), ?_⟩
  cases l : lt (sg p m) (sg p (m - 1)) with
  | true =>
   simp only [l, if_true, xbh, gt_iff_lt, if_false]
   refine TW.mono (fun r q => ⟨q.1, q.2.1, Nat.le_of_succ_le q.2.2.1, q.2.2.2⟩) _ (zoY O h f (m + 1) (by omega) (by omega) (u.step O h (by omega) h1 l))
  | false =>
   simp only [l, xbk, if_false]
   refine ⟨h.bnd (by omega), h.bnd (by omega), ?_⟩
   rw [O.tot _ _ (h.bnd (by omega)) (h.bnd (by omega)) (h.inj (by omega) (by omega) (by omega)) l]
   exact ⟨rfl, rfl, xaj _, by show m <= n; omega, u⟩
theorem Dn.rev {p : Array Nat} {m : Nat} (h : SIp n p) (hm : m <= n) (u : Dn lt p m) : Up lt (kas_rev p 0 m) m := by
 intro i j hij hj
 have e : ∀ k, k < m -> sg (kas_rev p 0 m) k = sg p (m - 1 - k) := fun k hk => zqg (by
  unfold kas_rev
  rw [getElem?_mirror_all (by rw [h.size]; exact hm), if_pos ⟨xbt _, hk⟩, xbo])
 rw [e i (by omega), e j hj]
 exact u _ _ (by omega) (by omega)
theorem zqh {p : Array Nat} {m : Nat} (O : zpk n lt) (h : SIp n p) (h1 : 1 <= m) (hm : m <= n) (u : Dn lt p m) : TW n lt (kas_tail3 m n p) (fun r => 1 <= r.1 /\ r.1 <= n /\ SIp n r.2 /\ Up lt r.2 r.1) := by
 unfold kas_tail3
 refine TW.bind _ (TW.mono (fun r q => ?_) _ (zoX O (h.rev 0 m) (n - m) m (by omega) h1 (u.rev h hm)))
 exact ⟨by show 1 <= r; omega, q.2.1, h.rev 0 m, q.2.2.1⟩
theorem zqi {p : Array Nat} (O : zpk n lt) (h : SIp n p) (h1 : 1 <= n) : TW n lt (kas_count n p) (fun r => 1 <= r.1 /\ r.1 <= n /\ SIp n r.2 /\ Up lt r.2 r.1) := by
 unfold kas_count
 refine TW.bind _ (TW.mono (fun m q => ?_) _ (zoX O h (n - 1) 1 (by omega) (xaj _) (fun i j _ _ => by omega)))
 obtain ⟨q1, q2, q3, q4⟩ := q
 by_cases e : m = n
 ·rw [if_pos (by rw [e]; exact beq_self_eq_true n)]
  exact ⟨q1, q2, h, q3⟩
 ·rw [if_neg (by simpa using e)]
  obtain ⟨q5, q6⟩ := q4.resolve_left e
  by_cases e1 : m > 1
  ·rw [if_pos e1]
   refine ⟨h.bnd (by omega), h.bnd (by omega), ?_⟩
   rw [q3 0 (m - 1) (by omega) (by omega)]
   exact ⟨q1, q2, h, q3⟩
  ·rw [if_neg e1]
   have em : m = 1 := by omega
   subst em
   unfold kas_descPart
   refine TW.bind _ (TW.mono (fun r q => ?_) _ (zoY O h (n - (1 + 1)) (1 + 1) (by omega) (by omega) ?_))
   ·obtain ⟨a1, a2, a3, a4, a5⟩ := q
    rw [if_neg (by omega), a1]
    exact zqh O h (by omega) a4 a5
   ·intro i j hij hj
    have ei : i = 0 := by omega
    have ej : j = 1 := by omega
    subst ei ej
    exact q6
theorem zh7 {p : Array Nat} {k : Nat} (O : zpk n lt) (h : SIp n p) (hk : k < n) (u : Up lt p k) : ∀ (f l r : Nat), l <= r -> r <= k -> r - l <= f -> (∀ i, i < l -> lt (sg p i) (sg p k) = true) -> (∀ i, r <= i -> i < k -> lt (sg p k) (sg p i) = true) ->
  TW n lt (kas_place p k f l r) (fun m => m <= k /\ (∀ i, i < m -> lt (sg p i) (sg p k) = true) /\ (∀ i, m <= i -> i < k -> lt (sg p k) (sg p i) = true))
 | 0, l, r, hl, hr, hf, a, b => ⟨by omega, a, fun i h1 h2 => b i (by omega) h2⟩
 | f + 1, l, r, hl, hr, hf, a, b => by
  unfold kas_place
  by_cases e : l ≥ r
  ·rw [if_pos e]
   exact ⟨by omega, a, fun i h1 h2 => b i (by omega) h2⟩
  ·rw [if_neg e]
   refine ⟨h.bnd hk, h.bnd (by omega), ?_⟩
   cases c : lt (sg p k) (sg p ((l + r) / 2)) with
   | true =>
    simp only [c, if_true]
    refine zh7 O h hk u f l ((l + r) / 2) (by omega) (by omega) (by omega) a fun i h1 h2 => ?_
    by_cases e2 : i = (l + r) / 2
    ·rw [e2]; exact c
    ·exact O.trn _ (sg p ((l + r) / 2)) _ (h.bnd hk) (h.bnd (by omega)) (h.bnd (by omega)) c (u _ _ (by omega) h2)
   | false =>
    simp only [c, xbk, if_false]
    have c' := O.tot _ _ (h.bnd hk) (h.bnd (show (l + r) / 2 < n by omega)) (h.inj hk (show (l + r) / 2 < n by omega) (by omega)) c
    refine zh7 O h hk u f ((l + r) / 2 + 1) r (by omega) hr (by omega) (fun i h1 => ?_) b
    by_cases e2 : i = (l + r) / 2
    ·rw [e2]; exact c'
    ·exact O.trn _ (sg p ((l + r) / 2)) _ (h.bnd (by omega)) (h.bnd (by omega)) (h.bnd hk) (u _ _ (by omega) (by omega)) c'
theorem zrv (O : zpk n lt) : ∀ (f : Nat) (p : Array Nat) (k : Nat), k + f = n -> 1 <= k -> SIp n p -> Up lt p k -> TW n lt (kas_bin f p k) (fun r => SIp n r /\ Up lt r n)
 | 0, p, k, e, h1, h, u => by
  have : k = n := by omega
  subst this
  exact ⟨h, u⟩
 | f + 1, p, k, e, h1, h, u => by
  unfold kas_bin
  refine TW.bind _ (TW.mono (fun m q => ?_) _ (zh7 O h (by omega) u k 0 k (xbt _) (xaj _) (by omega) (fun i hi => by omega) (fun i h1 h2 => by omega)))
  obtain ⟨q1, q2, q3⟩ := q
  refine zrv O f _ (k + 1) (by omega) (by omega) (h.bub k (k - m)) fun i j hij hj => ?_
  have e : ∀ i, sg (bubble p k (k - m)) i = if i = m then sg p k else if m < i /\ i <= k then sg p (i - 1) else sg p i := fun i => by
   have hb := getElem?_bubble (xs := p) (src := k) (by rw [h.size]; omega) (k - m) (by omega) i
   rw [show k - (k - m) = m by omega] at hb
   by_cases c1 : i = m
   ·rw [if_pos c1] at hb ⊢; exact zqg hb
   ·rw [if_neg c1] at hb ⊢
    by_cases c2 : m < i /\ i <= k
    ·rw [if_pos c2] at hb ⊢; exact zqg hb
    ·rw [if_neg c2] at hb ⊢; exact zqg hb
  rw [e, e]
  repeat' split
  all_goals first | omega | skip
  all_goals first | exact u _ _ (by omega) (by omega) | skip
  ·exact q3 _ (by omega) (by omega)
  ·exact q2 _ (by omega)
theorem zsP (O : zpk n lt) (h2 : 2 <= n) : TW n lt (kas_sort n) (fun p => SIp n p /\ Up lt p n) := by
 unfold kas_sort
 refine TW.bind _ (TW.mono (fun r q => ?_) _ (zqi O ⟨by simp⟩ (by omega)))
 obtain ⟨q1, q2, q3, q4⟩ := q
 by_cases e : r.1 < n
 ·rw [if_pos e, show max r.1 1 = r.1 by omega]
  exact zrv O _ _ _ (by omega) q1 q3 q4
 ·rw [if_neg e]
  have : r.1 = n := by omega
  rw [this] at q4
  exact ⟨q3, q4⟩
end
end DL
section
set_option maxHeartbeats 1000000
namespace DL
open L2 PySem.W PyProof.Rows
def zdQ : List Int -> List Int -> Bool
 | [], [] => false
 | [], _ :: _ => true
 | _ :: _, [] => false
 | x :: xs, y :: ys => bif x == y then zdQ xs ys else decide (x < y)
theorem zh8 : ∀ (xs ys : List Int), xs ≠ ys -> zdQ xs ys = false -> zdQ ys xs = true
 | [], [], h, _ => absurd rfl h
 | [], _ :: _, _, h => by simp [zdQ] at h
 | _ :: _, [], _, _ => rfl
 | x :: xs, y :: ys, h, e => by
  unfold zdQ at e ⊢
  by_cases c : x = y
  ·subst c
   simp only [beq_self_eq_true, cond_true] at e ⊢
   exact zh8 xs ys (fun q => h (by rw [q])) e
  ·have c1 : (x == y) = false := by simpa using c
   have c2 : (y == x) = false := by simpa using fun q : y = x => c q.symm
   simp only [c1, c2, cond_false, decide_eq_false_iff_not, decide_eq_true_eq] at e ⊢
   omega
theorem zh9 : ∀ (xs ys : List Int), zdQ xs ys = true -> zdQ ys xs = false
 | [], [], h => by simp [zdQ] at h
 | [], _ :: _, _ => rfl
 | _ :: _, [], h => by simp [zdQ] at h
 | x :: xs, y :: ys, e => by
  unfold zdQ at e ⊢
  by_cases c : x = y
  ·subst c
   simp only [beq_self_eq_true, cond_true] at e ⊢
   exact zh9 xs ys e
  ·have c1 : (x == y) = false := by simpa using c
   have c2 : (y == x) = false := by simpa using fun q : y = x => c q.symm
   simp only [c1, c2, cond_false, decide_eq_false_iff_not, decide_eq_true_eq] at e ⊢
   omega
theorem zia : ∀ (xs ys zs : List Int), zdQ xs ys = true -> zdQ ys zs = true -> zdQ xs zs = true
 | [], [], _, h, _ => by simp [zdQ] at h
 | _ :: _, [], _, h, _ => by simp [zdQ] at h
 | _, _ :: _, [], _, h => by simp [zdQ] at h
 | [], _ :: _, _ :: _, _, _ => rfl
 | x :: xs, y :: ys, z :: zs, e, f => by
  unfold zdQ at e f ⊢
  by_cases c : x = y
  ·subst c
   simp only [beq_self_eq_true, cond_true] at e
   by_cases d : x = z
   ·subst d
    simp only [beq_self_eq_true, cond_true] at f ⊢
    exact zia xs ys zs e f
   ·have d1 : (x == z) = false := by simpa using d
    simp only [d1, cond_false] at f ⊢
    exact f
  ·have c1 : (x == y) = false := by simpa using c
   simp only [c1, cond_false, decide_eq_true_eq] at e
   by_cases d : y = z
   ·subst d
    simp only [c1, cond_false, decide_eq_true_eq]
    exact e
   ·have d1 : (y == z) = false := by simpa using d
    simp only [d1, cond_false, decide_eq_true_eq] at f
    have g1 : (x == z) = false := by simpa using (show x ≠ z by omega)
    simp only [g1, cond_false, decide_eq_true_eq]
    omega
section
variable {prog : Program} {w : World} {A : Around} {E : Value -> Shared -> Prop} {s : Shared}
theorem zjB {b fin : Bool} {Q : Bool -> Shared -> Prop} : ∀ {ks ls : List Int} {xs ys : List Value} (i : Nat), PySem.ItemsAre (intKind prog w) ks xs -> PySem.ItemsAre (intKind prog w) ls ys -> fin = decide (xs.length < ys.length) -> Q (zdQ ks ls) s -> KatLex prog w A b fin Q (xs.zip ys) i s
 | [], [], _, _, i, .nil, .nil, e, q => by
  refine kat_nil ?_
  rw [e]; exact q
 | [], _ :: _, _, _, i, .nil, .cons _ _, e, q => by
  refine kat_nil ?_
  rw [e, decide_eq_true (by simp)]; exact q
 | _ :: _, [], _, _, i, .cons _ _, .nil, e, q => by
  refine kat_nil ?_
  rw [e, decide_eq_false (by simp)]; exact q
 | k :: ks, l :: ls, _, _, i, .cons h1 r1, .cons h2 r2, e, q => by
  obtain ⟨t, rfl⟩ := Value.isInt_shape h1
  obtain ⟨u, rfl⟩ := Value.isInt_shape h2
  rw [List.zip_cons_cons]
  refine kat_cons (wpAny_eqBool_int ?_)
  refine kat_go (fun he => kat_yes ?_) (fun he => kat_no ?_)
  ·refine zjB (i + 1) r1 r2 (by rw [e]; simp) ?_
   unfold zdQ at q
   rw [he, cond_true] at q
   exact q
  ·unfold zdQ at q
   rw [he, cond_false] at q
   cases hb : (b && i == 0) with
   | true => exact oneLt_int q
   | false => exact kat_one _ _ (lt_int q)
theorem zsQ {b : Bool} {Q : Bool -> Shared -> Prop} {ks ls : List Int} {x y : Addr} (hx : IsTupleKey (intKind prog w) s.heap ks x) (hy : IsTupleKey (intKind prog w) s.heap ls y) (q : Q (zdQ ks ls) s) : wpAny (model prog w) A (keyLt' (tuples' b) (.ref x) (.ref y)) Q E s := by
 obtain ⟨ox, xs, n, g1, c1, d1, i1⟩ := hx
 obtain ⟨oy, ys, k, g2, c2, d2, i2⟩ := hy
 exact kat_lt g1 d1 g2 d2 (zjB 0 i1 i2 (by simp) q)
def zds (prog : Program) (w : World) (h : Heap) : List Value -> List (List Int) -> Prop
 | [], [] => True
 | v :: vs, ks :: kss => (∃ c, v = .ref c /\ IsTupleKey (intKind prog w) h ks c /\ ks ≠ []) /\ zds prog w h vs kss
 | _, _ => False
theorem zds.len {h : Heap} : ∀ {vs : List Value} {kss : List (List Int)}, zds prog w h vs kss -> vs.length = kss.length
 | [], [], _ => rfl
 | [], _ :: _, t => t.elim
 | _ :: _, [], t => t.elim
 | _ :: vs, _ :: kss, t => by rw [xap, xap, zds.len t.2]
theorem zds.get {h : Heap} : ∀ {vs : List Value} {kss : List (List Int)}, zds prog w h vs kss -> ∀ i, i < vs.length -> ∃ c, vs.getD i Value.none = .ref c /\ IsTupleKey (intKind prog w) h (kss.getD i []) c
 | [], [], _, i, hi => absurd hi (by simp)
 | [], _ :: _, t, _, _ => t.elim
 | _ :: _, [], t, _, _ => t.elim
 | v :: vs, ks :: kss, t, 0, _ => by obtain ⟨c, e1, e2, _⟩ := t.1; exact ⟨c, e1, e2⟩
 | v :: vs, ks :: kss, t, i + 1, hi => by
  obtain ⟨c, e1, e2⟩ := zds.get t.2 i (by simpa using hi)
  exact ⟨c, by simpa using e1, by simpa using e2⟩
theorem zds.mono {h h' : Heap} (k : ∀ c ks, IsTupleKey (intKind prog w) h ks c -> IsTupleKey (intKind prog w) h' ks c) : ∀ {vs : List Value} {kss : List (List Int)}, zds prog w h vs kss -> zds prog w h' vs kss
 | [], [], _ => trivial
 | [], _ :: _, t => t.elim
 | _ :: _, [], t => t.elim
 | v :: vs, ks :: kss, t => by
  obtain ⟨⟨c, e1, e2, e3⟩, t2⟩ := t
  exact ⟨⟨c, e1, k _ _ e2, e3⟩, zds.mono k t2⟩
theorem zds.tups : ∀ {vs : List Value} {kss : List (List Int)}, zds prog w s.heap vs kss -> ∃ fs, KatTups s.heap vs fs /\ fs.length = vs.length /\ ∀ v ∈ fs, Looks (model prog w) s.heap (typeOf v) (.type "int")
 | [], [], _ => ⟨[], KatTups.nil, rfl, fun v hv => by cases hv⟩
 | [], _ :: _, t => t.elim
 | _ :: _, [], t => t.elim
 | v :: vs, ks :: kss, t => by
  obtain ⟨⟨c, rfl, ⟨o, its, n, g1, g2, g3, g4⟩, e3⟩, t2⟩ := t
  obtain ⟨fs, a1, a2, a3⟩ := zds.tups t2
  obtain ⟨l⟩ := its
  have g4' : PySem.ItemsAre (intKind prog w) ks l := g4
  clear g4
  cases g4' with
  | nil => exact absurd rfl e3
  | cons h1 r1 =>
   obtain ⟨t, rfl⟩ := Value.isInt_shape h1
   refine ⟨Value.int _ t :: fs, KatTups.cons g1 g2 g3 (by rfl) a1, by rw [xap, xap, a2], fun v hv => ?_⟩
   rcases xaf.mp hv with rfl | hv
   ·exact .now
   ·exact a3 v hv
theorem zqj {kss : List (List Int)} (nd : kss.Nodup) : zpk kss.length (fun i j => zdQ (kss.getD i []) (kss.getD j [])) where
 tot := fun i j hi hj e q => zh8 _ _ (fun z => by
  have go : ∀ i j, i < j -> j < kss.length -> kss.getD i [] ≠ kss.getD j [] := fun i j hij hj z => by
   have l1 : i < kss.length := by omega
   have := xb5.mp nd i j l1 hj hij
   rw [xb3, xb3, xao l1, xao hj] at z
   exact this z
  rcases Nat.lt_or_gt_of_ne e with l | l
  ·exact go i j l hj z
  ·exact go j i l hi z.symm) q
 asy := fun i j _ _ q => zh9 _ _ q
 trn := fun i j k _ _ _ q r => zia _ _ _ q r
end
end DL
end
section
set_option maxHeartbeats 2000000
namespace DL
open L2 PySem.W PyProof.Rows
section
variable {prog : Program} {w : World} {A : Around} {E : Value -> Shared -> Prop} {s : Shared}
theorem zoZ {h h' : Heap} (kp : ∀ b u, (∃ xs n, u.data = .seq xs n /\ u.cls = .type "tuple") -> h.get? b = some u -> h'.get? b = some u) (c : Addr) (ks : List Int) (k : IsTupleKey (intKind prog w) h ks c) : IsTupleKey (intKind prog w) h' ks c := by
 obtain ⟨o, its, n, g1, g2, g3, g4⟩ := k
 exact ⟨o, its, n, kp c o ⟨its, n, g3, g2⟩ g1, g2, g3, g4⟩
theorem zo0 : ∀ (vs : List Value), vs.length < 2 -> Array.map (fun x => x.2) (vs.toArray.zip vs.toArray) = ((List.range vs.length).toArray.toList.map fun i => vs.getD i Value.none).toArray
 | [], _ => by simp
 | [v], _ => by simp [List.range_succ]
 | _ :: _ :: _, h => absurd h (by simp)
theorem zg4 {a : Addr} {vs : List Value} {kss : List (List Int)} {n : Nat} {P : PySem.Fin -> Shared -> Prop} (ho : s.heap.get? a = some (seqObj "list" vs.toArray n)) (ht : zds prog w s.heap vs kss) (nd : kss.Nodup) (h64 : vs.length < 64)
  (h : ∀ p : Array Nat, SIp kss.length p -> Up (fun i j => zdQ (kss.getD i []) (kss.getD j [])) p kss.length -> P (.done (.ret .none)) { s with heap := sortedHeap s.heap a vs (p.toList.map fun i => vs.getD i Value.none).toArray }) :
  wpAny (model prog w) A (Builtin.«list.sort» ⟨[.ref a], []⟩) P E s := by
 rw [list_sort_plain]
 have ha : a < s.heap.objs.size := xai ho
 refine wpAny_bind (listItems_at ho rfl ?_)
 refine wpAny_bind (listUpdate_at ho rfl ?_ (by rw [xag, sizeLine_eq]; omega) (xbt _))
 obtain ⟨e1, ho1⟩ : ∃ e1, (s.heap.update a (Obj.mapSeq fun _ => (#[] : Array Value))).get? a = some (seqObj "list" #[] e1) := ⟨_, get?_update_seq ho (fun _ => #[])⟩
 refine wpAny_bind (seqEpoch_at ho1 rfl ?_)
 refine wpAny_bind (wpAny_newTuple ?_ (by show vs.length <= _; rw [sizeLine_eq]; omega))
 refine wpAny_bind (wpAny_newList ?_ (xbt _))
 refine wpAny_holding ?_
 have ho6 : (((s.heap.update a (Obj.mapSeq fun _ => (#[] : Array Value))).push (seqObj "tuple" vs.toArray 0)).push (seqObj "list" #[] 0)).get? a = some (seqObj "list" #[] e1) :=
  xaa _ (xaa _ ho1)
 have kp : ∀ c ks, IsTupleKey (intKind prog w) s.heap ks c -> IsTupleKey (intKind prog w) (((s.heap.update a (Obj.mapSeq fun _ => (#[] : Array Value))).push (seqObj "tuple" vs.toArray 0)).push (seqObj "list" #[] 0)) ks c :=
  zoZ fun b u hu e => xaa _ (xaa _ (by
   obtain ⟨xs, m, _, q2⟩ := hu
   have hb : b ≠ a := fun q => by
    subst q
    rw [ho] at e
    cases e
    exact absurd (show Value.type "list" = Value.type "tuple" from q2) (by decide)
   rw [xc7 _ _ _ _ hb]; exact e))
 show wpAny (model prog w) A _ P E { s with heap := ((s.heap.update a (Obj.mapSeq fun _ => (#[] : Array Value))).push (seqObj "tuple" vs.toArray 0)).push (seqObj "list" #[] 0) }
 dsimp only
 have hl := ht.len
 by_cases h2 : vs.toArray.size < 2
 ·rw [if_pos h2, if_pos h2]
  refine wpAny_bind (wpAny_pure ?_)
  rw [StateT.run_pure]
  refine wpAny_bind (wpAny_pure ?_)
  dsimp only
  refine wpAny_bind (seqEpoch_at ho6 rfl ?_)
  refine wpAny_bind (listUpdate_at ho6 rfl ?_ (hsz2 := by rw [Array.size_map]; show (pairsOf vs).size <= _; rw [pairsOf_size, sizeLine_eq]; omega))
  simp only [bne_self_eq_false, xbk, if_false]
  rw [xag] at h2
  have e : Array.map (fun x => x.2) (arrOf (SortSt.mk' general' (vs.toArray.zip vs.toArray) #[] 7 none)) = ((List.range kss.length).toArray.toList.map fun i => vs.getD i Value.none).toArray := by
   show Array.map (fun x => x.2) (vs.toArray.zip vs.toArray) = _
   rw [<- hl]
   exact zo0 vs h2
  have hf := h (List.range kss.length).toArray ⟨by simp⟩ (fun i j _ _ => by omega)
  rw [<- e] at hf
  exact wpAny_pure hf
 ·rw [if_neg h2, if_neg h2]
  rw [xag] at h2
  have ht' := ht.mono kp
  obtain ⟨fs, f1, f2, f3⟩ := zds.tups (s := { s with heap := ((s.heap.update a (Obj.mapSeq fun _ => (#[] : Array Value))).push (seqObj "tuple" vs.toArray 0)).push (seqObj "list" #[] 0) }) ht'
  refine wpAny_bind (kat_kind f1 (by omega) f3 rfl ?_)
  refine wpAny_bind (wpAny_mono (kat_run (vs := vs) (Q := fun st' s' => s' = { s with heap := ((s.heap.update a (Obj.mapSeq fun _ => (#[] : Array Value))).push (seqObj "tuple" vs.toArray 0)).push (seqObj "list" #[] 0) } /\ ∃ p : Array Nat, p.size = vs.length /\ arrOf st' = p.map (kas_item (vs.toArray.zip vs.toArray)) /\ failedOf st' = none /\ SIp kss.length p /\ Up (fun i j => zdQ (kss.getD i []) (kss.getD j [])) p kss.length)
   (G := fun p s' => s' = { s with heap := ((s.heap.update a (Obj.mapSeq fun _ => (#[] : Array Value))).push (seqObj "tuple" vs.toArray 0)).push (seqObj "list" #[] 0) } /\ SIp kss.length p /\ Up (fun i j => zdQ (kss.getD i []) (kss.getD j [])) p kss.length)
   rfl (by omega) h64 (fun p' st' s' a1 a2 a3 a4 => ⟨a4.1, p', a1, a2, a3, a4.2⟩) ?_) ?_ fun _ _ e => e)
  ·rw [hl]
   refine TW.wp (fun i j C hi hj hC => ?_) (fun p hp => ⟨rfl, hp⟩) _ (zsP (zqj nd) (by omega))
   unfold kas_ask
   obtain ⟨c1, x1, x2⟩ := ht'.get i (by omega)
   obtain ⟨c2, y1, y2⟩ := ht'.get j (by omega)
   rw [x1, y1]
   exact zsQ x2 y2 hC
  ·rintro ⟨⟨⟩, st'⟩ s' ⟨rfl, p, hp, har, hf, hi, hu⟩
   dsimp only
   refine wpAny_bind (seqEpoch_at ho6 rfl ?_)
   have e := kat_snds rfl har
   refine wpAny_bind (listUpdate_at ho6 rfl ?_ (hsz2 := by rw [e, xag, xal, xan, hp, sizeLine_eq]; omega))
   rw [hf]
   simp only [bne_self_eq_false, xbk, if_false]
   rw [e]
   exact wpAny_pure (h p hi hu)
end
end DL
end
section
set_option maxHeartbeats 2000000
namespace DL
open L2 PySem.W PyProof.Rows
def zs7 (k : List Int) : List (List Int) -> List (List Int)
 | [] => [k]
 | x :: xs => bif zdQ k x then k :: x :: xs else x :: zs7 k xs
def zkq : List (List Int) -> List (List Int)
 | [] => []
 | x :: xs => zs7 x (zkq xs)
theorem zgx (k : List Int) : ∀ xs, (zs7 k xs).Perm (k :: xs)
 | [] => List.Perm.refl _
 | x :: xs => by
  unfold zs7
  cases zdQ k x with
  | true => exact List.Perm.refl _
  | false => exact ((zgx k xs).cons x).trans (List.Perm.swap _ _ _)
theorem zde : ∀ xs, (zkq xs).Perm xs
 | [] => List.Perm.refl _
 | x :: xs => (zgx x _).trans ((zde xs).cons x)
theorem zlX (k : List Int) : ∀ xs, xs.Pairwise (fun a b => zdQ a b = true) -> k ∉ xs -> (zs7 k xs).Pairwise (fun a b => zdQ a b = true)
 | [], _, _ => List.pairwise_singleton _ _
 | x :: xs, h, hk => by
  unfold zs7
  obtain ⟨h1, h2⟩ := xbj.mp h
  cases c : zdQ k x with
  | true =>
   refine xbj.mpr ⟨fun y hy => ?_, h⟩
   rcases xaf.mp hy with rfl | hy
   ·exact c
   ·exact zia _ _ _ c (h1 y hy)
  | false =>
   refine xbj.mpr ⟨fun y hy => ?_, zlX k xs h2 fun q => hk (xab _ q)⟩
   rcases xaf.mp ((zgx k xs).mem_iff.mp hy) with rfl | hy
   ·exact zh8 _ _ (fun q => hk (q ▸ xae)) c
   ·exact h1 y hy
theorem zf0 : ∀ xs, xs.Nodup -> (zkq xs).Pairwise (fun a b => zdQ a b = true)
 | [], _ => List.Pairwise.nil
 | x :: xs, h => by
  obtain ⟨h1, h2⟩ := xbn.mp h
  exact zlX x _ (zf0 xs h2) fun q => h1 ((zde xs).mem_iff.mp q)
theorem zib : ∀ {xs ys : List (List Int)}, xs.Perm ys -> xs.Pairwise (fun a b => zdQ a b = true) -> ys.Pairwise (fun a b => zdQ a b = true) -> xs = ys
 | [], ys, p, _, _ => p.nil_eq
 | x :: xs, [], p, _, _ => absurd p.length_eq (by simp)
 | x :: xs, y :: ys, p, h1, h2 => by
  obtain ⟨a1, a2⟩ := xbj.mp h1
  obtain ⟨b1, b2⟩ := xbj.mp h2
  have e : x = y := by
   refine xaw fun ne => ?_
   have m1 : x ∈ ys := (xaf.mp (p.mem_iff.mp xae)).resolve_left ne
   have m2 : y ∈ xs := (xaf.mp (p.mem_iff.mpr xae)).resolve_left fun q => ne q.symm
   have := zh9 _ _ (a1 y m2)
   rw [b1 x m1] at this
   exact absurd this (by decide)
  subst e
  rw [zib (List.Perm.cons_inv p) a2 b2]
theorem zgy {α : Type} [DecidableEq α] : ∀ {xs ys : List α}, xs.Nodup -> (∀ x ∈ xs, x ∈ ys) -> ys.length = xs.length -> ys.Perm xs
 | [], ys, _, _, e => by rw [List.eq_nil_of_length_eq_zero e]
 | x :: xs, ys, nd, h, e => by
  obtain ⟨h1, h2⟩ := xbn.mp nd
  have hx := h x xae
  refine (List.perm_cons_erase hx).trans (List.Perm.cons x (zgy h2 (fun z hz => ?_) ?_))
  ·exact (List.mem_erase_of_ne (fun q : z = x => h1 (q ▸ hz))).mpr (h z (xab _ hz))
  ·rw [List.length_erase_of_mem hx, e]; rfl
theorem zmE {α : Type} (d : α) (xs : List α) : (List.range xs.length).map (fun i => xs.getD i d) = xs := by
 refine List.ext_getElem (by simp) fun i h1 h2 => ?_
 simp [h2]
theorem zkr {kss : List (List Int)} (nd : kss.Nodup) {p : Array Nat} (hp : SIp kss.length p) (hu : Up (fun i j => zdQ (kss.getD i []) (kss.getD j [])) p kss.length) : p.toList.map (fun i => kss.getD i []) = zkq kss := by
 have pm : (p.toList.map (fun i => kss.getD i [])).Perm kss := by
  have := hp.perm.map (fun i => kss.getD i [])
  rwa [zmE] at this
 refine zib (pm.trans (zde kss).symm) ?_ (zf0 kss nd)
 rw [xb5]
 intro i j hi hj hij
 rw [xal, xan, hp.size] at hi hj
 have e : ∀ k (hk : k < kss.length) (hk' : k < (p.toList.map (fun i => kss.getD i [])).length), (p.toList.map (fun i => kss.getD i []))[k] = kss.getD (sg p k) [] := fun k hk hk' => by
  rw [List.getElem_map]
  congr 1
  have hk2 : k < p.size := by rw [hp.size]; exact hk
  simp [sg, hk2]
 rw [e i hi, e j hj]
 exact hu i j hij hj
section
variable {prog : Program} {w : World} {A : Around} {E : Value -> Shared -> Prop} {s : Shared} {T : String} {r d : Addr} {n : Nat} {P : Nat -> Value -> Prop} {OK : Heap -> Prop}
theorem zks {vs : List Value} {kss : List (List Int)} {h' : Heap} {tk : Nat} {Q : PySem.Fin -> Shared -> Prop} (hk : ∀ b o, s.heap.get? b = some o -> h'.get? b = some o) (ht : zds prog w s.heap vs kss) (nd : kss.Nodup) (h64 : vs.length < 64)
  (h : ∀ (p : Array Nat) (D : Addr) (h2 : Heap) (e : Nat), SIp kss.length p -> Up (fun i j => zdQ (kss.getD i []) (kss.getD j [])) p kss.length -> s.heap.get? D = none -> (∀ b o, s.heap.get? b = some o -> h2.get? b = some o) ->
   h2.get? D = some (seqObj "list" (p.toList.map fun i => vs.getD i Value.none).toArray e) -> Q (.done (.ret (.ref D))) { s with heap := h2, toks := tk }) :
  wpAny (model prog w) A (do
   let l <- newList vs
   let _ <- holding [l] (call (.builtin "list.sort") [l])
   ret l) Q E { s with heap := h', toks := tk } := by
 refine wpAny_bind (wpAny_newList ?_ (by rw [sizeLine_eq]; omega))
 have hoL : (h'.push (seqObj "list" vs.toArray 0)).get? h'.objs.size = some (seqObj "list" vs.toArray 0) := xau _ rfl
 show wpAny _ _ _ _ _ { s with heap := h'.push (seqObj "list" vs.toArray 0), toks := tk }
 refine wpAny_bind (wpAny_holding (wpAny_call_entry slot_list_sort ⟨_, hoL, rfl⟩ entry_list_sort ?body (args_list_sort _)))
 have kp : ∀ b o, s.heap.get? b = some o -> (h'.push (seqObj "list" vs.toArray 0)).get? b = some o := fun b o e => xaa _ (hk b o e)
 refine zg4 (s := { s with heap := h'.push (seqObj "list" vs.toArray 0), toks := tk }) hoL (ht.mono (zoZ fun b u _ e => kp b u e)) nd h64 fun p hp hu => ?_
 obtain ⟨e1, ho1⟩ : ∃ e1, ((h'.push (seqObj "list" vs.toArray 0)).update h'.objs.size (Obj.mapSeq fun _ => (#[] : Array Value))).get? h'.objs.size = some (seqObj "list" #[] e1) := ⟨_, get?_update_seq hoL (fun _ => #[])⟩
 have ho2 : ((((h'.push (seqObj "list" vs.toArray 0)).update h'.objs.size (Obj.mapSeq fun _ => (#[] : Array Value))).push (seqObj "tuple" vs.toArray 0)).push (seqObj "list" #[] 0)).get? h'.objs.size = some (seqObj "list" #[] e1) := xaa _ (xaa _ ho1)
 obtain ⟨e2, ho3⟩ : ∃ e2, (sortedHeap (h'.push (seqObj "list" vs.toArray 0)) h'.objs.size vs (p.toList.map fun i => vs.getD i Value.none).toArray).get? h'.objs.size = some (seqObj "list" (p.toList.map fun i => vs.getD i Value.none).toArray e2) := ⟨_, get?_update_seq ho2 (fun _ => _)⟩
 have hno : s.heap.get? h'.objs.size = none := by
  cases q : s.heap.get? h'.objs.size with
  | none => rfl
  | some o => exact absurd (xai (hk _ o q)) (xbh _)
 refine ⟨_, rfl, wpAny_pure (h p h'.objs.size _ e2 hp hu hno (fun b o e => ?_) ho3)⟩
 have hb : b ≠ h'.objs.size := xa0 (xai (hk b o e))
 unfold sortedHeap
 rw [xc7 _ _ _ _ hb]
 refine xaa _ (xaa _ ?_)
 rw [xc7 _ _ _ _ hb]
 exact kp b o e
theorem zmF {vs₀ : List Value -> Prop} {Q : Value -> Shared -> Prop} (K : KdlSrc prog w T r d n P OK) (hh : A.handled = none) (hok : OK s.heap) (h64 : n < 64)
  (hk : ∀ vs : List Value, vs.length = n -> (∀ j v, vs[j]? = some v -> P j v) -> ∃ kss, zds prog w s.heap vs kss /\ kss.Nodup /\
   ∀ (p : Array Nat) (D : Addr) (h2 : Heap) (tk e : Nat), SIp kss.length p -> Up (fun i j => zdQ (kss.getD i []) (kss.getD j [])) p kss.length -> s.heap.get? D = none -> (∀ b o, s.heap.get? b = some o -> h2.get? b = some o) ->
    h2.get? D = some (seqObj "list" (p.toList.map fun i => vs.getD i Value.none).toArray e) -> Q (.ref D) { s with heap := h2, toks := tk }) :
  wpAny (model prog w) A (call (.builtin "sorted") [.ref r]) Q E s := by
 refine Calls.call_function_entry kind_sorted plain_sorted entry_sorted (args_sorted1 _) ?_
 unfold Builtin.«sorted»
 refine wpAny_bind (m := checkCount "sorted" 1 1 _) (wpAny_pure ?_)
 refine wpAny_bind (kdu_collect (A := A.in1) K hh hok (by rw [sizeLine_eq]; omega) fun h' tk acc kp hacc => ?_)
 have hl : acc.toList.length = n := by rw [xan]; exact hacc.1
 obtain ⟨kss, t1, t2, t3⟩ := hk acc.toList hl (fun j v e => hacc.2 j v (by rw [<- xaq]; exact e))
 refine zks kp t1 t2 (by omega) (fun p D h2 e a1 a2 a3 a4 a5 => ⟨_, rfl, t3 p D h2 tk e a1 a2 a3 a4 a5⟩)
end
end DL
end
section
set_option maxHeartbeats 2000000
namespace DL
open L2 PyProof.Rows
section
variable {X : Cx} {E : XK}
theorem zws {pins : List (Addr × Obj)} {Z : L2.St} {H : Hp} {s : Shared} {h' : Heap} {a : Addr} {o : HO} {t' : Nat} (I : Inv X pins Z H s) (k : ∀ b u, s.heap.get? b = some u -> h'.get? b = some u) (hp : s.heap.get? a = none) (new : zdc X.prog X.w (upd H a o) h' a o) :
  Inv X pins Z (upd H a o) { s with heap := h', toks := t' } /\ H a = none := by
 have hn : H a = none := by
  cases q : H a with
  | none => rfl
  | some u =>
   obtain ⟨ob, e⟩ : ∃ ob, s.heap.get? a = some ob := by
    have := I.hok a u q
    clear new
    induction u with
    | lst xs => obtain ⟨z, its, n, r, e⟩ := this; exact ⟨_, e⟩
    | tup xs => obtain ⟨z, its, r, ob, e, c⟩ := this; exact ⟨_, e⟩
    | dK kvs => obtain ⟨z, y, vs, r, ob, es, ep, e, c⟩ := this; exact ⟨_, e⟩
    | dT kvs => obtain ⟨z, y, xs, r, ob, es, ep, e, c⟩ := this; exact ⟨_, e⟩
    | set S n => obtain ⟨ob, es, ep, t, e, c⟩ := this; exact ⟨_, e⟩
    | ins C dx fs => obtain ⟨d, z, ne, e, r⟩ := this; exact ⟨_, e⟩
    | own y => exact this
    | xd fs => obtain ⟨mA, ⟨od, es, ep, e, c⟩, r⟩ := this; exact ⟨_, e⟩
    | rng lo hi => obtain ⟨t, u, v, e⟩ := this; exact ⟨_, e⟩
    | frz ob u ih => exact ⟨_, this.1⟩
    | tbl ps => exact ⟨_, this⟩
    | met f y => exact ⟨_, this⟩
    | ext φ => exact this.2.1
   rw [hp] at e; cases e
 have ne : ∀ b u, s.heap.get? b = some u -> b ≠ a := fun b u q z => by subst z; rw [hp] at q; cases q
 refine ⟨I.un ⟨fun b u q _ _ _ => k b u q, fun b u q _ _ _ => ⟨u.slots, k b u q⟩, fun b u q n _ => by rw [zap (ne b u q)]; exact n, fun b u q _ => ⟨u, k b u q⟩,
  fun b xs q => by rw [zap (zal q hn)]; exact q, fun b u xs q => by rw [zap (zal q hn)]; exact q, fun b ps q => ⟨#[], by rw [zap (zal q hn), q]; simp⟩⟩ fun b u e => ?_, hn⟩
 by_cases hb : b = a
 ·subst hb; rw [zav] at e; cases e; exact new
 ·rw [zap hb] at e
  exact (I.hok b u e).stay (fun c v _ q => k c v q) (fun c q => by rw [zap (zal q hn)]; exact q) fun c xs q => by rw [zap (zal q hn)]; exact q
theorem zjC {prog : Program} {w : World} : ∀ {ks ls : List Int} {vs : List Value}, PySem.ItemsAre (intKind prog w) ks vs -> PySem.ItemsAre (intKind prog w) ls vs -> ks = ls
 | _, _, _, .nil, .nil => rfl
 | _, _, _, .cons h1 r1, .cons h2 r2 => by
  rw [(intKind prog w).inj _ _ _ h1 h2, zjC r1 r2]
theorem zlY {prog : Program} {w : World} {h : Heap} {ks ls : List Int} {c : Addr} (h1 : IsTupleKey (intKind prog w) h ks c) (h2 : IsTupleKey (intKind prog w) h ls c) : ks = ls := by
 obtain ⟨o, its, n, g1, g2, g3, g4⟩ := h1
 obtain ⟨o', its', n', g1', g2', g3', g4'⟩ := h2
 rw [g1] at g1'; cases g1'
 rw [g3] at g3'; cases g3'
 exact zjC g4 g4'
theorem zo1 {pins : List (Addr × Obj)} {Z : L2.St} {H : Hp} {s : Shared} (I : Inv X pins Z H s) {c : Addr} {ks : List Int} (h : SqT X.K H c (ks.map V.int)) : IsTupleKey (intKind X.prog X.w) s.heap ks c := by
 obtain ⟨its, rv, ⟨ob, g1, g2, n, g3⟩, _⟩ := I.tuple h
 exact ⟨ob, its.toArray, n, g1, g2, g3, by rw [xcj]; exact zh4 rv⟩
theorem zco (keys : Nat -> List Int) : ∀ n, (zg0 keys n).Nodup
 | 0 => List.Pairwise.nil
 | n + 1 => by
  show (zj3 (zg0 keys n) (keys n)).Nodup
  unfold zj3
  split
  ·exact zco keys n
  ·exact xbn.mpr ⟨by assumption, zco keys n⟩
def zuT (w : World) (K : xFg) (G : Hp) (a : Addr) (kss : List (List Int)) : Heap -> Prop := fun h => ∃ (o : Obj) (es : Array (Int × Value)) (ep : Nat) (t : SetTable) (kf : Value -> List Int), h.get? a = some o /\ o.ExactSet /\ o.data = .set es ep t /\ SetTable.fits t es.size = true /\ t.plain = true /\ t.led = (!w.params.followText "set-order") /\ t.place.toList.Pairwise (· < ·) /\
 (∀ e ∈ es.toList, ∃ c, e.2 = .ref c /\ SqT K G c ((kf e.2).map V.int)) /\ ((es.toList.map (·.2)).map kf).Perm kss
def zwt (w : World) (K : xFg) : List V -> Hp -> VK -> Prop := fun xs H Q => ∃ (p : Addr) (ys : List V) (kss : List (List Int)) (G : Hp), xs = [.ref p] /\ SqL K H p ys /\ zaI G H /\ zbt K G ys kss /\ (zci kss).length <= 18 /\ ∀ a, H a = none -> Q (.ref a) (upd H a (.ext (zuT w K G a (zci kss))))
theorem zlZ {K : xFg} {G : Hp} : ∀ {vs : List V} {kss : List (List Int)} {us : List Value}, zbt K G vs kss -> zbf vs us -> ∀ (j : Nat) (c : Addr), us[j]? = some (Value.ref c) -> ∃ ks, SqT K G c (List.map V.int ks)
 | [], [], _, _, h, j, c, e => by cases h; simp at e
 | v :: vs, ks :: kss, _, ⟨⟨b, e1, e2⟩, t⟩, h, j, c, e => by
  cases h with
  | cons q r =>
   subst e1
   cases q
   cases j with
   | zero => simp at e; subst e; exact ⟨ks, e2⟩
   | succ j => exact zlZ t r j c (by simpa using e)
 | [], _ :: _, _, h, _, _, _, _ => h.elim
 | _ :: _, [], _, h, _, _, _, _ => h.elim
theorem zo2 {k : Nat} (hc : X.calm = true) (r : zfP k X.A) : zdd X (.type "set") (zwt X.w X.K) := by
 intro pins s Z H xs us Q I rs h
 obtain ⟨p, ys, kss, G, rfl, hq, sm, ht, h4, q⟩ := h
 obtain ⟨u, rfl, rx⟩ := zhF rs
 cases rx
 obtain ⟨its, rv, pl, hz⟩ := I.list hq
 have hlen : its.length = kss.length := by rw [<- rv.length, ht.length]
 have hsz : its.toArray.size = kss.length := by rw [xag, hlen]
 refine zjw (P := fun c => ∃ ks, SqT X.K G c (List.map V.int ks)) (I.ok.hd hc) pl.isList (by have := r.un; omega) (fun j => kss.getD j []) (by rw [hsz]; exact h4) (fun j hj => ?_) fun h2 tk S2 kp => ?_
 ·rw [xag] at hj
  obtain ⟨b, b1, b2⟩ := zkn I (ht.mono sm) rv j hj
  exact ⟨b, by rw [xb2]; exact b1, b2, zlZ ht rv j b b1⟩
 ·obtain ⟨o, es, ep, t, S⟩ := S2
  rw [hsz] at S
  have old : ∀ c ks, SqT X.K G c (List.map V.int ks) -> IsTupleKey (intKind X.prog X.w) h2 ks c := fun c ks hc => zoZ (fun b u _ e => kp b u e) c ks (zo1 I (zaI.sqT sm hc))
  have el : ∀ e ∈ es.toList, ∃ c ls, e.2 = .ref c /\ IsTupleKey (intKind X.prog X.w) h2 ls c /\ ls ∈ zci kss /\ SqT X.K G c (List.map V.int ls) := fun e he => by
   obtain ⟨c, ls, e1, e2, e3, ks, e4⟩ := S.el e he
   have := zlY e2 (old c ks e4)
   subst this
   exact ⟨c, ls, e1, e2, e3, e4⟩
  obtain ⟨kf, hkf⟩ : ∃ kf : Value -> List Int, ∀ c ls, IsTupleKey (intKind X.prog X.w) h2 ls c -> kf (.ref c) = ls := by
   classical
   refine ⟨fun v => if h : ∃ ls c, v = .ref c /\ IsTupleKey (intKind X.prog X.w) h2 ls c then h.choose else [], fun c ls hk => ?_⟩
   have hx : ∃ ls c', Value.ref c = .ref c' /\ IsTupleKey (intKind X.prog X.w) h2 ls c' := ⟨ls, c, rfl, hk⟩
   show (if h : ∃ ls c', Value.ref c = .ref c' /\ IsTupleKey (intKind X.prog X.w) h2 ls c' then h.choose else []) = ls
   rw [dif_pos hx]
   obtain ⟨c', e1, e2⟩ := hx.choose_spec
   cases e1
   exact zlY e2 hk
  have pm : ((es.toList.map (·.2)).map kf).Perm (zci kss) := by
   refine zgy (zco _ _) (fun ls hls => ?_) ?_
   ·obtain ⟨c, j, k, a1, a2, _⟩ := S.all ls hls
    have m := (xck a1).1
    rw [<- hkf c ls a2]
    exact xci (xci (f := fun e : Int × Value => e.2) m)
   ·rw [xal, xal, xan]; exact S.n
  refine ⟨.ref s.heap.objs.size, _, I.laid (t' := tk) (h' := h2) kp (xaj _) (show zdc X.prog X.w _ h2 _ (.ext (zuT X.w X.K G s.heap.objs.size (zci kss))) from ⟨⟨o, es, ep, t, kf, S.get, S.ex, S.dat, S.fits, S.pln, S.ld, S.srt, fun e he => ?_, pm⟩, ⟨o, S.get⟩, ?_⟩), rfl, q _ (I.hok.fresh (xaj _))⟩
  ·obtain ⟨c, ls, e1, e2, e3, e4⟩ := el e he
   refine ⟨c, e1, ?_⟩
   rw [e1, hkf c ls e2]; exact e4
  ·rintro h1 h3 ⟨o, es, ep, t, kf, g, r1⟩ kk
   exact ⟨o, es, ep, t, kf, kk o g, r1⟩
def zuU (w : World) (K : xFg) : List V -> Hp -> VK -> Prop := fun xs H Q => ∃ (a : Addr) (kss : List (List Int)) (G : Hp), xs = [.ref a] /\ zaI G H /\ H a = some (.ext (zuT w K G a kss)) /\ (∀ ks ∈ kss, ks ≠ []) /\ kss.Nodup /\ kss.length < 64 /\ ∀ l zs, H l = none -> zbt K G zs (zkq kss) -> Q (.ref l) (upd H l (.lst zs))
theorem zmG (hc : X.calm = true) : zdd X (.builtin "sorted") (zuU X.w X.K) := by
 intro pins s Z H xs us Q I rs h
 obtain ⟨a, kss, G, rfl, sm, hq, hne, hnd, h64, q⟩ := h
 obtain ⟨u, rfl, rx⟩ := zhF rs
 cases rx
 obtain ⟨⟨o, es, ep, t, kf, g1, g2, g3, g4, g5, g6, g7, g8, g9⟩, _⟩ := (show zdc X.prog X.w H s.heap a (.ext (zuT X.w X.K G a kss)) from I.hok a _ hq)
 have hn : es.size = kss.length := by have := g9.length_eq; simpa using this
 refine zmF (vs₀ := fun _ => True) (zsN g2 g3 g4 rfl g5 g6 g7) (I.ok.hd hc) g1 (by omega) fun vs hl hv => ?_
 have ev : vs = (zbS X.w a ep es).toList.map (·.2) := by
  refine List.ext_getElem? fun i => ?_
  cases e : vs[i]? with
  | none =>
   rw [List.getElem?_eq_none_iff] at e
   rw [List.getElem?_eq_none_iff.mpr]
   rw [xal, xan, zfh]; omega
  | some v =>
   obtain ⟨e', x1, x2⟩ := hv i v e
   rw [xbl, xaq, x1, x2]; rfl
 have pv : vs.Perm (es.toList.map (·.2)) := by rw [ev]; exact (zhw X.w a ep es).map _
 have pk : (vs.map kf).Perm kss := (pv.map kf).trans g9
 have tk : ∀ v ∈ vs, ∃ c, v = .ref c /\ SqT X.K G c ((kf v).map V.int) := fun v hv => by
  obtain ⟨e, he, rfl⟩ := xbb.mp (pv.mem_iff.mp hv)
  exact g8 e he
 have tkeys : ∀ vs : List Value, (∀ v ∈ vs, ∃ c, v = .ref c /\ SqT X.K G c ((kf v).map V.int)) -> (∀ v ∈ vs, kf v ≠ []) -> zds X.prog X.w s.heap vs (vs.map kf) := fun vs => by
  induction vs with
  | nil => intro _ _; trivial
  | cons v vs ih =>
   intro h1 h2
   obtain ⟨c, e1, e2⟩ := h1 v xae
   exact ⟨⟨c, e1, zo1 I (zaI.sqT sm e2), h2 v xae⟩, ih (fun v hv => h1 v (xab _ hv)) fun v hv => h2 v (xab _ hv)⟩
 refine ⟨vs.map kf, tkeys vs tk (fun v hv => hne _ (pk.mem_iff.mp (xci hv))), (pk.nodup_iff).mpr hnd, fun p D h2 tkk e a1 a2 a3 a4 a5 => ?_⟩
 have ek : p.toList.map (fun i => (vs.map kf).getD i []) = zkq kss := by
  rw [zkr ((pk.nodup_iff).mpr hnd) a1 a2]
  exact zib ((zde _).trans (pk.trans (zde _).symm)) (zf0 _ ((pk.nodup_iff).mpr hnd)) (zf0 _ hnd)
 have idx : ∀ i ∈ p.toList, ∃ v ∈ vs, vs.getD i Value.none = v /\ (vs.map kf).getD i [] = kf v := fun i hi => by
  have hb := xa2.mp (a1.perm.mem_iff.mp hi)
  rw [xal] at hb
  exact ⟨vs[i], xbx _, by simp [hb], by simp [hb]⟩
 have zs : ∀ is : List Nat, (∀ i ∈ is, ∃ v ∈ vs, vs.getD i Value.none = v /\ (vs.map kf).getD i [] = kf v) -> ∃ zs : List V, zbt X.K G zs (is.map fun i => (vs.map kf).getD i []) /\ zbf zs (is.map fun i => vs.getD i Value.none) := fun is => by
  induction is with
  | nil => intro _; exact ⟨[], trivial, .nil⟩
  | cons i is ih =>
   intro hi
   obtain ⟨v, m, e1, e2⟩ := hi i xae
   obtain ⟨c, c1, c2⟩ := tk v m
   obtain ⟨zs, z1, z2⟩ := ih fun j hj => hi j (xab _ hj)
   refine ⟨.ref c :: zs, ⟨⟨c, rfl, ?_⟩, z1⟩, .cons ?_ z2⟩
   ·show SqT X.K G c (List.map V.int ((vs.map kf).getD i []))
    rw [e2]; exact c2
   ·show L2.RelV (V.ref c) (vs.getD i Value.none)
    rw [e1]; exact c1
 obtain ⟨zs, z1, z2⟩ := zs p.toList idx
 rw [ek] at z1
 have zl : zs.length <= sizeLine := by rw [z2.length, xal, xan, a1.size, xal, sizeLine_eq]; omega
 obtain ⟨I2, hD⟩ := zws (t' := tkk) (o := .lst zs) I a4 a3 ⟨zl, _, e, z2, a5⟩
 exact ⟨.ref D, _, I2, rfl, q D zs hD z1⟩
def zsR (ks : List Int) : D := .tup (ks.map D.int)
theorem zjD {K : xFg} {mg : Str -> Option Value} {G : Hp} : ∀ ks : List Int, Reps K mg G (ks.map D.int) (ks.map V.int)
 | [] => rfl
 | k :: ks => ⟨.int k, ks.map V.int, rfl, rfl, zjD ks⟩
theorem zjE {K : xFg} {mg : Str -> Option Value} {G : Hp} : ∀ {vs : List V} {kss : List (List Int)}, zbt K G vs kss -> Reps K mg G (kss.map zsR) vs
 | [], [], _ => rfl
 | v :: vs, ks :: kss, ⟨⟨b, e1, e2⟩, t⟩ => ⟨v, vs, rfl, ⟨b, _, e1, e2, zjD ks⟩, zjE t⟩
 | [], _ :: _, h => h.elim
 | _ :: _, [], h => h.elim
def zmH (kss : List (List Int)) : Bool := kss.all fun ks => !ks.isEmpty
theorem zqk {kss : List (List Int)} (h : zmH kss = true) : ∀ ks ∈ kss, ks ≠ [] := fun ks hk e => by
 have := xay.mp h ks hk
 subst e
 exact absurd this (by decide)
def zdW : D -> R (List D)
 | .lst ds => match zbj ds with
  | some kss => bif Nat.ble (zci kss).length 18 && zmH (zci kss) then .ok ((zkq (zci kss)).map zsR) else .bad
  | none => .bad
 | _ => .bad
def zic (f : DSt -> R D) : DSt -> R (List D) := fun Z => (f Z).bind zdW
theorem zmI {k : Nat} (C : XC X E k) (hm1 : X.mg "sorted" = none) (hm2 : X.mg "set" = none) {e : Expr} {fe : DSt -> R D} {p1 p2 pos pos2 : Pos} (hfe : DE X E e fe) (hg1 : Gl X "sorted" := by rfl) (hg2 : Gl X "set" := by rfl)
  (he1 : starEach [.Call (.Name "set" p2) [e] [] pos2] X.env = (false, eval (.Call (.Name "set" p2) [e] [] pos2) X.env) :: starEach [] X.env := by rfl) (hpl1 : (backTo pos (starEach [] X.env)).any (·.1) = false := by rfl)
  (he2 : starEach [e] X.env = (false, eval e X.env) :: starEach [] X.env := by rfl) (hpl2 : (backTo pos2 (starEach [] X.env)).any (·.1) = false := by rfl) :
  DF X E (.Call (.Name "sorted" p1) [.Call (.Name "set" p2) [e] [] pos2] [] pos) (zic fe) := by
 refine PE.mono' (zhG (zmG C.calm) hg1 hm1 PyProof.Rows.boot_sorted (zj5 (ziC (zo2 C.calm C.room) hg2 hm2 (by rfl) (zab hfe zah he2) (by decide) (by decide) he2 hpl2) znb he1) (by decide) (by decide) he1 hpl1) fun Z H Q ⟨G, Zd, ok, q⟩ => ?_
 refine ⟨G, Zd, ok, (show RW ((zad fe zaC) Zd) _ _ from ?_)⟩
 unfold zad
 have q2 := q.of_bind
 cases hf : fe Zd with
 | bad => rw [hf] at q2; exact q2.elim
 | err x => rw [hf] at q2; exact (show zaL X.K X.mg E G H x from q2)
 | ok d =>
  rw [hf] at q2
  have q3 : RW (zdW d) (ziT X.K X.mg Q G H) (zaL X.K X.mg E G H) := q2
  rintro ws G2 H2 s2 ⟨v, _, e1, r3, r4⟩
  subst e1
  cases r4
  cases d with
  | lst ds =>
   obtain ⟨b, vs, rfl, hb, hv⟩ := r3
   cases hs' : zbj ds with
   | none => simp only [zdW, hs'] at q3; exact q3.elim
   | some kss =>
    cases hC : (Nat.ble (zci kss).length 18 && zmH (zci kss)) with
    | false => simp only [zdW, hs', hC, cond_false] at q3; exact q3.elim
    | true =>
     simp only [zdW, hs', hC, cond_true] at q3
     obtain ⟨c1, c2⟩ := Bool.and_eq_true_iff.mp hC
     rw [Nat.ble_eq] at c1
     refine ⟨b, vs, kss, G2, rfl, s2.e.seq hb, s2.e, zgw hs' hv, c1, fun a ha => ?_⟩
     have q4 : ziT X.K X.mg Q G H ((zkq (zci kss)).map zsR) := q3
     have st1 := s2.trans (.hid (o := .ext (zuT X.w X.K G2 a (zci kss))) s2.e ha)
     refine ⟨a, zci kss, G2, rfl, st1.e, zav, zqk c2, zco _ _, by omega, fun l zs hl hz => ?_⟩
     have st2 := st1.trans (.hid (o := .lst zs) st1.e hl)
     exact q4 l zs G2 _ st2 (st1.h.free hl) zav (st1.e.free hl) (zjE hz)
  | _ => exact (show False from q3).elim
end
end DL
end
namespace Mir
open L2 DL
noncomputable def zec : DSt -> R Out := (zcN (zpS (zdP (g2 zfd) (zad (zag 0) (zad (eC (.ty "int")) zaC))) (zt8 (zdP (g2 zfd) (zad (zag 0) (zad (eC (.ty "bool")) zaC))))))
noncomputable def zcp : List D -> R D := fnM 1 1 zec
theorem zid (a0 : D) : zcp [a0] = fin (zec [some a0]) := zaO (b := zec) rfl rfl
noncomputable def zcn : DSt -> R Out := (zcN (zpS (zdP zqH (zad (zeH (eLC 1 [0] (zhn (zag 0)) zaR zdm (zaF zcp (zad (zag 0) zaC)))) zaC)) (eOp gNe (zag 0) (zj1 (zad (eC (.int 0)) (zad (eC (.int 0)) (zad (eC (.int 0)) zaC)))))))
noncomputable def zbm : List D -> R D := fnM 1 1 zcn
theorem zfT (a0 : D) : zbm [a0] = fin (zcn [some a0]) := zaO (b := zcn) rfl rfl
noncomputable def zcR : DSt -> R Bool := (zaJ (eOp gNe (zag 1) (eC (.int 0))))
noncomputable def zeo : DSt -> R Out := (zaG 1 (zag 2))
noncomputable def zep : DSt -> R Out := (zaV (zaG 0 (zag 1)) zeo)
noncomputable def zdX : DSt -> R Out := (zaV (zaG 2 (eOp zfs (zag 0) (zag 1))) zep)
noncomputable def zgz : DSt -> R Out := (zcN (zag 0))
noncomputable def zgA : DSt -> R Out := (zaV (zbd zcR zdX) zgz)
noncomputable def zgB : DSt -> R Out := (zaV (zaG 1 (zdP zpj (zad (zag 1) zaC))) zgA)
noncomputable def zeV : DSt -> R Out := (zaV (zaG 0 (zdP zpj (zad (zag 0) zaC))) zgB)
noncomputable def zbM : List D -> R D := fnM 2 3 zeV
theorem zjF (a0 : D) (a1 : D) : zbM [a0, a1] = fin (zeV [some a0, some a1, none]) := zaO (b := zeV) rfl rfl
noncomputable def zgC : DSt -> R Out := (zcN (zj1 (zad (eOp zeI (eOp gIx (zag 0) (eC (.int 0))) (zag 1)) (zad (eOp zeI (eOp gIx (zag 0) (eC (.int 1))) (zag 1)) (zad (eOp zeI (eOp gIx (zag 0) (eC (.int 2))) (zag 1)) zaC)))))
noncomputable def zgD : DSt -> R Out := (zaV (sIf (zaJ (eOp gLt (zag 2) (eC (.int 0)))) (zaG 1 (eUn zqD (zag 1))) zb9) zgC)
noncomputable def zgE : DSt -> R Out := (zaV (zaG 2 (eOp gIx (zeH (eLC 1 [0] (zhn (zag 0)) zaR (zaJ (eOp gNe (zag 0) (eC (.int 0)))) (zag 0))) (eUn zqD (eC (.int 1))))) zgD)
noncomputable def zeW : DSt -> R Out := (zaV (zaG 1 (zaF zbM (zad (zaF zbM (zad (eOp gIx (zag 0) (eC (.int 0))) (zad (eOp gIx (zag 0) (eC (.int 1))) zaC))) (zad (eOp gIx (zag 0) (eC (.int 2))) zaC)))) zgE)
noncomputable def zbN : List D -> R D := fnM 1 3 zeW
theorem zjG (a0 : D) : zbN [a0] = fin (zeW [some a0, none, none]) := zaO (b := zeW) rfl rfl
noncomputable def zfy : DSt -> R Out := (zcN (eOp gEq (zaF zbN (zad (zag 0) zaC)) (zag 0)))
noncomputable def zfz : DSt -> R Out := (zaV (sIf (zph (zaJ (zaF zbm (zad (zag 0) zaC)))) (zcN (eC (.bl false))) zb9) zfy)
noncomputable def zed : DSt -> R Out := (zaV (sIf (eOr (zph (zaJ (zdP (g2 zfd) (zad (zag 0) (zad (eC (.ty "tuple")) zaC))))) (zaJ (eOp gNe (zdP zmY (zad (zag 0) zaC)) (eC (.int 3))))) (zcN (eC (.bl false))) zb9) zfz)
noncomputable def zbT : List D -> R D := fnM 1 1 zed
theorem zie (a0 : D) : zbT [a0] = fin (zed [some a0]) := zaO (b := zed) rfl rfl
noncomputable def zql : DSt -> R Out := (zcN (eOp zdz (eOp zdz (eOp zbI (eOp gIx (zag 0) (eC (.int 0))) (eOp gIx (zag 1) (eC (.int 0)))) (eOp zbI (eOp gIx (zag 0) (eC (.int 1))) (eOp gIx (zag 1) (eC (.int 1))))) (eOp zbI (eOp gIx (zag 0) (eC (.int 2))) (eOp gIx (zag 1) (eC (.int 2))))))
noncomputable def zmJ : List D -> R D := fnM 2 2 zql
theorem zqm (a0 : D) (a1 : D) : zmJ [a0, a1] = fin (zql [some a0, some a1]) := zaO (b := zql) rfl rfl
noncomputable def zeX : DSt -> R Out := (zcN (eOp gEq (zaF zmJ (zad (zag 0) (zad (zag 1) zaC))) (eC (.int 0))))
noncomputable def zdf : List D -> R D := fnM 2 2 zeX
theorem zjH (a0 : D) (a1 : D) : zdf [a0, a1] = fin (zeX [some a0, some a1]) := zaO (b := zeX) rfl rfl
noncomputable def zjI : DSt -> R Out := (zcN (zj1 (zad (zag 2) (zad (zag 3) (zad (zag 4) zaC)))))
noncomputable def zjJ : DSt -> R Out := (zaV (zaG 4 (eOp gSub (eOp zbI (eOp gIx (zag 0) (eC (.int 0))) (eOp gIx (zag 1) (eC (.int 1)))) (eOp zbI (eOp gIx (zag 0) (eC (.int 1))) (eOp gIx (zag 1) (eC (.int 0)))))) zjI)
noncomputable def zjK : DSt -> R Out := (zaV (zaG 3 (eOp gSub (eOp zbI (eOp gIx (zag 0) (eC (.int 2))) (eOp gIx (zag 1) (eC (.int 0)))) (eOp zbI (eOp gIx (zag 0) (eC (.int 0))) (eOp gIx (zag 1) (eC (.int 2)))))) zjJ)
noncomputable def zif : DSt -> R Out := (zaV (zaG 2 (eOp gSub (eOp zbI (eOp gIx (zag 0) (eC (.int 1))) (eOp gIx (zag 1) (eC (.int 2)))) (eOp zbI (eOp gIx (zag 0) (eC (.int 2))) (eOp gIx (zag 1) (eC (.int 1)))))) zjK)
noncomputable def zcH : List D -> R D := fnM 2 5 zif
theorem zmK (a0 : D) (a1 : D) : zcH [a0, a1] = fin (zif [some a0, some a1, none, none, none]) := zaO (b := zif) rfl rfl
noncomputable def zcS : DSt -> R Out := (zcN (zaF zbN (zad (zaF zcH (zad (zag 0) (zad (zag 1) zaC))) zaC)))
noncomputable def zbv : DSt -> R Out := (zaV (sIf (zaJ (eOp gEq (zag 0) (zag 1))) eBad zb9) zcS)
noncomputable def zaW : List D -> R D := fnM 2 2 zbv
theorem zeK (a0 : D) (a1 : D) : zaW [a0, a1] = fin (zbv [some a0, some a1]) := zaO (b := zbv) rfl rfl
noncomputable def zcT : DSt -> R Out := (zcN (zaF zaW (zad (zag 0) (zad (zag 1) zaC))))
noncomputable def za3 : List D -> R D := fnM 2 2 zcT
theorem zgF (a0 : D) (a1 : D) : za3 [a0, a1] = fin (zcT [some a0, some a1]) := zaO (b := zcT) rfl rfl
noncomputable def zeY : DSt -> R Out := (zcN (zdP zqH (zad (zeH (eLC 1 [0] (zhn (zag 1)) zaR zdm (zaF zdf (zad (zag 0) (zad (zag 3) zaC))))) zaC)))
noncomputable def zeZ : DSt -> R Out := (zaV (zaG 2 (zaF za3 (zad (eOp gIx (zag 0) (eC (.int 0))) (zad (eOp gIx (zag 1) (eC (.int 0))) zaC)))) zeY)
noncomputable def ze0 : DSt -> R Out := (zaV (sIf (zaJ (eOp gEq (zdP zmY (zad (zag 1) zaC)) (eC (.int 0)))) (zcN (eC (.bl true))) zb9) zeZ)
noncomputable def zdt : DSt -> R Out := (zaV (zmX [] 1 (zeH (eLC 1 [0] (zhn (zag 0)) zaR (zaJ (eOp gNe (zag 0) (eOp gIx (zag 1) (eC (.int 0))))) (zag 0)))) ze0)
noncomputable def zbU : List D -> R D := fnM 1 3 zdt
theorem zg5 (a0 : D) : zbU [a0] = fin (zdt [some a0, none, none]) := zaO (b := zdt) rfl rfl
noncomputable def zdY : DSt -> R Out := (zcN (zj1 (zad (eOp zeI (zag 0) (zag 2)) (zad (eOp zeI (zag 1) (zag 2)) zaC))))
noncomputable def zfA : DSt -> R Out := (zaV (sIf (zaJ (eOp gLt (zag 1) (eC (.int 0)))) (zaG 2 (eUn zqD (zag 2))) zb9) zdY)
noncomputable def zee : DSt -> R Out := (zaV (zaG 2 (zaF zbM (zad (zag 0) (zad (zag 1) zaC)))) zfA)
noncomputable def zcq : List D -> R D := fnM 2 3 zee
theorem zig (a0 : D) (a1 : D) : zcq [a0, a1] = fin (zee [some a0, some a1, none]) := zaO (b := zee) rfl rfl
noncomputable def zdu : DSt -> R Out := (zcN (zdP zsH (zad (zeH (eLC 1 [0] (zkg zkf (zad (eC (.int 3)) zaC)) zaR (zaJ (eOp gNe (eOp gIx (zag 1) (zag 0)) (eC (.int 0)))) (zag 0))) zaC)))
noncomputable def zbV : List D -> R D := fnM 1 1 zdu
theorem zg6 (a0 : D) : zbV [a0] = fin (zdu [some a0]) := zaO (b := zdu) rfl rfl
noncomputable def zdv : DSt -> R Out := (zcN (zpS (zdP zqH (zad (zeH (eLC 1 [0] (zhn (zag 0)) zaR zdm (zaF zbT (zad (zag 0) zaC)))) zaC)) (zpS (eOp gGe (zh5 (zag 0)) (eC (.int 3))) (zaF zbU (zad (zag 0) zaC)))))
noncomputable def zbW : List D -> R D := fnM 1 1 zdv
theorem zg7 (a0 : D) : zbW [a0] = fin (zdv [some a0]) := zaO (b := zdv) rfl rfl
noncomputable def zjL : DSt -> R Out := (zcN (zaF zcq (zad (zag 7) (zad (zag 8) zaC))))
noncomputable def zjM : DSt -> R Out := (zaV (sIf (zaJ (eOp gEq (zag 8) (eC (.int 0)))) (zcN (zj1 (zad (eC (.int 1)) (zad (eC (.int 0)) zaC)))) zb9) zjL)
noncomputable def zjN : DSt -> R Out := (zaV (zaG 8 (eOp zbI (eOp gIx (zaF zcH (zad (zag 0) (zad (zag 3) zaC))) (zag 6)) (eOp gIx (zaF zcH (zad (zag 1) (zad (zag 2) zaC))) (zag 6)))) zjM)
noncomputable def zjO : DSt -> R Out := (zaV (zaG 7 (eOp zbI (eOp gIx (zaF zcH (zad (zag 0) (zad (zag 2) zaC))) (zag 6)) (eOp gIx (zaF zcH (zad (zag 1) (zad (zag 3) zaC))) (zag 6)))) zjN)
noncomputable def zjP : DSt -> R Out := (zaV (zaG 6 (zaF zbV (zad (zaF za3 (zad (eOp gIx (zag 5) (eC (.int 0))) (zad (eOp gIx (zag 5) (eC (.int 1))) zaC))) zaC))) zjO)
noncomputable def zjQ : DSt -> R Out := (zaV (zaG 5 (zeH (zic (zag 4)))) zjP)
noncomputable def zgG : DSt -> R Out := (zaV (sIf (zph (zaJ (zaF zbW (zad (zag 4) zaC)))) (zkl "NoRatio") zb9) zjQ)
noncomputable def zgH : DSt -> R Out := (zaV (zaG 4 (zeH (zhl (zad (zag 0) (zad (zag 1) (zad (zag 2) (zad (zag 3) zaC))))))) zgG)
noncomputable def zcd : List D -> R D := fnM 4 9 zgH
theorem zhx (a0 : D) (a1 : D) (a2 : D) (a3 : D) : zcd [a0, a1, a2, a3] = fin (zgH [some a0, some a1, some a2, some a3, none, none, none, none, none]) := zaO (b := zgH) rfl rfl
noncomputable def zbQ : DSt -> R Out := (zmX [4] 3 (eOp zeI (zag 3) (eOp zsp (eC (.int 10)) (eC (.int 6)))))
noncomputable def zcj : DSt -> R Out := (zaV (zs5 [4] 4 (eOp zfs (zag 3) (eOp zsp (eC (.int 10)) (eC (.int 6))))) zbQ)
noncomputable def zbR : DSt -> R Out := (zs5 [4] 4 (eOp zfs (eOp zbI (eOp zfs (eOp zbI (zag 6) (zag 6)) (eC (.int 2147483629))) (eC (.int 48271))) (eC (.int 2147483647))))
noncomputable def za0 : DSt -> R Out := (zaV (zmX [4] 6 (eOp zfs (eOp zbI (eOp zfs (eOp zdz (eOp zdz (zag 2) (eOp zbI (eOp zbI (eC (.int 101)) (zag 5)) (zag 5))) (zag 5)) (eC (.int 2147483647))) (eC (.int 48271))) (eC (.int 2147483647)))) zbR)
noncomputable def zaT : DSt -> R Out := (sIf (zs4 (zaJ (eOp gGe (zag 2) (eOp zsp (eC (.int 10)) (eC (.int 18))))) (zaJ (eOp gGt (zag 3) (eC (.int 0))))) zcj za0)
noncomputable def zcU : DSt -> R Out := (zcN (zag 4))
noncomputable def zcV : DSt -> R Out := (zaV (zsl [4] [5] zaR (zkg zkf (zad (zag 1) zaC)) zaT) zcU)
noncomputable def zcW : DSt -> R Out := (zaV (zqA [] 4 (zhl zaC)) zcV)
noncomputable def zcX : DSt -> R Out := (zaV (zaG 3 (zag 2)) zcW)
noncomputable def zbw : DSt -> R Out := (zaV (zaG 2 (zdP zvd (zad (zag 0) (zad (eOp gSub (eUn zqD (eC (.int 1))) (zag 0)) zaC)))) zcX)
noncomputable def zaK : List D -> R D := fnM 2 7 zbw
theorem zeL (a0 : D) (a1 : D) : zaK [a0, a1] = fin (zbw [some a0, some a1, none, none, none, none, none]) := zaO (b := zbw) rfl rfl
noncomputable def zdw : DSt -> R Out := (zcN (zpS (zdP (g2 zfd) (zad (zag 0) (zad (eC (.ty "int")) zaC))) (zt8 (zdP (g2 zfd) (zad (zag 0) (zad (eC (.ty "bool")) zaC))))))
noncomputable def zbX : List D -> R D := fnM 1 1 zdw
theorem zg8 (a0 : D) : zbX [a0] = fin (zdw [some a0]) := zaO (b := zdw) rfl rfl
noncomputable def za7 : DSt -> R Bool := (zaJ (eOp gNe (zag 4) (eC (.int 0))))
noncomputable def zbx : DSt -> R Out := (zvc [] 3 4 (zad (zag 4) (zad (eOp zfs (zag 3) (zag 4)) zaC)))
noncomputable def zcY : DSt -> R Out := (zbd za7 zbx)
noncomputable def zbY : DSt -> R Out := (zcN (zj1 (zad (eOp zeI (zag 0) (zag 3)) (zad (eOp zeI (zag 1) (zag 3)) (zad (eOp zeI (zag 2) (zag 3)) zaC)))))
noncomputable def zdg : DSt -> R Out := (zaV (sIf (zaJ (eOp gLt (zag 5) (eC (.int 0)))) (zaG 3 (eOp gSub (eC (.int 0)) (zag 3))) zb9) zbY)
noncomputable def zdh : DSt -> R Out := (zaV (zaG 5 (eOp gIx (zeH (eLC 1 [0] (zhn (zeH (zhl (zad (zag 0) (zad (zag 1) (zad (zag 2) zaC)))))) zaR (zaJ (eOp gNe (zag 0) (eC (.int 0)))) (zag 0))) (eUn zqD (eC (.int 1))))) zdg)
noncomputable def zdi : DSt -> R Out := (zaV (zsl [] [4] zaR (zhn (zeH (zhl (zad (zdP zpj (zad (zag 1) zaC)) (zad (zdP zpj (zad (zag 2) zaC)) zaC))))) zcY) zdh)
noncomputable def zbO : DSt -> R Out := (zaV (zaG 3 (zdP zpj (zad (zag 0) zaC))) zdi)
noncomputable def zao : List D -> R D := fnM 3 6 zbO
theorem ze1 (a0 : D) (a1 : D) (a2 : D) : zao [a0, a1, a2] = fin (zbO [some a0, some a1, some a2, none, none, none]) := zaO (b := zbO) rfl rfl
noncomputable def zce : DSt -> R Out := (zcN (zaF zao (zad (zag 2) (zad (zag 3) (zad (zag 4) zaC)))))
noncomputable def zdA : DSt -> R Out := (zaV (sIf (zs4 (zaJ (eOp gEq (zag 2) (eC (.int 0)))) (zs4 (zaJ (eOp gEq (zag 3) (eC (.int 0)))) (zaJ (eOp gEq (zag 4) (eC (.int 0)))))) (zaG 4 (eC (.int 1))) zb9) zce)
noncomputable def zdB : DSt -> R Out := (zaV (zaG 4 (eOp gSub (eOp zfs (eOp gIx (zag 0) (eC (.int 2))) (eOp zdz (eOp zbI (eC (.int 2)) (zag 1)) (eC (.int 1)))) (zag 1))) zdA)
noncomputable def zdC : DSt -> R Out := (zaV (zaG 3 (eOp gSub (eOp zfs (eOp gIx (zag 0) (eC (.int 1))) (eOp zdz (eOp zbI (eC (.int 2)) (zag 1)) (eC (.int 1)))) (zag 1))) zdB)
noncomputable def zdD : DSt -> R Out := (zaV (zaG 2 (eOp gSub (eOp zfs (eOp gIx (zag 0) (eC (.int 0))) (eOp zdz (eOp zbI (eC (.int 2)) (zag 1)) (eC (.int 1)))) (zag 1))) zdC)
noncomputable def zb5 : DSt -> R Out := (zaV (zaG 1 (eOp gIx (zeH (zhl (zad (eC (.int 2)) (zad (eC (.int 5)) (zad (eC (.int 1000)) zaC))))) (eOp zfs (eOp gIx (zag 0) (eC (.int 3))) (eC (.int 3))))) zdD)
noncomputable def zaB : List D -> R D := fnM 1 5 zb5
theorem zfi (a0 : D) : zaB [a0] = fin (zb5 [some a0, none, none, none, none]) := zaO (b := zb5) rfl rfl
noncomputable def ze2 : DSt -> R Out := (zcN (eOp zdz (eOp zdz (eOp zbI (eOp gIx (zag 0) (eC (.int 0))) (eOp gIx (zag 1) (eC (.int 0)))) (eOp zbI (eOp gIx (zag 0) (eC (.int 1))) (eOp gIx (zag 1) (eC (.int 1))))) (eOp zbI (eOp gIx (zag 0) (eC (.int 2))) (eOp gIx (zag 1) (eC (.int 2))))))
noncomputable def zca : List D -> R D := fnM 2 2 ze2
theorem zjR (a0 : D) (a1 : D) : zca [a0, a1] = fin (ze2 [some a0, some a1]) := zaO (b := ze2) rfl rfl
noncomputable def zc8 : DSt -> R Out := (zcN (eOp zdz (eOp gSub (zag 9) (zag 10)) (eOp zbI (eOp gIx (zag 0) (eC (.int 2))) (eOp gSub (eOp zbI (zag 3) (zag 7)) (eOp zbI (zag 4) (zag 6))))))
noncomputable def zc9 : DSt -> R Out := (zaV (zaG 10 (eOp zbI (eOp gIx (zag 0) (eC (.int 1))) (eOp gSub (eOp zbI (zag 3) (zag 8)) (eOp zbI (zag 5) (zag 6))))) zc8)
noncomputable def zda : DSt -> R Out := (zaV (zaG 9 (eOp zbI (eOp gIx (zag 0) (eC (.int 0))) (eOp gSub (eOp zbI (zag 4) (zag 8)) (eOp zbI (zag 5) (zag 7))))) zc9)
noncomputable def zdb : DSt -> R Out := (zaV (zud [] [6, 7, 8] (zff 3) (zag 2)) zda)
noncomputable def zcb : DSt -> R Out := (zaV (zud [] [3, 4, 5] (zff 3) (zag 1)) zdb)
noncomputable def zaP : List D -> R D := fnM 3 11 zcb
theorem zgI (a0 : D) (a1 : D) (a2 : D) : zaP [a0, a1, a2] = fin (zcb [some a0, some a1, some a2, none, none, none, none, none, none, none, none]) := zaO (b := zcb) rfl rfl
noncomputable def zdj : DSt -> R Out := (zs5 [2] 2 (zeH (eLC 1 [0] (zhn (zag 4)) zaR zdm (eOp gSub (eOp zfs (zag 0) (eOp zdz (eOp zbI (eC (.int 2)) (zag 2)) (eC (.int 1)))) (zag 2)))))
noncomputable def zcI : DSt -> R Out := (zaV (zmX [2] 4 (zeH (eLC 1 [0] (zkg zkf (zad (eC (.int 3)) zaC)) zaR zdm (eOp gIx (zag 1) (eOp zdz (eOp zbI (eC (.int 3)) (zag 4)) (zag 0)))))) zdj)
noncomputable def zeq : DSt -> R Out := (zcN (zag 2))
noncomputable def zer : DSt -> R Out := (zaV (sIf (zaJ (eOp gEq (zaF zaP (zad (eOp gIx (zag 2) (eC (.int 0))) (zad (eOp gIx (zag 2) (eC (.int 1))) (zad (eOp gIx (zag 2) (eC (.int 2))) zaC)))) (eC (.int 0)))) (zcN (zeH (zhl (zad (zeH (zhl (zad (eC (.int 1)) (zad (eOp zfs (eOp gIx (zag 0) (eC (.int 0))) (eC (.int 7))) (zad (eOp zfs (eOp gIx (zag 0) (eC (.int 1))) (eC (.int 5))) zaC))))) (zad (zeH (zhl (zad (eC (.int 0)) (zad (eC (.int 1)) (zad (eOp zfs (eOp gIx (zag 0) (eC (.int 2))) (eC (.int 9))) zaC))))) (zad (zeH (zhl (zad (eC (.int 0)) (zad (eC (.int 0)) (zad (eOp zdz (eC (.int 1)) (eOp zfs (eOp gIx (zag 0) (eC (.int 4))) (eC (.int 4)))) zaC))))) zaC)))))) zb9) zeq)
noncomputable def zes : DSt -> R Out := (zaV (zsl [2] [3] zaR (zkg zkf (zad (eC (.int 3)) zaC)) zcI) zer)
noncomputable def zet : DSt -> R Out := (zaV (zqA [] 2 (zhl zaC)) zes)
noncomputable def zcZ : DSt -> R Out := (zaV (zaG 1 (eOp gIx (zeH (zhl (zad (eC (.int 1)) (zad (eC (.int 2)) (zad (eC (.int 30)) zaC))))) (eOp zfs (eOp gIx (zag 0) (eC (.int 9))) (eC (.int 3))))) zet)
noncomputable def za4 : List D -> R D := fnM 1 5 zcZ
theorem zgJ (a0 : D) : za4 [a0] = fin (zcZ [some a0, none, none, none, none]) := zaO (b := zcZ) rfl rfl
noncomputable def zc0 : DSt -> R Out := (zcN (zaF zao (zad (zaF zca (zad (eOp gIx (zag 0) (eC (.int 0))) (zad (zag 1) zaC))) (zad (zaF zca (zad (eOp gIx (zag 0) (eC (.int 1))) (zad (zag 1) zaC))) (zad (zaF zca (zad (eOp gIx (zag 0) (eC (.int 2))) (zad (zag 1) zaC))) zaC)))))
noncomputable def zbD : List D -> R D := fnM 2 2 zc0
theorem zgK (a0 : D) (a1 : D) : zbD [a0, a1] = fin (zc0 [some a0, some a1]) := zaO (b := zc0) rfl rfl
noncomputable def zbn : DSt -> R Bool := (zaJ (eOp gNe (zag 3) (eC (.int 0))))
noncomputable def zbZ : DSt -> R Out := (zvc [] 2 3 (zad (zag 3) (zad (eOp zfs (zag 2) (zag 3)) zaC)))
noncomputable def zcf : DSt -> R Out := (zcN (zj1 (zad (eOp zeI (zag 0) (zag 2)) (zad (eOp zeI (zag 1) (zag 2)) zaC))))
noncomputable def zdE : DSt -> R Out := (zaV (sIf (eOr (zaJ (eOp gLt (zag 1) (eC (.int 0)))) (zs4 (zaJ (eOp gEq (zag 1) (eC (.int 0)))) (zaJ (eOp gLt (zag 0) (eC (.int 0)))))) (zaG 2 (eOp gSub (eC (.int 0)) (zag 2))) zb9) zcf)
noncomputable def zdF : DSt -> R Out := (zaV (zbd zbn zbZ) zdE)
noncomputable def zdG : DSt -> R Out := (zaV (zaG 3 (zdP zpj (zad (zag 1) zaC))) zdF)
noncomputable def zb6 : DSt -> R Out := (zaV (zaG 2 (zdP zpj (zad (zag 0) zaC))) zdG)
noncomputable def zaZ : List D -> R D := fnM 2 4 zb6
theorem zfj (a0 : D) (a1 : D) : zaZ [a0, a1] = fin (zb6 [some a0, some a1, none, none]) := zaO (b := zb6) rfl rfl
noncomputable def zeu : DSt -> R Out := (zcN (zaF zaZ (zad (zag 5) (zad (zag 6) zaC))))
noncomputable def zev : DSt -> R Out := (zaV (zaG 6 (eOp zbI (eOp gSub (eOp zbI (eOp gIx (zag 1) (eC (.int 0))) (eOp gIx (zag 4) (eC (.int 1)))) (eOp zbI (eOp gIx (zag 1) (eC (.int 1))) (eOp gIx (zag 4) (eC (.int 0))))) (eOp gSub (eOp zbI (eOp gIx (zag 2) (eC (.int 0))) (eOp gIx (zag 3) (eC (.int 1)))) (eOp zbI (eOp gIx (zag 2) (eC (.int 1))) (eOp gIx (zag 3) (eC (.int 0))))))) zeu)
noncomputable def zew : DSt -> R Out := (zaV (zaG 5 (eOp zbI (eOp gSub (eOp zbI (eOp gIx (zag 1) (eC (.int 0))) (eOp gIx (zag 3) (eC (.int 1)))) (eOp zbI (eOp gIx (zag 1) (eC (.int 1))) (eOp gIx (zag 3) (eC (.int 0))))) (eOp gSub (eOp zbI (eOp gIx (zag 2) (eC (.int 0))) (eOp gIx (zag 4) (eC (.int 1)))) (eOp zbI (eOp gIx (zag 2) (eC (.int 1))) (eOp gIx (zag 4) (eC (.int 0))))))) zev)
noncomputable def zc1 : DSt -> R Out := (zaV (zud [] [1, 2, 3, 4] (zff 4) (zag 0)) zew)
noncomputable def zbk : List D -> R D := fnM 1 7 zc1
theorem zgL (a0 : D) : zbk [a0] = fin (zc1 [some a0, none, none, none, none, none, none]) := zaO (b := zc1) rfl rfl
noncomputable def zex : DSt -> R Out := (zcN (zaF zao (zad (zag 3) (zad (zag 4) (zad (eOp zdz (eOp zbI (eOp gIx (zag 2) (eC (.int 0))) (eOp gIx (zag 0) (eC (.int 2)))) (eOp zbI (eOp gIx (zag 2) (eC (.int 1))) (eOp gIx (zag 1) (eC (.int 2))))) zaC)))))
noncomputable def zey : DSt -> R Out := (zaV (zaG 4 (eOp zdz (eOp zbI (eOp gIx (zag 2) (eC (.int 0))) (eOp gIx (zag 0) (eC (.int 1)))) (eOp zbI (eOp gIx (zag 2) (eC (.int 1))) (eOp gIx (zag 1) (eC (.int 1)))))) zex)
noncomputable def zc2 : DSt -> R Out := (zaV (zaG 3 (eOp zdz (eOp zbI (eOp gIx (zag 2) (eC (.int 0))) (eOp gIx (zag 0) (eC (.int 0)))) (eOp zbI (eOp gIx (zag 2) (eC (.int 1))) (eOp gIx (zag 1) (eC (.int 0)))))) zey)
noncomputable def zbE : List D -> R D := fnM 3 5 zc2
theorem zgM (a0 : D) (a1 : D) (a2 : D) : zbE [a0, a1, a2] = fin (zc2 [some a0, some a1, some a2, none, none]) := zaO (b := zc2) rfl rfl
noncomputable def ze3 : DSt -> R Out := (zcN (zdP (g2 zoU) (zad (zag 0) (zad (zj1 (zad (eC (.cls "NoText")) (zad (eC (.cls "NoValue")) (zad (eC (.cls "Same")) (zad (eC (.cls "TooMany")) (zad (eC (.cls "Unlike")) zaC)))))) zaC))))
noncomputable def zdx : DSt -> R Out := (zaV (sIf (eOr (zaJ (zdP (g2 zoU) (zad (zag 0) (zad (zj1 (zad (eC (.cls "Endless")) (zad (eC (.cls "NoBow")) (zad (eC (.cls "NoChange")) (zad (eC (.cls "NoDeed")) (zad (eC (.cls "NoFloor")) zaC)))))) zaC)))) (zaJ (zdP (g2 zoU) (zad (zag 0) (zad (zj1 (zad (eC (.cls "NoFrame")) (zad (eC (.cls "NoName")) (zad (eC (.cls "NoPlace")) (zad (eC (.cls "NoRow")) zaC))))) zaC))))) (zcN (eC (.bl true))) zb9) ze3)
noncomputable def zb0 : List D -> R D := fnM 1 1 zdx
theorem zg9 (a0 : D) : zb0 [a0] = fin (zdx [some a0]) := zaO (b := zdx) rfl rfl
noncomputable def zcJ : DSt -> R Out := (zcN (zpS (zdP (g2 zfd) (zad (zag 1) (zad (eC (.cls "NoRatio")) zaC))) (zpS (zdP (g2 zfd) (zad (zag 1) (zad (eC (.ty "ValueError")) zaC))) (zt8 (zaF zb0 (zad (zag 1) zaC))))))
noncomputable def zcK : DSt -> R Out := (zaV (zvf 2 "ChalkError" (zsk (zk8 zcd (zad (eOp gIx (zag 0) (eC (.int 0))) (zad (eOp gIx (zag 0) (eC (.int 1))) (zad (eOp gIx (zag 0) (eC (.int 2))) (zad (eOp gIx (zag 0) (eC (.int 3))) zaC)))))) (zaG 1 (zag 2))) zcJ)
noncomputable def zbo : DSt -> R Out := (zaV (zaG 1 (eC .non)) zcK)
noncomputable def zaQ : List D -> R D := fnM 1 3 zbo
theorem zek (a0 : D) : zaQ [a0] = fin (zbo [some a0, none, none]) := zaO (b := zbo) rfl rfl
noncomputable def zfB : DSt -> R Out := (zcN (eOp gEq (zag 2) (zag 1)))
noncomputable def zfC : DSt -> R Out := (zaV (sIf (eOr (zph (zaJ (zdP (g2 zfd) (zad (zag 2) (zad (eC (.ty "tuple")) zaC))))) (eOr (zaJ (eOp gNe (zdP zmY (zad (zag 2) zaC)) (eC (.int 2)))) (zaJ (eOp gNe (zeH (eLC 1 [0] (zhn (zag 2)) zaR (zph (zaJ (zaF zbX (zad (zag 0) zaC)))) (zag 0))) (zeH (zhl zaC)))))) (zcN (eC (.bl false))) zb9) zfB)
noncomputable def zef : DSt -> R Out := (zaV (zaG 2 (zaF zcd (zad (eOp gIx (zag 0) (eC (.int 0))) (zad (eOp gIx (zag 0) (eC (.int 1))) (zad (eOp gIx (zag 0) (eC (.int 2))) (zad (eOp gIx (zag 0) (eC (.int 3))) zaC)))))) zfC)
noncomputable def zb1 : List D -> R D := fnM 2 3 zef
theorem zih (a0 : D) (a1 : D) : zb1 [a0, a1] = fin (zef [some a0, some a1, none]) := zaO (b := zef) rfl rfl
noncomputable def zbp : DSt -> R Out := (sIf (zaJ (eOp zm0 (zag 3) (zag 2))) (zs5 [2] 2 (zag 3)) zb9)
noncomputable def zdH : DSt -> R Out := (zcN (zaF zb1 (zad (zag 5) (zad (zaF zbk (zad (zeH (zhl (zad (eOp gIx (zag 1) (eC (.int 1))) (zad (eOp gIx (zag 1) (eC (.int 0))) (zad (eOp gIx (zag 1) (eC (.int 2))) (zad (eOp gIx (zag 1) (eC (.int 3))) zaC)))))) zaC)) zaC))))
noncomputable def zdI : DSt -> R Out := (zaV (zaG 5 (zeH (zhl (zad (eOp gIx (zag 0) (eC (.int 1))) (zad (eOp gIx (zag 0) (eC (.int 0))) (zad (eOp gIx (zag 0) (eC (.int 2))) (zad (eOp gIx (zag 0) (eC (.int 3))) zaC))))))) zdH)
noncomputable def zdJ : DSt -> R Out := (zaV (sIf (zph (zaJ (zaF zb1 (zad (zag 0) (zad (zaF zbk (zad (zag 1) zaC)) zaC))))) (zcN (eC (.bl false))) zb9) zdI)
noncomputable def zcg : DSt -> R Out := (zaV (sIf (eOr (zaJ (eOp gLt (zdP zmY (zad (zag 2) zaC)) (eC (.int 3)))) (zaJ (eOp gNe (zag 4) (zeH (zhl zaC))))) (zcN (zaF zaQ (zad (zag 0) zaC))) zb9) zdJ)
noncomputable def zdK : DSt -> R Out := (zaV (zmX [] 4 (zeH (eLC 1 [0] (zhn (eSl (zag 2) (zdU (eC (.int 2))) zi7)) zaR (zaJ (eOp gNe (zaF zaP (zad (eOp gIx (zag 3) (eC (.int 0))) (zad (eOp gIx (zag 3) (eC (.int 1))) (zad (zag 0) zaC)))) (eC (.int 0)))) (zag 0)))) zcg)
noncomputable def zdL : DSt -> R Out := (zaV (zsl [2] [3] zaR (zhn (zag 0)) zbp) zdK)
noncomputable def zb7 : DSt -> R Out := (zaV (zqA [] 2 (zhl zaC)) zdL)
noncomputable def zaH : List D -> R D := fnM 2 6 zb7
theorem zfk (a0 : D) (a1 : D) : zaH [a0, a1] = fin (zb7 [some a0, some a1, none, none, none, none]) := zaO (b := zb7) rfl rfl
noncomputable def zfD : DSt -> R Out := (zcN (zag 2))
noncomputable def zfE : DSt -> R Out := (zaV (sIf (zaJ (eOp gEq (zag 2) (zj1 (zad (eC (.int 0)) (zad (eC (.int 0)) zaC))))) (zcN (zj1 (zad (eC (.int 1)) (zad (eC (.int 0)) zaC)))) zb9) zfD)
noncomputable def zeg : DSt -> R Out := (zaV (zaG 2 (zj1 (zad (eOp gSub (eOp zfs (zag 0) (eC (.int 9))) (eC (.int 4))) (zad (eOp gSub (eOp zfs (zag 1) (eC (.int 9))) (eC (.int 4))) zaC)))) zfE)
noncomputable def zb2 : List D -> R D := fnM 2 3 zeg
theorem zii (a0 : D) (a1 : D) : zb2 [a0, a1] = fin (zeg [some a0, some a1, none]) := zaO (b := zeg) rfl rfl
noncomputable def zdZ : DSt -> R Out := (sIf (zaJ (eOp gEq (zag 4) (zag 3))) (zaG 4 (zj1 (zad (eC (.int 0)) (zad (eC (.int 0)) (zad (eC (.int 1)) zaC))))) zb9)
noncomputable def ze4 : DSt -> R Out := (zaV (zaG 4 (zaF zao (zad (eOp zdz (eOp gIx (zag 3) (eC (.int 0))) (eC (.int 1))) (zad (eOp zdz (eOp gIx (zag 3) (eC (.int 1))) (eC (.int 2))) (zad (eOp zdz (eOp gIx (zag 3) (eC (.int 2))) (eC (.int 5))) zaC))))) zdZ)
noncomputable def zc3 : DSt -> R Out := (zaV (zmy 5 (eC (.int 2)) (eOp gIx (zag 5) (eC (.int 1)))) zb9)
noncomputable def zc4 : DSt -> R Out := (zaV (zmy 6 (eC (.int 2)) (eOp gIx (zag 6) (eC (.int 1)))) zc3)
noncomputable def zc5 : DSt -> R Out := (zaV (zmy 5 (eC (.int 0)) (eOp gIx (zag 5) (eC (.int 1)))) zc4)
noncomputable def zdM : DSt -> R Out := (zaV (zmy 6 (eC (.int 0)) (eOp gIx (zag 6) (eC (.int 1)))) zc5)
noncomputable def zd0 : DSt -> R Out := (sIf (zaJ (eOp gEq (zag 7) (zeH (zhl zaC)))) zdM zb9)
noncomputable def zcL : DSt -> R Out := (zaV (zmt 7 (eLC 1 [0] (zhn (zag 6)) zaR (zaJ (eOp gNe (zaF zaP (zad (zag 4) (zad (zag 5) (zad (zag 0) zaC)))) (eC (.int 0)))) (zag 0))) zd0)
noncomputable def ze5 : DSt -> R Out := (zaV (zvh [6, 5] 6 (eOp zfs (eOp gIx (zag 2) (eC (.int 17))) (eC (.int 4))) (zaF zaB (zad (eSl (zag 2) (zdU (eC (.int 18))) (zdU (eC (.int 22)))) zaC))) zcL)
noncomputable def zfF : DSt -> R Out := (sIf (eOr (zph (zaJ (zaF zaH (zad (zag 6) (zad (zag 5) zaC))))) (zph (zaJ (zaF zaH (zad (zag 9) (zad (zag 5) zaC)))))) (zcN (eC (.bl false))) zb9)
noncomputable def zfG : DSt -> R Out := (zaV (zmX [] 9 (zeH (eLC 1 [0] (zhn (zag 6)) zaR zdm (zaF zbD (zad (zag 9) (zad (zag 0) zaC)))))) zfF)
noncomputable def zcc : DSt -> R Out := (zaV (zaG 8 (zaF za4 (zad (eSl (zag 2) (zdU (eC (.int 24))) (zdU (eC (.int 34)))) zaC))) zfG)
noncomputable def zfH : DSt -> R Out := (zaV (sIf (zaJ (eOp gEq (eOp zfs (eOp gIx (zag 2) (eC (.int 16))) (eC (.int 6))) (eC (.int 1)))) ze5 zb9) zcc)
noncomputable def zd1 : DSt -> R Out := (zaV (zmt 6 (eLC 1 [0] (zhn (zag 5)) zaR zdm (zaF zbE (zad (zag 4) (zad (zag 5) (zad (zag 0) zaC)))))) zfH)
noncomputable def zd2 : DSt -> R Out := (zaV (zqA [] 5 (eLC 1 [0] (zkg zkf (zad (eC (.int 4)) zaC)) zaR zdm (zaF zb2 (zad (eOp gIx (zag 3) (eOp zdz (eC (.int 8)) (eOp zbI (eC (.int 2)) (zag 0)))) (zad (eOp gIx (zag 3) (eOp zdz (eC (.int 9)) (eOp zbI (eC (.int 2)) (zag 0)))) zaC))))) zd1)
noncomputable def zfI : DSt -> R Out := (zaV (sIf (zaJ (eOp gEq (zag 4) (zag 3))) ze4 zb9) zd2)
noncomputable def zfJ : DSt -> R Out := (zaV (zaG 4 (zaF zaB (zad (eSl (zag 2) (zdU (eC (.int 4))) (zdU (eC (.int 8)))) zaC))) zfI)
noncomputable def zfK : DSt -> R Out := (zaV (zaG 3 (zaF zaB (zad (eSl (zag 2) zi7 (zdU (eC (.int 4)))) zaC))) zfJ)
noncomputable def zcr : DSt -> R Out := (zaV (zaG 2 (zaF zaK (zad (zag 1) (zad (eC (.int 40)) zaC)))) zfK)
noncomputable def zgN : DSt -> R Out := (zcN (eC (.bl true)))
noncomputable def ze6 : DSt -> R Out := (zaV (zsl [] [1] zaR (zhn (eSl (eOp zdz (zeH (zhl (zad (eC (.int 0)) zaC))) (zag 0)) zi7 (zdU (eC (.int 30))))) zcr) zgN)
noncomputable def ze7 : List D -> R D := fnM 1 10 ze6
theorem zjS (a0 : D) : ze7 [a0] = fin (ze6 [some a0, none, none, none, none, none, none, none, none, none]) := zaO (b := ze6) rfl rfl
end Mir
section
open L2 DL Mir
local macro_rules | `(tactic| kd_p) => `(tactic| simp only [zk9, zn7, zn8, zn9, zoa, zla, zi8, zi9, zja, zqJ, zob, zoc, zod, zqK, zjb, zlb, zjc, zho, zjd, zlc, zoe, zje, zld, zjf, zle, zjg, zlf, zjh, zlg, zqM, zqN, zqO, zqP, zqQ, zqR, zqS, zqT, zlh, zqV, zqW, zqX, zqY, zqZ, zq0, zq1, zli, zlj, zji, zlk, zll, zq2, zq3, zof, zuA, zuB, zlm, zog, zln, zoh, zoi, zoj, zq4, zq5, zlo, zlp, zok, zq6, zq7, zol, zuD, zuE, zhp, zhq, zlq, zjj, zhr, zhs, zls, zom, zlt, zjk, zlu, zjl, zjm, zlv, zon, zlw, zlx, zop, zly, zoq, zor, zos, zot, zlz, zou, zht, zlA, zgn, zlB, zov, zlC, zra, zrb, zow, zox, zoy, zrc, zrd, zre, zrf, zrg, zrh, zri, zrj, zrk, zrl, zrm, zrn, zro, zoA, zoB, zlD, zmw, zlE, zlF, zlG, zlH, zlI, zlJ, zrp, zoC, zoD, zoE, zoF, zoG, eq_self, decide_true, decide_false, Int.reduceEq, Int.reduceLT, Int.reduceLE, Int.reduceNeg, Int.reduceToNat, zrq, zoH, zoI, zrr, zgo, zfv, zgp, zhu, zgq, zgr, zgs, zgt, zlK, zjr, zlL, zlM, zoJ, zoK, zlN, zoL, zfZ, zlS, zlO, zlP, zlQ, zlR, zjs, zoM, zfW, mask, zfR, List.contains_cons, List.contains_nil, Bool.or_false, Bool.false_or, Bool.true_or, Bool.or_true, Nat.reduceBEq, Nat.reduceAdd, xbo, cond_true, cond_false, List.set_cons_zero, List.set_cons_succ, xb8, xb6, Bool.not_not, Bool.true_and, Bool.false_and, Bool.and_true, Bool.and_false])
namespace LmP
open Mth
theorem zvj {n : Nat} {i : Int} (h : B n i) : i.natAbs <= 2 ^ n - 1 := by unfold B at h; omega
theorem zl0 {n : Nat} {x y z : Int} (hx : B n x) (hy : B n y) (hz : B n z) (h : NZ x y z) (hn : n <= 9000) : zpi (zdO x y z) = true := by
 refine zkj (n := n) ?_ (zcC h).ne hn
 have := zr8 (zvj hx) (zvj hy) (zvj hz)
 have p : 0 < 2 ^ n := Nat.pow_pos (by decide)
 unfold B; omega
theorem zfl (a b : Int) : zbM [.int a, .int b] = .ok (.int ((Nat.gcd a.natAbs b.natAbs : Nat) : Int)) := by
 rw [zjF]
 unfold zeV zgB zgA zgz
 kd_p
 have loop : ∀ (n m : Nat) (z : Option D), ∃ z', zbd zcR zdX [some (.int (m : Int)), some (.int (n : Int)), z] = .ok (.nx [some (.int ((Nat.gcd m n : Nat) : Int)), some (.int 0), z']) := by
  intro n
  induction n using Nat.strongRecOn with
  | _ n ih =>
   intro m z
   by_cases hn : n = 0
   ·subst hn
    refine ⟨z, ?_⟩
    rw [zh1 (by unfold zcR; kd_p; rfl), Nat.gcd_zero_right]; rfl
   ·have hlt : m % n < n := xcb _ (by omega)
    obtain ⟨z', h⟩ := ih (m % n) hlt n (some (.int ((m % n : Nat) : Int)))
    refine ⟨z', ?_⟩
    rw [zh0 (Z' := [some (.int (n : Int)), some (.int ((m % n : Nat) : Int)), some (.int ((m % n : Nat) : Int))]) ?_ ?_, h, Mth.gcd_step]
    ·unfold zcR; kd_p
     simp [hn]
    ·unfold zdX zep zeo; kd_p
     rw [zaD _ _ (by omega)]
     kd_p
     rfl
 obtain ⟨z', h⟩ := loop b.natAbs a.natAbs none
 rw [h]
 kd_p
theorem zmL (i : Int) : zcp [.int i] = .ok (.bl true) := by
 rw [zid]; unfold zec; kd_p
theorem zuV (x y z : Int) : (!decide (x = 0 /\ y = 0 /\ z = 0)) = decide (NZ x y z) := by
 unfold NZ; by_cases h : x = 0 /\ y = 0 /\ z = 0 <;> simp [h]
theorem zij (x y z : Int) : zbm [t3 x y z] = .ok (.bl (decide (NZ x y z))) := by
 rw [zfT]; unfold zcn; kd_p
 rw [zru (g := fun _ => .bl true) (by simp) (fun d hd => ?_)]
 ·kd_p
  rw [show zqH [.lst ([D.int x, D.int y, D.int z].map fun _ => D.bl true)] = .ok (.bl true) from rfl]
  kd_p
  rw [zuV]
 ·simp only [xaf, xas, or_false] at hd
  rcases hd with rfl | rfl | rfl <;> (kd_p; exact zmL _)
theorem zo3 (x y z : Int) (h : NZ x y z) (Z : DSt) : opK gIx (zsu (lcK 1 [0] (.ok [.int x, .int y, .int z]) zaR (zaJ (eOp gNe (zag 0) (eC (.int 0)))) (zag 0) Z)) (.ok (.int (-1))) = .ok (.int (zaE x y z)) := by
 rw [zeS (p := fun d => !eqD d (.int 0)) (g := id) (by simp) (fun d hd => ?_) (fun d hd _ => ?_)]
 ·kd_p
  unfold zaE
  by_cases hz : z = 0
  ·by_cases hy : y = 0
   ·have hx : x ≠ 0 := fun e => h ⟨e, hy, hz⟩
    subst hz; subst hy
    simp only [List.filter_cons, List.filter_nil, zfu, hx, decide_false, decide_true, xb6, xb8, if_true, xbk, if_false, xat, xbz, id, ne_eq, not_true_eq_false]
    rfl
   ·subst hz
    by_cases hx : x = 0
    ·subst hx
     simp only [List.filter_cons, List.filter_nil, zfu, hy, decide_false, decide_true, xb6, xb8, if_true, xbk, if_false, xat, xbz, id, ne_eq, not_true_eq_false, not_false_eq_true]
     rfl
    ·simp only [List.filter_cons, List.filter_nil, zfu, hx, hy, decide_false, decide_true, xb6, xb8, if_true, xbk, if_false, xat, xbz, id, ne_eq, not_true_eq_false, not_false_eq_true]
     rfl
  ·have e : List.map id (List.filter (fun d => !eqD d (.int 0)) [.int x, .int y, .int z]) = List.map id (List.filter (fun d => !eqD d (.int 0)) [.int x, .int y]) ++ [D.int z] := by
    rw [show ([.int x, .int y, .int z] : List D) = [.int x, .int y] ++ [.int z] from rfl, List.filter_append, xco]
    congr 1
    simp [zfu, hz]
   rw [e, zp7]
   simp [hz]
 ·simp only [xaf, xas, or_false] at hd
  rcases hd with rfl | rfl | rfl <;> (kd_p; rw [zfu])
 ·simp only [xaf, xas, or_false] at hd
  rcases hd with rfl | rfl | rfl <;> (kd_p; rfl)
abbrev lowD (x y z : Int) : D := t3 (x.fdiv (zdO x y z)) (y.fdiv (zdO x y z)) (z.fdiv (zdO x y z))
theorem zhy (x y z : Int) : (zaE x y z < 0 /\ zdO x y z = -((g3 x y z : Nat) : Int)) \/ (¬ zaE x y z < 0 /\ zdO x y z = ((g3 x y z : Nat) : Int)) := by
 unfold zdO
 by_cases h : zaE x y z < 0
 ·left; rw [if_pos h]; exact ⟨h, by omega⟩
 ·right; rw [if_neg h]; exact ⟨h, rfl⟩
theorem zjT {n : Nat} {x y z : Int} (hx : B n x) (hy : B n y) (hz : B n z) (h : NZ x y z) (hn : n <= 9000) : zbN [t3 x y z] = .ok (lowD x y z) := by
 have hd := zl0 hx hy hz h hn
 rw [zjG]; unfold zeW zgE zgD zgC; kd_p
 rw [zfl]; kd_p
 rw [zfl]; kd_p
 rw [zo3 x y z h]; kd_p
 rw [xcq]
 rcases zhy x y z with ⟨hl, hs⟩ | ⟨hl, hs⟩
 ·rw [decide_eq_true hl]; kd_p
  rw [show -(((Nat.gcd (Nat.gcd x.natAbs y.natAbs) z.natAbs : Nat)) : Int) = zdO x y z from hs.symm, zaU _ _ hd, zaU _ _ hd, zaU _ _ hd]
  kd_p
 ·rw [decide_eq_false hl]; kd_p
  rw [show (((Nat.gcd (Nat.gcd x.natAbs y.natAbs) z.natAbs : Nat)) : Int) = zdO x y z from hs.symm, zaU _ _ hd, zaU _ _ hd, zaU _ _ hd]
  kd_p
theorem zmM {n : Nat} {x y z : Int} (hx : B n x) (hy : B n y) (hz : B n z) (h : NZ x y z) (hn : n <= 9000) : zbT [t3 x y z] = .ok (.bl (decide (x.fdiv (zdO x y z) = x /\ y.fdiv (zdO x y z) = y /\ z.fdiv (zdO x y z) = z))) := by
 rw [zie]; unfold zed zfz zfy; kd_p
 rw [zij, decide_eq_true h]; kd_p
 rw [zjT hx hy hz h hn]; kd_p
end LmP
open L2 DL Mir
namespace LmA
open Mth LmP
theorem zkt (i : Int) : zbX [.int i] = .ok (.bl true) := by
 rw [zg8]; unfold zdw; kd_p
end LmA
open L2 DL Mir
namespace LmD
open Mth LmP LmA
abbrev ptD (p : P3) : D := t3 p.1 p.2.1 p.2.2
structure BP (n : Nat) (p : P3) : Prop where
 x : B n p.1
 y : B n p.2.1
 z : B n p.2.2
theorem BP.mono {m n : Nat} {p : P3} (h : BP m p) (hn : m <= n) : BP n p := ⟨h.x.mono hn, h.y.mono hn, h.z.mono hn⟩
theorem BP.crs {m n : Nat} {p q : P3} (hp : BP m p) (hq : BP n q) : BP (m + n + 1) (Mth.crs p q) :=
 ⟨((hp.y.mul hq.z).sub (hp.z.mul hq.y)).mono (by omega), ((hp.z.mul hq.x).sub (hp.x.mul hq.z)).mono (by omega), ((hp.x.mul hq.y).sub (hp.y.mul hq.x)).mono (by omega)⟩
theorem BP.dot {m n : Nat} {p q : P3} (hp : BP m p) (hq : BP n q) : B (m + n + 2) (Mth.dot p q) :=
 (((hp.x.mul hq.x).add (hp.y.mul hq.y)).add (hp.z.mul hq.z)).mono (by omega)
theorem BP.low {n : Nat} {p : P3} (h : BP n p) (hz : Nz p) : BP n (Mth.low p) := by
 obtain ⟨a, b, c⟩ := zr9 hz
 exact ⟨xbq a h.x, xbq b h.y, xbq c h.z⟩
theorem zaz {n : Nat} {i : Int} (h : B n i) (hn : n <= 10000) : zhX i = true := znY h (by omega)
theorem eqP (p q : P3) : (p.1 = q.1 /\ p.2.1 = q.2.1 /\ p.2.2 = q.2.2) ↔ p = q := ⟨fun ⟨a, b, c⟩ => xax a (xax b c), fun h => by subst h; exact ⟨rfl, rfl, rfl⟩⟩
theorem zrw (p q : P3) : eqD (ptD p) (ptD q) = decide (p = q) := by
 rw [zjq, decide_eq_decide.mpr (eqP p q)]
theorem zsS (d : D) (ds : List D) : gIx (.lst (d :: ds)) (.int 0) = .ok d := zfg (j := 0) rfl
theorem zuW {m n : Nat} {p q : P3} (hp : BP m p) (hq : BP n q) (hm : m <= 10000) (hn : n <= 10000) : zmJ [ptD p, ptD q] = .ok (.int (dot p q)) := by
 rw [zqm]; unfold zql; kd_p
 rw [zau _ _ (zaz hp.x hm) (zaz hq.x hn), zau _ _ (zaz hp.y hm) (zaz hq.y hn), zau _ _ (zaz hp.z hm) (zaz hq.z hn)]; kd_p
 rfl
theorem ze8 {m n : Nat} {p q : P3} (hp : BP m p) (hq : BP n q) (hm : m <= 10000) (hn : n <= 10000) : zcH [ptD p, ptD q] = .ok (ptD (crs p q)) := by
 rw [zmK]; unfold zif zjK zjJ zjI; kd_p
 rw [zau _ _ (zaz hp.y hm) (zaz hq.z hn), zau _ _ (zaz hp.z hm) (zaz hq.y hn)]; kd_p
 rw [zau _ _ (zaz hp.z hm) (zaz hq.x hn), zau _ _ (zaz hp.x hm) (zaz hq.z hn)]; kd_p
 rw [zau _ _ (zaz hp.x hm) (zaz hq.y hn), zau _ _ (zaz hp.y hm) (zaz hq.x hn)]; kd_p
 rfl
structure BM (n : Nat) (m : M3) : Prop where
 a : BP n m.1
 b : BP n m.2.1
 c : BP n m.2.2
theorem BM.mul {k n : Nat} {m : M3} {p : P3} (h : BM k m) (hp : BP n p) : BP (k + n + 2) (Mth.mul m p) := ⟨h.a.dot hp, h.b.dot hp, h.c.dot hp⟩
theorem zo4 {k n : Nat} {ns : List Int} (hb : ∀ i ∈ ns, B n i) (h : zaY ns ≠ 0) (hn : n <= 9000) : zpi (zg1 ns) = true := by
 refine zkj (n := n) ?_ (zj9 h) hn
 have := zse (ns := ns) (k := 2 ^ n - 1) fun i hi => zvj (hb i hi)
 have p : 0 < 2 ^ n := Nat.pow_pos (by decide)
 unfold B; omega
end LmD
open L2 DL Mir
namespace LmE
open Mth LmP LmA LmD
theorem zsT {i j : Nat} {ds : List D} {d : D} {Z : DSt} (hj : j < ds.length) : zwp i (.ok ds) (.ok d) (.ok (.int (j : Int))) Z = .ok (.nx (Z.set i (some (.lst (ds.set j d))))) := by
 show (match ixN ds.length (j : Int) with | some j => R.ok (Out.nx (Z.set i (some (.lst (ds.set j d))))) | none => .bad) = _
 have : ixN ds.length (j : Int) = some j := by
  unfold ixN; rw [if_pos (by omega), if_pos (by omega)]; rfl
 rw [this]
abbrev ptL (p : P3) : D := l3 p.1 p.2.1 p.2.2
end LmE
open L2 DL Mir
namespace Lk42
open Mth LmP LmA LmD LmE
theorem zsU (p : P3) (F : List P3) : in2 (ptD p) (F.map ptD) = true := by
 unfold in2
 rw [xav, xay]
 refine ⟨rfl, fun d hd => ?_⟩
 obtain ⟨q, _, rfl⟩ := xbb.mp hd
 rfl
theorem zo5 (p : P3) : ∀ F : List P3, inD (ptD p) (F.map ptD) = decide (p ∈ F)
 | [] => rfl
 | q :: F => by
  have ih := zo5 p F
  unfold inD at ih ⊢
  rw [xat, List.any_cons, ih, zrw]
  by_cases e : p = q
  ·subst e; simp
  ·have e' : ¬ q = p := fun z => e z.symm
   simp [e, e']
theorem nin_pts (p : P3) (F : List P3) : zm0 (ptD p) (.lst (F.map ptD)) = .ok (.bl (!decide (p ∈ F))) := by
 rw [zsF (zsU p F), zo5]
theorem eSl_to (fe f : DSt -> R D) (Z : DSt) (ds : List D) (n : Nat) (h1 : fe Z = .ok (.lst ds)) (h2 : f Z = .ok (.int (n : Int))) : eSl fe zi7 (zdU f) Z = .ok (.lst (ds.take n)) := by
 unfold eSl zi7 zdU
 rw [h1, h2]
 show R.ok (D.lst (zmZ ds none (some (n : Int)))) = _
 unfold zmZ
 rw [HT.sIx_none, HT.sIx_nat, List.drop_zero, Nat.sub_zero, <- List.take_eq_take_min]
theorem gAdd_ll {xs ys : List D} (h : xs.length + ys.length <= 1000000) : zdz (.lst xs) (.lst ys) = .ok (.lst (xs ++ ys)) := by
 show (bif znZ (xs.length + ys.length) then _ else _) = _
 rw [show znZ (xs.length + ys.length) = true from decide_eq_true (xba h (by decide))]; rfl
end Lk42
open L2 DL Mir
namespace LmB
open Mth LmP LmA LmD
theorem zmN {n : Nat} {p : P3} (h : BP n p) (hz : Nz p) (hn : n <= 9000) : zbN [t3 p.1 p.2.1 p.2.2] = .ok (ptD (low p)) := zjT h.x h.y h.z hz hn
theorem zmO {n : Nat} {p q : P3} (hp : BP n p) (hq : BP n q) (hn : n <= 4000) (hne : p ≠ q) (hL : Nz (crs p q)) : zaW [ptD p, ptD q] = .ok (ptD (low (crs p q))) := by
 rw [zeK]; unfold zbv zcS; kd_p
 rw [decide_eq_false (fun h => hne ((eqP p q).mp h))]; kd_p
 rw [ze8 hp hq (by omega) (by omega)]; kd_p
 rw [zmN (hp.crs hq) hL (by omega)]; kd_p
theorem zhz {n : Nat} {p q : P3} (hp : BP n p) (hq : BP n q) (hn : n <= 4000) (hne : p ≠ q) (hL : Nz (crs p q)) : za3 [ptD p, ptD q] = .ok (ptD (low (crs p q))) := by
 rw [zgF]; unfold zcT; kd_p
 rw [zmO hp hq hn hne hL]; kd_p
theorem zsV {m n : Nat} {p q : P3} (hp : BP m p) (hq : BP n q) (hm : m <= 10000) (hn : n <= 10000) : zdf [ptD p, ptD q] = .ok (.bl (decide (dot p q = 0))) := by
 rw [zjH]; unfold zeX; kd_p
 rw [zuW hp hq hm hn]; kd_p
theorem zqn (bs : List Bool) : zqH [.lst (bs.map D.bl)] = .ok (.bl (bs.all id)) := by
 show zqG (.lst (bs.map D.bl)) = _
 simp only [zqG, zi6]
theorem zik {α : Type} {xs : List α} {f : α -> D} {e : DSt -> R D} {Z : DSt} {g : α -> D} (hl : xs.length <= 1000000) (h : ∀ a ∈ xs, e (some (f a) :: Z) = .ok (g a)) : lcK 1 [0] (.ok (xs.map f)) zaR zdm e Z = .ok (xs.map g) := by
 have go : ∀ xs : List α, (∀ a ∈ xs, e (some (f a) :: Z) = .ok (g a)) -> lcD [0] zaR zdm e (List.replicate 1 none ++ Z) (xs.map f) = .ok (xs.map g) := by
  intro xs
  induction xs with
  | nil => intro _; rfl
  | cons d ds ih =>
   intro h
   show (e (some (f d) :: Z)).bind (fun y => (lcD [0] zaR zdm e (List.replicate 1 none ++ Z) (ds.map f)).bind fun ys => .ok (y :: ys)) = _
   rw [h d xae, ih fun d' hd => h d' (xab _ hd)]; rfl
 show (bif most (xs.map f).length then _ else _) = _
 rw [zh2 (by rw [xal]; exact hl), go xs h]; rfl
structure Pts (n : Nat) (ps : List P3) : Prop where
 nrm : ∀ p ∈ ps, Nrm p
 bd : ∀ p ∈ ps, BP n p
theorem zo6 {n : Nat} {ps : List P3} (h : Pts n ps) (hn : n <= 4000) (hl : ps.length <= 100000) : ∃ b, zbU [.lst (ps.map ptD)] = .ok (.bl b) /\ (b = true ↔ Col ps) := by
 rw [zg5]; unfold zdt; kd_p
 cases ps with
 | nil =>
  refine ⟨true, ?_, fun _ => Col.same (p0 := (0, 0, 0)) (by simp), fun _ => rfl⟩
  rfl
 | cons p0 ps =>
  rw [zeS (p := fun d => !eqD d (ptD p0)) (g := id) (by rw [xal]; omega) (fun d hd => ?_) (fun d hd _ => ?_)]
  ·rw [List.map_id]
   have hf : ((p0 :: ps).map ptD).filter (fun d => !eqD d (ptD p0)) = ((p0 :: ps).filter fun p => !decide (p = p0)).map ptD := by
    rw [List.filter_map]
    congr 1
    apply List.filter_congr
    intro p _
    exact congrArg _ (zrw p p0)
   rw [hf]; kd_p
   unfold ze0; kd_p
   cases ho : (p0 :: ps).filter (fun p => !decide (p = p0)) with
   | nil =>
    refine ⟨true, by rfl, fun _ => Col.same (p0 := p0) fun p hp => ?_, fun _ => rfl⟩
    by_cases e : p = p0
    ·exact e
    ·have : p ∈ (p0 :: ps).filter (fun p => !decide (p = p0)) := xbm.mpr ⟨hp, by simp [e]⟩
     rw [ho] at this; cases this
   | cons o os =>
    have mo : o ∈ p0 :: ps /\ o ≠ p0 := by
     have : o ∈ (p0 :: ps).filter (fun p => !decide (p = p0)) := by rw [ho]; exact xae
     rw [xbm] at this
     exact ⟨this.1, by simpa using this.2⟩
    have m0 : p0 ∈ p0 :: ps := xae
    have hL : Nz (crs p0 o) := zck (h.nrm _ m0) (h.nrm _ mo.1) fun e => mo.2 e.symm
    have hthru := zhz (h.bd _ m0) (h.bd _ mo.1) hn (fun e => mo.2 e.symm) hL
    rw [decide_eq_false (by simp; omega)]; kd_p
    simp only [xat]
    unfold zeZ; kd_p
    rw [zsS, zsS]; kd_p
    rw [hthru]; kd_p
    unfold zeY; kd_p
    have hos : ∀ p ∈ o :: os, p ∈ p0 :: ps := fun p hp => by
     rw [<- ho] at hp; exact (xbm.mp hp).1
    have hle : (o :: os).length <= 100000 := by
     rw [<- ho]; exact xba (List.length_filter_le _ _) hl
    rw [<- xat (f := ptD), zik (g := fun p => .bl (decide (dot p (low (crs p0 o)) = 0))) (by omega) (fun p hp => ?_)]
    ·kd_p
     rw [show (o :: os).map (fun p => D.bl (decide (dot p (low (crs p0 o)) = 0))) = ((o :: os).map fun p => decide (dot p (low (crs p0 o)) = 0)).map D.bl by rw [List.map_map]; rfl, zqn]; kd_p
     refine ⟨_, rfl, ?_⟩
     rw [Col.iff m0 mo.1 hL, List.all_map, xay]
     constructor
     ·intro q p hp
      by_cases e : p = p0
      ·subst e; unfold dot crs; grind
      ·have : p ∈ o :: os := by rw [<- ho]; exact xbm.mpr ⟨hp, by simp [e]⟩
       exact (zj7 hL).mp (of_decide_eq_true (q p this))
     ·intro q p hp
      exact decide_eq_true ((zj7 hL).mpr (q p (hos p hp)))
    ·kd_p
     rw [zsV (h.bd _ (hos p hp)) (((h.bd _ m0).crs (h.bd _ mo.1)).low hL) (by omega) (by omega)]
  ·obtain ⟨p, _, rfl⟩ := xbb.mp hd
   kd_p
   rw [xat, zsS]; kd_p
   rw [zjq]
  ·rfl
end LmB
open L2 DL Mir
namespace LmF
open Mth LmP LmA LmD LmE
theorem lc_3 {a b c x y z : D} {e : DSt -> R D} {Z : DSt} (ha : e (some a :: Z) = .ok x) (hb : e (some b :: Z) = .ok y) (hc : e (some c :: Z) = .ok z) : lcK 1 [0] (.ok [a, b, c]) zaR zdm e Z = .ok [x, y, z] := by
 have t : lcD [0] zaR zdm e (List.replicate 1 none ++ Z) [a, b, c] = (e (some a :: Z)).bind (fun y => ((e (some b :: Z)).bind fun y' => ((e (some c :: Z)).bind fun y'' => (R.ok ([] : List D)).bind fun ys => .ok (y'' :: ys)).bind fun ys => .ok (y' :: ys)).bind fun ys => .ok (y :: ys)) := rfl
 show (bif most 3 then (lcD [0] zaR zdm e (List.replicate 1 none ++ Z) [a, b, c]).noerr else .bad) = _
 rw [t, ha, hb, hc]; rfl
end LmF
open L2 DL Mir
namespace LmH
open Mth LmP LmA LmD LmB LmE LmF
theorem zjU {n : Nat} {p : P3} (hp : BP n p) (h : Nrm p) (hn : n <= 9000) : zbT [ptD p] = .ok (.bl true) := by
 rw [zmM hp.x hp.y hp.z h.nz hn, show zdO p.1 p.2.1 p.2.2 = 1 from h.one, zhK, zhK, zhK]
 simp
def key (p : P3) : List Int := [p.1, p.2.1, p.2.2]
theorem zku {p q : P3} (h : key p = key q) : p = q := by
 simp only [key, List.cons.injEq, and_true] at h
 exact xax h.1 (xax h.2.1 h.2.2)
theorem zil : ∀ ps : List P3, zbj (ps.map ptD) = some (ps.map key)
 | [] => rfl
 | p :: ps => by
  have ih := zil ps
  rw [xat, xat]
  unfold zbj
  rw [ih]; rfl
end LmH
open L2 DL Mir
open L2 DL Mir
namespace LmJ
open Mth LmP LmA LmD LmB LmE LmF LmH
def rg (lo m : Nat) : List Nat := (List.range (m - lo)).map (lo + ·)
theorem zrx {lo m k : Nat} : k ∈ rg lo m ↔ lo <= k /\ k < m := by
 unfold rg
 rw [xbb]
 constructor
 ·rintro ⟨i, hi, rfl⟩
  have := xa2.mp hi
  omega
 ·rintro ⟨h1, h2⟩
  exact ⟨k - lo, xa2.mpr (by omega), by omega⟩
theorem zsW (lo m : Nat) : zj2 (lo : Int) ((m : Int) - (lo : Int)).toNat = (rg lo m).map fun k : Nat => D.int (k : Int) := by
 unfold zj2 rg
 rw [List.map_map, show ((m : Int) - (lo : Int)).toNat = m - lo by omega]
 congr 1
def pk (ps : List P3) (k : Nat) : P3 := ps.getD k (0, 0, 1)
theorem zry {ps : List P3} {k : Nat} (h : k < ps.length) : ps[k]? = some (pk ps k) := by simp [pk, h]
theorem zuX {ps : List P3} {k : Nat} (h : k < ps.length) : pk ps k ∈ ps := xbf (zry h)
end LmJ
open L2 DL Mir
open L2 DL Mir
open L2 DL Mir
open L2 DL Mir
open L2 DL Mir
open L2 DL Mir
open L2 DL Mir
namespace LmM
open Mth LmP LmA LmD LmB LmE LmF LmH LmJ
theorem pow6 : zsp (.int 10) (.int 6) = .ok (.int 1000000) := rfl
theorem zwu : zsp (.int 10) (.int 18) = .ok (.int 1000000000000000000) := rfl
theorem mod6 (x : Int) : zfs (.int x) (.int 1000000) = .ok (.int (x % 1000000)) := zaD x 1000000 (by decide)
theorem zuY (n m : Nat) (x y z l : Option D) : zbd za7 zbx [x, y, z, some (.int (m : Int)), some (.int (n : Int)), l] = .ok (.nx [x, y, z, some (.int ((Nat.gcd m n : Nat) : Int)), some (.int 0), l]) := by
 induction n using Nat.strongRecOn generalizing m with
 | _ n ih =>
  by_cases hn : n = 0
  ·subst hn
   rw [zh1 (by unfold za7; kd_p; rfl), Nat.gcd_zero_right]; rfl
  ·have hlt : m % n < n := xcb _ (by omega)
   have h := ih (m % n) hlt n
   rw [zh0 (Z' := [x, y, z, some (.int (n : Int)), some (.int ((m % n : Nat) : Int)), l]) ?_ ?_, h, Mth.gcd_step]
   ·unfold za7; kd_p
    rw [decide_eq_false (by omega)]; rfl
   ·unfold zbx; kd_p
    rw [zaD _ _ (by omega)]
    kd_p
    rfl
theorem zvk {n : Nat} {p : P3} (h : BP n p) (hz : Nz p) (hn : n <= 9000) : zao [.int p.1, .int p.2.1, .int p.2.2] = .ok (ptD (low p)) := by
 have hd := zl0 h.x h.y h.z hz hn
 show _ = R.ok (lowD p.1 p.2.1 p.2.2)
 rw [ze1]; unfold zbO; kd_p
 unfold zdi; kd_p
 unfold zcY
 rw [zuY]; kd_p
 rw [zuY]; kd_p
 unfold zdh; kd_p
 rw [zo3 p.1 p.2.1 p.2.2 hz]; kd_p
 unfold zdg; kd_p
 rcases zhy p.1 p.2.1 p.2.2 with ⟨hl, hs⟩ | ⟨hl, hs⟩
 ·rw [decide_eq_true hl]; kd_p
  unfold zbY; kd_p
  rw [show 0 - (((Nat.gcd (Nat.gcd p.1.natAbs p.2.1.natAbs) p.2.2.natAbs : Nat)) : Int) = zdO p.1 p.2.1 p.2.2 from by rw [hs, Int.zero_sub]; rfl, zaU _ _ hd, zaU _ _ hd, zaU _ _ hd]
  kd_p
 ·rw [decide_eq_false hl]; kd_p
  unfold zbY; kd_p
  rw [show (((Nat.gcd (Nat.gcd p.1.natAbs p.2.1.natAbs) p.2.2.natAbs : Nat)) : Int) = zdO p.1 p.2.1 p.2.2 from hs.symm, zaU _ _ hd, zaU _ _ hd, zaU _ _ hd]
  kd_p
end LmM
open L2 DL Mir
open L2 DL Mir
namespace LmQ
open Mth LmP LmA LmD LmB LmE LmF LmH LmJ
theorem zo7 (keys : Nat -> List Int) : ∀ (n : Nat) (ks : List Int), ks ∈ zg0 keys n ↔ ∃ j, j < n /\ keys j = ks
 | 0, ks => ⟨(fun h => by cases h), (fun ⟨j, h, _⟩ => absurd h (by omega))⟩
 | n + 1, ks => by
  show ks ∈ zj3 (zg0 keys n) (keys n) ↔ _
  have ih := zo7 keys n
  have e : ks ∈ zj3 (zg0 keys n) (keys n) ↔ ks ∈ zg0 keys n \/ ks = keys n := by
   unfold zj3
   split
   ·rename_i hin
    exact ⟨.inl, fun h => h.elim id fun z => by rw [z]; exact hin⟩
   ·rw [xaf]; exact ⟨fun h => h.elim .inr .inl, fun h => h.elim .inr .inl⟩
  rw [e, ih]
  constructor
  ·rintro (⟨j, h1, h2⟩ | h)
   ·exact ⟨j, by omega, h2⟩
   ·exact ⟨n, by omega, h.symm⟩
  ·rintro ⟨j, h1, h2⟩
   by_cases z : j = n
   ·subst z; exact .inr h2.symm
   ·exact .inl ⟨j, by omega, h2⟩
theorem zrz (keys : Nat -> List Int) : ∀ n : Nat, (zg0 keys n).length <= n
 | 0 => xaj _
 | n + 1 => by
  have := zrz keys n
  show (zj3 (zg0 keys n) (keys n)).length <= _
  unfold zj3; split
  ·omega
  ·rw [xap]; omega
theorem zwv {ps : List P3} {k : Nat} (h : k < ps.length) : (ps.map key).getD k [] = key (pk ps k) := by
 rw [xb3, xbl, zry h]; rfl
theorem zjV (f : DSt -> R D) (Z : DSt) : zh5 f Z = (f Z).bind zdV := rfl
theorem zmP {ps : List P3} (h4 : (zci (ps.map key)).length <= 18) : zdV (.lst (ps.map ptD)) = .ok (.int (zci (ps.map key)).length) := by
 show (match zbj (ps.map ptD) with | some kss => (bif Nat.ble (zci kss).length 18 then R.ok (D.int (zci kss).length) else .bad) | none => .bad) = _
 rw [zil]
 show (bif Nat.ble (zci (ps.map key)).length 18 then R.ok (D.int (zci (ps.map key)).length) else .bad) = _
 rw [show Nat.ble (zci (ps.map key)).length 18 = true from by rw [Nat.ble_eq]; omega]; rfl
theorem zo8 (kss : List (List Int)) : (zci kss).length <= kss.length := zrz _ _
end LmQ
open L2 DL Mir
namespace LmS
open Mth LmP LmA LmD LmB LmE LmF LmH LmJ LmM LmQ
def Dd (ds : List Int) : Prop := ∀ d ∈ ds, 0 <= d
theorem Dd.snoc {ds : List Int} {d : Int} (h : Dd ds) (hd : 0 <= d) : Dd (ds ++ [d]) := fun e he => by
 rcases xb1.mp he with he | he
 ·exact h e he
 ·rw [xbr.mp he]; exact hd
def dg (ds : List Int) (k : Nat) : Int := ds.getD k 0
theorem zuZ {ds : List Int} {k : Nat} (h : k < ds.length) : ds[k]? = some (dg ds k) := by simp [dg, h]
theorem ixd {ds : List Int} {k : Nat} (h : k < ds.length) : gIx (.lst (ds.map .int)) (.int (k : Int)) = .ok (.int (dg ds k)) := zfg (by rw [xbl, zuZ h]; rfl)
theorem zkv (fe f g : DSt -> R D) (Z : DSt) (ds : List D) (a b : Nat) (h1 : fe Z = .ok (.lst ds)) (h2 : f Z = .ok (.int (a : Int))) (h3 : g Z = .ok (.int (b : Int))) (hb : b <= ds.length) (hab : a <= b) : eSl fe (zdU f) (zdU g) Z = .ok (.lst ((ds.drop a).take (b - a))) := by
 unfold eSl zdU
 rw [h1, h2, h3]
 show R.ok (D.lst (zmZ ds (some (a : Int)) (some (b : Int)))) = _
 unfold zmZ
 rw [HT.sIx_nat, HT.sIx_nat, Nat.min_eq_left hb, Nat.min_eq_left (by omega)]
theorem zqo (fe f : DSt -> R D) (Z : DSt) (ds : List D) (n : Nat) (h1 : fe Z = .ok (.lst ds)) (h2 : f Z = .ok (.int (n : Int))) : eSl fe (zdU f) zi7 Z = .ok (.lst (ds.drop n)) := by
 unfold eSl zi7 zdU
 rw [h1, h2]
 show R.ok (D.lst (zmZ ds (some (n : Int)) none)) = _
 unfold zmZ
 rw [HT.sIx_none, HT.sIx_nat]
 congr 2
 by_cases h : n <= ds.length
 ·rw [Nat.min_eq_left h, List.take_of_length_le (by rw [xbv]; omega)]
 ·rw [Nat.min_eq_right (by omega), xcy (by omega), xcy (by omega)]; simp
theorem zkw (ds : List Int) (a n : Nat) : ((ds.map D.int).drop a).take n = ((ds.drop a).take n).map D.int := by rw [List.map_take, List.map_drop]
theorem zrA (n : Nat) (hn : n <= 1000) : zkf [.int (n : Int)] = .ok ((rg 0 n).map fun k : Nat => D.int (k : Int)) := by
 rw [zrs _ (zrt (by omega) (by omega)), show zj2 0 (n : Int).toNat = (rg 0 n).map fun k : Nat => D.int (k : Int) from by have := zsW 0 n; simpa using this]
theorem zmQ (c : Int) (many : Nat) (hm : many <= 100) : ∃ ds : List Int, zaK [.int c, .int (many : Int)] = .ok (.lst (ds.map .int)) /\ ds.length = many /\ Dd ds := by
 rw [zeL]; unfold zbw; kd_p
 obtain ⟨N, hN, n0⟩ : ∃ N : Int, max c (-1 - c) = N /\ 0 <= N := ⟨_, rfl, by omega⟩
 rw [hN]
 unfold zcX; kd_p
 unfold zcW; kd_p
 unfold zcV; kd_p
 rw [zrA many (by omega)]; kd_p
 have turn : ∀ (j : Nat) (d : D) (Z : DSt), ((rg 0 many).map fun k : Nat => D.int (k : Int))[j]? = some d -> (∃ es l x y, Z = [some (.int c), some (.int (many : Int)), some (.int N), some (.int l), some (.lst (es.map D.int)), x, y] /\ es.length = j /\ Dd es /\ 0 <= l) -> ∃ Z', (zaT (Z.set 5 (some d)) = .ok (.nx Z') \/ zaT (Z.set 5 (some d)) = .ok (.ct Z')) /\ ∃ es l x y, Z' = [some (.int c), some (.int (many : Int)), some (.int N), some (.int l), some (.lst (es.map D.int)), x, y] /\ es.length = j + 1 /\ Dd es /\ 0 <= l := by
  rintro j d Z hd ⟨es, l, x, y, rfl, h1, h2, h3⟩
  obtain ⟨i, hi, rfl⟩ := xbb.mp (xbf hd)
  have hi := (zrx.mp hi).2
  have hj : j < many := by
   have := (xah.mp hd).1
   rw [xal] at this
   unfold rg at this
   simpa using this
  rw [show List.set _ 5 _ = [some (.int c), some (.int (many : Int)), some (.int N), some (.int l), some (.lst (es.map D.int)), some (.int (i : Int)), y] from rfl]
  have els : ∃ Z', (za0 [some (.int c), some (.int (many : Int)), some (.int N), some (.int l), some (.lst (es.map D.int)), some (.int (i : Int)), y] = .ok (.nx Z') \/ za0 [some (.int c), some (.int (many : Int)), some (.int N), some (.int l), some (.lst (es.map D.int)), some (.int (i : Int)), y] = .ok (.ct Z')) /\ ∃ es l x y, Z' = [some (.int c), some (.int (many : Int)), some (.int N), some (.int l), some (.lst (es.map D.int)), x, y] /\ es.length = j + 1 /\ Dd es /\ 0 <= l := by
   have bi : B 7 (i : Int) := B.of (k := 100) (by omega)
   have b101 : B 7 101 := B.of (k := 101) (by decide)
   unfold za0; kd_p
   rw [zau 101 _ (by decide) (zaz bi (by decide))]; kd_p
   rw [zau (101 * (i : Int)) _ (zaz (b101.mul bi) (by decide)) (zaz bi (by decide))]; kd_p
   rw [zaD _ _ (by decide)]; kd_p
   have w0 := xbu (N + 101 * (i : Int) * (i : Int) + (i : Int)) (show (2147483647 : Int) ≠ 0 by decide)
   have w1 := xb0 (N + 101 * (i : Int) * (i : Int) + (i : Int)) (show (0 : Int) < 2147483647 by decide)
   generalize (N + 101 * (i : Int) * (i : Int) + (i : Int)) % 2147483647 = u at w0 w1
   rw [zau u 48271 (zaz (n := 31) (B.of (k := 2147483647) (by omega)) (by decide)) (by decide)]; kd_p
   rw [zaD _ _ (by decide)]; kd_p
   have v0 := xbu (u * 48271) (show (2147483647 : Int) ≠ 0 by decide)
   have v1 := xb0 (u * 48271) (show (0 : Int) < 2147483647 by decide)
   generalize (u * 48271) % 2147483647 = v at v0 v1
   have bv : zhX v = true := zaz (n := 31) (B.of (k := 2147483647) (by omega)) (by decide)
   unfold zbR; kd_p
   rw [zau v v bv bv]; kd_p
   rw [zaD _ _ (by decide)]; kd_p
   have t0 := xbu (v * v) (show (2147483629 : Int) ≠ 0 by decide)
   have t1 := xb0 (v * v) (show (0 : Int) < 2147483629 by decide)
   generalize (v * v) % 2147483629 = t at t0 t1
   rw [zau t 48271 (zaz (n := 31) (B.of (k := 2147483647) (by omega)) (by decide)) (by decide)]; kd_p
   rw [zaD _ _ (by decide)]
   rw [zgm _ _ _ _ (by rw [xal]; omega)]; kd_p
   exact ⟨_, .inl rfl, es ++ [_], l, _, _, by rw [xco]; rfl, by simp; omega, h2.snoc (xbu _ (by decide)), h3⟩
  unfold zaT; kd_p
  rw [zwu]; kd_p
  by_cases hN18 : 1000000000000000000 <= N
  ·rw [decide_eq_true hN18]; kd_p
   by_cases hl : 0 < l
   ·rw [decide_eq_true hl]; kd_p
    unfold zcj; kd_p
    rw [pow6]
    rw [zoc, mod6]
    rw [zgm _ _ _ _ (by rw [xal]; omega)]; kd_p
    unfold zbQ; kd_p
    rw [pow6]; kd_p
    rw [show zeI (.int l) (.int 1000000) = .ok (.int (l / 1000000)) from zjn l 1000000 (by decide) (by decide)]; kd_p
    exact ⟨_, .inl rfl, es ++ [_], _, _, _, by rw [xco]; rfl, by simp; omega, h2.snoc (xbu _ (by decide)), Int.ediv_nonneg h3 (by decide)⟩
   ·rw [decide_eq_false hl]; kd_p
    exact els
  ·rw [decide_eq_false hN18]; kd_p
   exact els
 obtain ⟨Z', e, es, l, x, y, rfl, h1, h2, _⟩ := zp8 (i := 5) (fb := zaT) (fun j Z => ∃ es l x y, Z = [some (.int c), some (.int (many : Int)), some (.int N), some (.int l), some (.lst (es.map D.int)), x, y] /\ es.length = j /\ Dd es /\ 0 <= l) _ turn [some (.int c), some (.int (many : Int)), some (.int N), some (.int N), some (.lst []), none, none] ⟨[], N, none, none, rfl, rfl, (fun d hd => by cases hd), n0⟩
 rw [e]; kd_p
 unfold zcU; kd_p
 refine ⟨es, rfl, ?_, h2⟩
 rw [h1, xal]; unfold rg; simp
theorem zim {ds : List Int} (hl : ds.length = 4) : ∃ p, zaB [.lst (ds.map .int)] = .ok (ptD p) /\ Nrm p /\ BP 24 p := by
 have go : ∀ (most w : Int), gIx (.lst [.int 2, .int 5, .int 1000]) (.int (dg ds 3 % 3)) = .ok (.int most) -> 2 * most + 1 = w -> 0 < w -> w <= 2001 -> 0 <= most -> ∃ p, zaB [.lst (ds.map .int)] = .ok (ptD p) /\ Nrm p /\ BP 24 p := by
  intro most w he hw w0 w1 m0
  have mm : zhX most = true := zaz (n := 24) (B.of (k := 2001) (by omega)) (by decide)
  rw [zfi]; unfold zb5; kd_p
  rw [show gIx (.lst (ds.map .int)) (.int 3) = _ from ixd (k := 3) (by omega)]; kd_p
  rw [zaD _ _ (by decide)]; kd_p
  rw [he]; kd_p
  unfold zdD; kd_p
  rw [show gIx (.lst (ds.map .int)) (.int 0) = _ from ixd (k := 0) (by omega), zau 2 most (by decide) mm]; kd_p
  rw [hw, zaD _ _ w0]; kd_p
  unfold zdC; kd_p
  rw [show gIx (.lst (ds.map .int)) (.int 1) = _ from ixd (k := 1) (by omega), zau 2 most (by decide) mm]; kd_p
  rw [hw, zaD _ _ w0]; kd_p
  unfold zdB; kd_p
  rw [show gIx (.lst (ds.map .int)) (.int 2) = _ from ixd (k := 2) (by omega), zau 2 most (by decide) mm]; kd_p
  rw [hw, zaD _ _ w0]; kd_p
  have rng : ∀ e : Int, -2001 <= e % w - most /\ e % w - most <= 2001 := fun e => by
   have x0 := xbu e (show w ≠ 0 by omega)
   have x1 := xb0 e w0
   omega
  have hx := rng (dg ds 0)
  have hy := rng (dg ds 1)
  have hz := rng (dg ds 2)
  generalize dg ds 0 % w - most = x at hx
  generalize dg ds 1 % w - most = y at hy
  generalize dg ds 2 % w - most = z at hz
  unfold zdA; kd_p
  have bp : ∀ z : Int, -2001 <= z /\ z <= 2001 -> BP 24 (x, y, z) := fun z hz => ⟨B.of (k := 2001) (by show x.natAbs <= 2001; omega), B.of (k := 2001) (by show y.natAbs <= 2001; omega), B.of (k := 2001) (by show z.natAbs <= 2001; omega)⟩
  have fin : ∀ z : Int, -2001 <= z /\ z <= 2001 -> Nz (x, y, z) -> ∃ p, fin (zce [some (.lst (ds.map .int)), some (.int most), some (.int x), some (.int y), some (.int z)]) = .ok (ptD p) /\ Nrm p /\ BP 24 p := fun z hz nz => by
   refine ⟨low (x, y, z), ?_, zdR nz, (bp z hz).low nz⟩
   unfold zce; kd_p
   rw [zvk (p := (x, y, z)) (bp z hz) nz (by decide)]; kd_p
  by_cases h1 : x = 0
  ·rw [decide_eq_true h1]; kd_p
   by_cases h2 : y = 0
   ·rw [decide_eq_true h2]; kd_p
    by_cases h3 : z = 0
    ·rw [decide_eq_true h3]; kd_p
     exact fin 1 (by omega) (fun q => absurd (show (1 : Int) = 0 from q.2.2) (by decide))
    ·rw [decide_eq_false h3]; kd_p
     exact fin z hz fun q => h3 q.2.2
   ·rw [decide_eq_false h2]; kd_p
    exact fin z hz fun q => h2 q.2.1
  ·rw [decide_eq_false h1]; kd_p
   exact fin z hz fun q => h1 q.1
 rcases (show dg ds 3 % 3 = 0 \/ dg ds 3 % 3 = 1 \/ dg ds 3 % 3 = 2 by omega) with z | z | z
 ·exact go 2 5 (by rw [z]; rfl) (by decide) (by decide) (by decide) (by decide)
 ·exact go 5 11 (by rw [z]; rfl) (by decide) (by decide) (by decide) (by decide)
 ·exact go 1000 2001 (by rw [z]; rfl) (by decide) (by decide) (by decide) (by decide)
theorem zgO {m n : Nat} {p q : P3} (hp : BP m p) (hq : BP n q) (hm : m <= 4000) (hn : n <= 4000) : zca [ptL p, ptD q] = .ok (.int (dot p q)) := by
 rw [zjR]; unfold ze2; kd_p
 rw [zau _ _ (zaz hp.x (by omega)) (zaz hq.x (by omega)), zau _ _ (zaz hp.y (by omega)) (zaz hq.y (by omega)), zau _ _ (zaz hp.z (by omega)) (zaz hq.z (by omega))]; kd_p
 rfl
theorem zo9 {n : Nat} {x y z : P3} (hx : BP n x) (hy : BP n y) (hz : BP n z) (hn : n <= 3000) {dx dy dz : D} (h : (dx = ptD x /\ dy = ptD y /\ dz = ptD z) \/ (dx = ptL x /\ dy = ptL y /\ dz = ptL z)) : zaP [dx, dy, dz] = .ok (.int (zka x y z)) := by
 have m1 : ∀ {i : Int}, B n i -> zhX i = true := fun h => zaz h (by omega)
 have m2 : ∀ {a b c d : Int}, B n a -> B n b -> B n c -> B n d -> zhX (a * b - c * d) = true := fun ha hb hc hd => zaz ((ha.mul hb).sub (hc.mul hd)) (by omega)
 have e1 := zau _ _ (m1 hy.y) (m1 hz.z)
 have e2 := zau _ _ (m1 hy.z) (m1 hz.y)
 have e3 := zau _ _ (m1 hy.x) (m1 hz.z)
 have e4 := zau _ _ (m1 hy.z) (m1 hz.x)
 have e5 := zau _ _ (m1 hy.x) (m1 hz.y)
 have e6 := zau _ _ (m1 hy.y) (m1 hz.x)
 have f1 := zau _ _ (m1 hx.x) (m2 hy.y hz.z hy.z hz.y)
 have f2 := zau _ _ (m1 hx.y) (m2 hy.x hz.z hy.z hz.x)
 have f3 := zau _ _ (m1 hx.z) (m2 hy.x hz.y hy.y hz.x)
 have fin : x.1 * (y.2.1 * z.2.2 - y.2.2 * z.2.1) - x.2.1 * (y.1 * z.2.2 - y.2.2 * z.1) + x.2.2 * (y.1 * z.2.1 - y.2.1 * z.1) = zka x y z := by unfold zka dot crs; grind
 rw [zgI]
 rcases h with ⟨rfl, rfl, rfl⟩ | ⟨rfl, rfl, rfl⟩
 ·unfold zcb; kd_p
  unfold zdb; kd_p
  unfold zda; kd_p
  rw [e1, e2]; kd_p
  rw [f1]; kd_p
  unfold zc9; kd_p
  rw [e3, e4]; kd_p
  rw [f2]; kd_p
  unfold zc8; kd_p
  rw [e5, e6]; kd_p
  rw [f3]; kd_p
  rw [fin]
 ·unfold zcb; kd_p
  unfold zdb; kd_p
  unfold zda; kd_p
  rw [e1, e2]; kd_p
  rw [f1]; kd_p
  unfold zc9; kd_p
  rw [e3, e4]; kd_p
  rw [f2]; kd_p
  unfold zc8; kd_p
  rw [e5, e6]; kd_p
  rw [f3]; kd_p
  rw [fin]
abbrev zsX (m : M3) : D := .lst [ptL m.1, ptL m.2.1, ptL m.2.2]
theorem zpa {ds : List Int} (hd : Dd ds) (hl : ds.length = 10) : ∃ m, za4 [.lst (ds.map .int)] = .ok (zsX m) /\ det m ≠ 0 /\ BM 6 m := by
 have go : ∀ (most w : Int), gIx (.lst [.int 1, .int 2, .int 30]) (.int (dg ds 9 % 3)) = .ok (.int most) -> 2 * most + 1 = w -> 0 < w -> w <= 61 -> 0 <= most -> ∃ m, za4 [.lst (ds.map .int)] = .ok (zsX m) /\ det m ≠ 0 /\ BM 6 m := by
  intro most w he hw w0 w1 m0
  have mm : zhX most = true := zaz (n := 24) (B.of (k := 61) (by omega)) (by decide)
  have b6 : ∀ e : Int, B 6 (e % w - most) := fun e => by
   have x0 := xbu e (show w ≠ 0 by omega)
   have x1 := xb0 e w0
   exact B.of (k := 61) (by omega)
  have f : ∀ k : Nat, ∃ x, x = dg ds k % w - most := fun k => ⟨_, rfl⟩
  have row : ∀ (j : Nat) (rs : List D) (x : Option D), j < 3 -> rs.length <= 10 -> zcI [some (.lst (ds.map .int)), some (.int most), some (.lst rs), some (.int (j : Int)), x] = .ok (.nx [some (.lst (ds.map .int)), some (.int most), some (.lst (rs ++ [ptL (dg ds (3 * j) % w - most, dg ds (3 * j + 1) % w - most, dg ds (3 * j + 2) % w - most)])), some (.int (j : Int)), some (.lst [.int (dg ds (3 * j)), .int (dg ds (3 * j + 1)), .int (dg ds (3 * j + 2))])]) := by
   intro j rs x hj hr
   have one : ∀ (k : Nat) (y0 : Option D), k < 3 -> (eOp gIx (zag 1) (eOp zdz (eOp zbI (eC (.int 3)) (zag 4)) (zag 0))) [some (.int (k : Int)), some (.lst (ds.map .int)), some (.int most), y0, some (.int (j : Int)), x] = .ok (.int (dg ds (3 * j + k))) := fun k y0 hk => by
    kd_p
    rw [zau 3 (j : Int) (by decide) (zaz (n := 4) (B.of (k := 3) (by omega)) (by decide))]; kd_p
    rw [show (3 * (j : Int) + (k : Int)) = ((3 * j + k : Nat) : Int) by omega]
    exact ixd (by omega)
   unfold zcI; kd_p
   rw [show zkf [.int 3] = .ok [.int ((0 : Nat) : Int), .int ((1 : Nat) : Int), .int ((2 : Nat) : Int)] from rfl, lc_3 (one 0 _ (by decide)) (one 1 _ (by decide)) (one 2 _ (by decide))]; kd_p
   unfold zdj; kd_p
   have two : ∀ (e : Int) (y0 y1 : Option D), (eOp gSub (eOp zfs (zag 0) (eOp zdz (eOp zbI (eC (.int 2)) (zag 2)) (eC (.int 1)))) (zag 2)) [some (.int e), some (.lst (ds.map .int)), some (.int most), y0, some (.int (j : Int)), y1] = .ok (.int (e % w - most)) := fun e y0 y1 => by
    kd_p
    rw [zau 2 most (by decide) mm]; kd_p
    rw [hw, zaD _ _ w0]; kd_p
   rw [lc_3 (two _ _ _) (two _ _ _) (two _ _ _)]; kd_p
   rw [zgm _ _ _ _ (by omega)]; kd_p
   rfl
  rw [zgJ]; unfold zcZ; kd_p
  rw [show gIx (.lst (ds.map .int)) (.int 9) = _ from ixd (k := 9) (by omega)]; kd_p
  rw [zaD _ _ (by decide)]; kd_p
  rw [he]; kd_p
  unfold zet; kd_p
  unfold zes; kd_p
  rw [show zkf [.int 3] = .ok [.int ((0 : Nat) : Int), .int ((1 : Nat) : Int), .int ((2 : Nat) : Int)] from rfl]; kd_p
  rw [row 0 _ _ (by decide) (by simp)]; kd_p
  rw [row 1 _ _ (by decide) (by simp)]; kd_p
  rw [row 2 _ _ (by decide) (by simp)]; kd_p
  unfold zer
  obtain ⟨m, hm⟩ : ∃ m : M3, m = ((dg ds (3 * 0) % w - most, dg ds (3 * 0 + 1) % w - most, dg ds (3 * 0 + 2) % w - most), (dg ds (3 * 1) % w - most, dg ds (3 * 1 + 1) % w - most, dg ds (3 * 1 + 2) % w - most), (dg ds (3 * 2) % w - most, dg ds (3 * 2 + 1) % w - most, dg ds (3 * 2 + 2) % w - most)) := ⟨_, rfl⟩
  have bm : BM 6 m := by rw [hm]; exact ⟨⟨b6 _, b6 _, b6 _⟩, ⟨b6 _, b6 _, b6 _⟩, ⟨b6 _, b6 _, b6 _⟩⟩
  rw [show ([] ++ [ptL (dg ds (3 * 0) % w - most, dg ds (3 * 0 + 1) % w - most, dg ds (3 * 0 + 2) % w - most)] ++ [ptL (dg ds (3 * 1) % w - most, dg ds (3 * 1 + 1) % w - most, dg ds (3 * 1 + 2) % w - most)] ++ [ptL (dg ds (3 * 2) % w - most, dg ds (3 * 2 + 1) % w - most, dg ds (3 * 2 + 2) % w - most)]) = [ptL m.1, ptL m.2.1, ptL m.2.2] from by rw [hm]; rfl]
  kd_p
  rw [zo9 bm.a bm.b bm.c (by decide) (.inr ⟨rfl, rfl, rfl⟩)]; kd_p
  by_cases hz : zka m.1 m.2.1 m.2.2 = 0
  ·rw [decide_eq_true hz]; kd_p
   rw [show gIx (.lst (ds.map .int)) (.int 0) = _ from ixd (k := 0) (by omega), show gIx (.lst (ds.map .int)) (.int 1) = _ from ixd (k := 1) (by omega), show gIx (.lst (ds.map .int)) (.int 2) = _ from ixd (k := 2) (by omega), show gIx (.lst (ds.map .int)) (.int 4) = _ from ixd (k := 4) (by omega)]; kd_p
   rw [zaD _ _ (by decide), zaD _ _ (by decide), zaD _ _ (by decide), zaD _ _ (by decide)]; kd_p
   refine ⟨((1, dg ds 0 % 7, dg ds 1 % 5), (0, 1, dg ds 2 % 9), (0, 0, 1 + dg ds 4 % 4)), rfl, ?_, ⟨B.of (k := 61) (by show (1 : Int).natAbs <= 61; decide), B.of (k := 61) (by show (dg ds 0 % 7).natAbs <= 61; omega), B.of (k := 61) (by show (dg ds 1 % 5).natAbs <= 61; omega)⟩, ⟨B.of (k := 61) (by show (0 : Int).natAbs <= 61; decide), B.of (k := 61) (by show (1 : Int).natAbs <= 61; decide), B.of (k := 61) (by show (dg ds 2 % 9).natAbs <= 61; omega)⟩, ⟨B.of (k := 61) (by show (0 : Int).natAbs <= 61; decide), B.of (k := 61) (by show (0 : Int).natAbs <= 61; decide), B.of (k := 61) (by show (1 + dg ds 4 % 4).natAbs <= 61; omega)⟩⟩
   unfold det dot crs
   simp only [Int.one_mul, Int.zero_mul, xb7, Int.sub_zero, Int.add_zero]
   omega
  ·rw [decide_eq_false hz]; kd_p
   unfold zeq; kd_p
   exact ⟨m, rfl, hz, bm⟩
 rcases (show dg ds 9 % 3 = 0 \/ dg ds 9 % 3 = 1 \/ dg ds 9 % 3 = 2 by omega) with z | z | z
 ·exact go 1 3 (by rw [z]; rfl) (by decide) (by decide) (by decide) (by decide)
 ·exact go 2 5 (by rw [z]; rfl) (by decide) (by decide) (by decide) (by decide)
 ·exact go 30 61 (by rw [z]; rfl) (by decide) (by decide) (by decide) (by decide)
theorem zww {n : Nat} {m : M3} {p : P3} (hm : BM 6 m) (hp : BP n p) (hn : n <= 3000) (hd : det m ≠ 0) (hz : Nz p) : zbD [zsX m, ptD p] = .ok (ptD (low (mul m p))) := by
 have nz := ziM hd hz
 have bm := hm.mul hp
 rw [zgK]; unfold zc0; kd_p
 rw [zgO hm.a hp (by decide) (by omega), zgO hm.b hp (by decide) (by omega), zgO hm.c hp (by decide) (by omega)]; kd_p
 rw [show zao [.int (dot m.1 p), .int (dot m.2.1 p), .int (dot m.2.2 p)] = _ from zvk (p := mul m p) bm nz (by omega)]; kd_p
end LmS
open L2 DL Mir
namespace Lk75
open Mth LmP LmA LmD LmB LmE LmF LmH LmJ LmM LmQ LmS
abbrev prD (s : P2) : D := .tup [.int s.1, .int s.2]
theorem b2 {n : Nat} {t b : Int} (ht : B n t) (hb : B n b) : ∀ i ∈ [b, t], B n i := fun i hi => by
 rcases xaf.mp hi with rfl | hi
 ·exact hb
 ·rw [xbr.mp hi]; exact ht
theorem zkx {n : Nat} {t b : Int} (ht : B n t) (hb : B n b) (hn : n <= 9000) (h0 : b ≠ 0) : zcq [.int t, .int b] = .ok (prD (zmp t b)) := by
 have dv := zo4 (k := 0) (b2 ht hb) (zkR (fun q => h0 q.1)) hn
 rw [zig]; unfold zee; kd_p
 rw [zfl]; kd_p
 unfold zfA; kd_p
 have e := sgn2 b t
 by_cases h : b < 0
 ·rw [if_pos (.inl h)] at e
  rw [decide_eq_true h]; kd_p
  unfold zdY; kd_p
  rw [show -((Nat.gcd t.natAbs b.natAbs : Nat) : Int) = zg1 [b, t] by rw [e]; omega, zaU _ _ dv, zaU _ _ dv]; kd_p
  rfl
 ·rw [if_neg (by omega)] at e
  rw [decide_eq_false h]; kd_p
  unfold zdY; kd_p
  rw [<- e, zaU _ _ dv, zaU _ _ dv]; kd_p
  rfl
theorem zwx (n m : Nat) (x y : Option D) : zbd zbn zbZ [x, y, some (.int (m : Int)), some (.int (n : Int))] = .ok (.nx [x, y, some (.int ((Nat.gcd m n : Nat) : Int)), some (.int 0)]) := by
 induction n using Nat.strongRecOn generalizing m with
 | _ n ih =>
  by_cases hn : n = 0
  ·subst hn
   rw [zh1 (by unfold zbn; kd_p; rfl), Nat.gcd_zero_right]; rfl
  ·have hlt : m % n < n := xcb _ (by omega)
   have h := ih (m % n) hlt n
   rw [zh0 (Z' := [x, y, some (.int (n : Int)), some (.int ((m % n : Nat) : Int))]) ?_ ?_, h, Mth.gcd_step]
   ·unfold zbn; kd_p
    rw [decide_eq_false (by omega)]; rfl
   ·unfold zbZ; kd_p
    rw [zaD _ _ (by omega)]
    kd_p
    rfl
theorem zgP {n : Nat} {t b : Int} (ht : B n t) (hb : B n b) (hn : n <= 9000) (h0 : ¬ (t = 0 /\ b = 0)) : zaZ [.int t, .int b] = .ok (prD (zmp t b)) := by
 have dv := zo4 (k := 0) (b2 ht hb) (zkR (fun q => h0 ⟨q.2, q.1⟩)) hn
 have e := sgn2 b t
 have fin2 : ∀ g : Int, g = zg1 [b, t] -> fin (zcf [some (.int t), some (.int b), some (.int g), some (.int 0)]) = .ok (prD (zmp t b)) := fun g hg => by
  subst hg
  unfold zcf; kd_p
  rw [zaU _ _ dv, zaU _ _ dv]; kd_p
  rfl
 rw [zfj]; unfold zb6; kd_p
 unfold zdG; kd_p
 unfold zdF; kd_p
 rw [show ((t.natAbs : Nat) : Int) = ((t.natAbs : Nat) : Int) from rfl]
 rw [zwx]; kd_p
 unfold zdE; kd_p
 by_cases h1 : b < 0
 ·rw [if_pos (.inl h1)] at e
  rw [decide_eq_true h1]; kd_p
  exact fin2 _ e.symm
 ·rw [decide_eq_false h1]; kd_p
  by_cases h2 : b = 0
  ·rw [decide_eq_true h2]; kd_p
   by_cases h3 : t < 0
   ·rw [if_pos (.inr ⟨h2, h3⟩)] at e
    rw [decide_eq_true h3]; kd_p
    exact fin2 _ e.symm
   ·rw [if_neg (by omega)] at e
    rw [decide_eq_false h3]; kd_p
    exact fin2 _ e.symm
  ·rw [if_neg (by omega)] at e
   rw [decide_eq_false h2]; kd_p
   exact fin2 _ e.symm
theorem zpb (p : P3) {n : Nat} (h : n < 3) : gIx (ptD p) (.int (n : Int)) = .ok (.int (cx n p)) := by
 match n, h with
 | 0, _ => rfl
 | 1, _ => rfl
 | 2, _ => rfl
theorem zqp {l : P3} (h : Nz l) : ∃ n : Nat, n < 3 /\ cx n l ≠ 0 /\ zbV [ptD l] = .ok (.int (n : Int)) := by
 have lc : lcK 1 [0] (zkf [.int 3]) zaR (zaJ (eOp gNe (eOp gIx (zag 1) (zag 0)) (eC (.int 0)))) (zag 0) [some (ptD l)] = .ok (((zj2 0 3).filter fun d => match d with | .int i => !decide (cx i.toNat l = 0) | _ => false).map id) := by
  rw [show zkf [.int 3] = .ok (zj2 0 3) from rfl]
  have mem : ∀ d ∈ zj2 0 3, d = .int ((0 : Nat) : Int) \/ d = .int ((1 : Nat) : Int) \/ d = .int ((2 : Nat) : Int) := fun d hd => by
   simp only [show zj2 0 3 = [.int 0, .int 1, .int 2] from rfl, xaf, xas, or_false] at hd
   exact hd
  refine zeS (by decide) (fun d hd => ?_) (fun d hd _ => rfl)
  have go : ∀ k : Nat, k < 3 -> zaJ (eOp gNe (eOp gIx (zag 1) (zag 0)) (eC (.int 0))) [some (.int (k : Int)), some (ptD l)] = .ok (!decide (cx k l = 0)) := fun k hk => by
   kd_p
   rw [zpb l hk]; kd_p
  rcases mem d hd with rfl | rfl | rfl
  ·exact go 0 (by decide)
  ·exact go 1 (by decide)
  ·exact go 2 (by decide)
 rw [zg6]; unfold zdu; kd_p
 rw [lc, show zj2 0 3 = [.int 0, .int 1, .int 2] from rfl]
 by_cases h0 : l.1 = 0
 ·by_cases h1 : l.2.1 = 0
  ·have h2 : l.2.2 ≠ 0 := fun z => h ⟨h0, h1, z⟩
   refine ⟨2, by decide, h2, ?_⟩
   simp only [List.filter, cx, h0, h1, h2, decide_true, decide_false, xb8, xb6, Int.toNat_zero, show (1 : Int).toNat = 1 from rfl, show (2 : Int).toNat = 2 from rfl, if_true, if_false, show ¬ (1 = 0) by decide, show ¬ (2 = 0) by decide, show ¬ (2 = 1) by decide, xat, xbz, id]
   rfl
  ·refine ⟨1, by decide, h1, ?_⟩
   by_cases h2 : l.2.2 = 0 <;>
   simp only [List.filter, cx, h0, h1, h2, decide_true, decide_false, xb8, xb6, Int.toNat_zero, show (1 : Int).toNat = 1 from rfl, show (2 : Int).toNat = 2 from rfl, if_true, if_false, show ¬ (1 = 0) by decide, show ¬ (2 = 0) by decide, show ¬ (2 = 1) by decide, xat, xbz, id] <;> rfl
 ·refine ⟨0, by decide, h0, ?_⟩
  by_cases h1 : l.2.1 = 0 <;> by_cases h2 : l.2.2 = 0 <;>
  simp only [List.filter, cx, h0, h1, h2, decide_true, decide_false, xb8, xb6, Int.toNat_zero, show (1 : Int).toNat = 1 from rfl, show (2 : Int).toNat = 2 from rfl, if_true, if_false, show ¬ (1 = 0) by decide, show ¬ (2 = 0) by decide, show ¬ (2 = 1) by decide, xat, xbz, id] <;> rfl
theorem zd3 {ps : List P3} {ks : List Int} : ks ∈ zci (ps.map key) ↔ ∃ p ∈ ps, key p = ks := by
 unfold zci
 rw [zo7]
 constructor
 ·rintro ⟨j, hj, e⟩
  rw [xal] at hj
  rw [zwv hj] at e
  exact ⟨_, zuX hj, e⟩
 ·rintro ⟨p, hp, e⟩
  obtain ⟨j, hj⟩ := List.mem_iff_getElem?.mp hp
  refine ⟨j, by rw [xal]; exact (xah.mp hj).1, ?_⟩
  rw [xb3, xbl, hj]; exact e
theorem zu0 (ps : List P3) : 3 <= (zci (ps.map key)).length ↔ U3 ps := by
 rw [ziQ (show (zci (ps.map key)).Nodup from zco _ _)]
 constructor
 ·rintro ⟨x, hx, y, hy, z, hz, h1, h2, h3⟩
  obtain ⟨a, ha, rfl⟩ := zd3.mp hx
  obtain ⟨b, hb, rfl⟩ := zd3.mp hy
  obtain ⟨c, hc, rfl⟩ := zd3.mp hz
  exact ⟨a, ha, b, hb, c, hc, fun e => h1 (by rw [e]), fun e => h2 (by rw [e]), fun e => h3 (by rw [e])⟩
 ·rintro ⟨x, hx, y, hy, z, hz, h1, h2, h3⟩
  exact ⟨_, zd3.mpr ⟨x, hx, rfl⟩, _, zd3.mpr ⟨y, hy, rfl⟩, _, zd3.mpr ⟨z, hz, rfl⟩, fun e => h1 (zku e), fun e => h2 (zku e), fun e => h3 (zku e)⟩
theorem zsY {ps : List P3} (hl : ps.length <= 18) (u : U3 ps) : ∃ x y r, zdW (.lst (ps.map ptD)) = .ok (ptD x :: ptD y :: r) /\ x ∈ ps /\ y ∈ ps /\ x ≠ y := by
 have l := zo8 (ps.map key)
 rw [xal] at l
 have e : zdW (.lst (ps.map ptD)) = .ok ((zkq (zci (ps.map key))).map zsR) := by
  show (match zbj (ps.map ptD) with | some kss => (bif Nat.ble (zci kss).length 18 && zmH (zci kss) then R.ok ((zkq (zci kss)).map zsR) else .bad) | none => .bad) = _
  rw [zil]
  show (bif Nat.ble (zci (ps.map key)).length 18 && zmH (zci (ps.map key)) then R.ok ((zkq (zci (ps.map key))).map zsR) else .bad) = _
  rw [show Nat.ble (zci (ps.map key)).length 18 = true from by rw [Nat.ble_eq]; omega, show zmH (zci (ps.map key)) = true from xay.mpr fun ks hk => by
   obtain ⟨p, _, rfl⟩ := zd3.mp hk
   rfl]; rfl
 have pm := zde (zci (ps.map key))
 have nd : (zkq (zci (ps.map key))).Nodup := pm.nodup_iff.mpr (zco _ _)
 have l3 : 3 <= (zkq (zci (ps.map key))).length := by rw [pm.length_eq]; exact (zu0 ps).mpr u
 have mem : ∀ ks ∈ zkq (zci (ps.map key)), ∃ p ∈ ps, key p = ks := fun ks h => zd3.mp (pm.mem_iff.mp h)
 rw [e]
 generalize zkq (zci (ps.map key)) = L at nd l3 mem
 match L, l3, nd, mem with
 | k1 :: k2 :: r, _, nd, mem =>
  obtain ⟨x, hx, rfl⟩ := mem k1 (by simp)
  obtain ⟨y, hy, rfl⟩ := mem k2 (by simp)
  refine ⟨x, y, r.map zsR, rfl, hx, hy, fun z => ?_⟩
  rw [z] at nd
  simp at nd
theorem zrB {a b c d : P3} (h : Pts 40 [a, b, c, d]) : ∃ g, zbW [.lst [ptD a, ptD b, ptD c, ptD d]] = .ok (.bl g) /\ (g = true ↔ U3 [a, b, c, d] /\ Col [a, b, c, d]) := by
 obtain ⟨o, eo, ho⟩ := zo6 h (by decide) (by simp)
 have su := zmP (ps := [a, b, c, d]) (by have := zo8 ([a, b, c, d].map key); simp at this; simp; omega)
 have u3 := zu0 [a, b, c, d]
 rw [zg7]; unfold zdv; kd_p
 rw [show [ptD a, ptD b, ptD c, ptD d] = [a, b, c, d].map ptD from rfl, zik (g := fun _ => .bl true) (by simp) (fun p hp => ?_)]
 ·kd_p
  rw [show zqH [.lst ([a, b, c, d].map fun _ => D.bl true)] = .ok (.bl true) from rfl]; kd_p
  rw [zjV]; kd_p
  rw [show (R.ok (D.lst ([a, b, c, d].map ptD))).bind zdV = _ from su]; kd_p
  by_cases hu : U3 [a, b, c, d]
  ·rw [decide_eq_true (show (3 : Int) <= ((zci ([a, b, c, d].map key)).length : Int) from by have := u3.mpr hu; omega)]; kd_p
   rw [eo]; kd_p
   exact ⟨o, rfl, ho.trans ⟨fun c => ⟨hu, c⟩, fun c => c.2⟩⟩
  ·rw [decide_eq_false (show ¬ (3 : Int) <= ((zci ([a, b, c, d].map key)).length : Int) from fun z => hu (u3.mp (by omega)))]; kd_p
   exact ⟨false, rfl, (fun z => by cases z), fun z => absurd z.1 hu⟩
 ·kd_p
  exact zjU (h.bd p hp) (h.nrm p hp) (by decide)
theorem zl1 {a b c d : P3} (h : Pts 40 [a, b, c, d]) (g : ¬ (U3 [a, b, c, d] /\ Col [a, b, c, d])) : zcd [ptD a, ptD b, ptD c, ptD d] = .err (.exc "NoRatio" []) := by
 obtain ⟨t, et, ht⟩ := zrB h
 have t0 : t = false := by
  cases t with
  | true => exact absurd (ht.mp rfl) g
  | false => rfl
 subst t0
 rw [zhx]; unfold zgH; kd_p
 unfold zgG; kd_p
 rw [et]; kd_p
theorem zs8 {n k : Nat} {p : P3} (h : BP n p) : B n (cx k p) := by
 unfold cx
 split
 ·exact h.x
 ·split
  ·exact h.y
  ·exact h.z
theorem zqq {a b c d : P3} (h : Pts 40 [a, b, c, d]) (g : U3 [a, b, c, d] /\ Col [a, b, c, d]) : ∃ (n : Nat) (x y : P3), x ∈ [a, b, c, d] /\ y ∈ [a, b, c, d] /\ cx n (crs x y) ≠ 0 /\
  zcd [ptD a, ptD b, ptD c, ptD d] = .ok (prD (if cx n (crs a d) * cx n (crs b c) = 0 then ((1, 0) : P2) else zmp (cx n (crs a c) * cx n (crs b d)) (cx n (crs a d) * cx n (crs b c)))) := by
 obtain ⟨t, et, ht⟩ := zrB h
 have t1 := ht.mpr g
 subst t1
 obtain ⟨x, y, r, es, hx, hy, ne⟩ := zsY (ps := [a, b, c, d]) (by simp) g.1
 have es : zdW (.lst [ptD a, ptD b, ptD c, ptD d]) = _ := es
 have nz := zck (h.nrm x hx) (h.nrm y hy) ne
 obtain ⟨n, hn, cn, ei⟩ := zqp (zdR nz).nz
 refine ⟨n, x, y, hx, hy, fun z => ?_, ?_⟩
 ·rw [zeD nz, ziP] at z
  exact cn (zbh (zeM nz).1 z)
 ·have ba := h.bd a (by simp)
  have bb := h.bd b (by simp)
  have bc := h.bd c (by simp)
  have bd := h.bd d (by simp)
  have mm : ∀ {p q r s : P3}, BP 40 p -> BP 40 q -> BP 40 r -> BP 40 s -> zbI (.int (cx n (crs p q))) (.int (cx n (crs r s))) = .ok (.int (cx n (crs p q) * cx n (crs r s))) := fun h1 h2 h3 h4 => zau _ _ (zaz (zs8 (h1.crs h2)) (by decide)) (zaz (zs8 (h3.crs h4)) (by decide))
  have bB := (zs8 (k := n) (ba.crs bd)).mul (zs8 (k := n) (bb.crs bc))
  have bT := (zs8 (k := n) (ba.crs bc)).mul (zs8 (k := n) (bb.crs bd))
  rw [zhx]; unfold zgH; kd_p
  unfold zgG; kd_p
  rw [et]; kd_p
  unfold zjQ; kd_p
  rw [show zic (zag 4) [some (ptD a), some (ptD b), some (ptD c), some (ptD d), some (.lst [ptD a, ptD b, ptD c, ptD d]), none, none, none, none] = .ok (ptD x :: ptD y :: r) from es]; kd_p
  unfold zjP; kd_p
  rw [show gIx (.lst (ptD x :: ptD y :: r)) (.int 0) = .ok (ptD x) from zfg (j := 0) rfl, show gIx (.lst (ptD x :: ptD y :: r)) (.int 1) = .ok (ptD y) from zfg (j := 1) rfl]; kd_p
  rw [zhz (h.bd x hx) (h.bd y hy) (by decide) ne nz]; kd_p
  rw [ei]; kd_p
  unfold zjO; kd_p
  rw [ze8 ba bc (by decide) (by decide), ze8 bb bd (by decide) (by decide)]; kd_p
  rw [zpb _ hn, zpb _ hn]; kd_p
  rw [mm ba bc bb bd]; kd_p
  unfold zjN; kd_p
  rw [ze8 ba bd (by decide) (by decide), ze8 bb bc (by decide) (by decide)]; kd_p
  rw [zpb _ hn, zpb _ hn]; kd_p
  rw [mm ba bd bb bc]; kd_p
  unfold zjM; kd_p
  by_cases hz : cx n (crs a d) * cx n (crs b c) = 0
  ·rw [decide_eq_true hz, if_pos hz]; kd_p
  ·rw [decide_eq_false hz, if_neg hz]; kd_p
   unfold zjL; kd_p
   rw [zkx bT bB (by decide) hz]; kd_p
theorem p20 (s : P2) : gIx (prD s) (.int 0) = .ok (.int s.1) := (rfl)
theorem p21 (s : P2) : gIx (prD s) (.int 1) = .ok (.int s.2) := (rfl)
structure S4 (s : P2) : Prop where
 x : B 3 s.1
 y : B 3 s.2
theorem zrC {sa sb sc sd : P2} (ha : S4 sa) (hb : S4 sb) (hc : S4 sc) (hd : S4 sd) (ne : ¬ (rT sa sb sc sd = 0 /\ rB sa sb sc sd = 0)) : zbk [.lst [prD sa, prD sb, prD sc, prD sd]] = .ok (prD (zmp (rT sa sb sc sd) (rB sa sb sc sd))) := by
 have mm : ∀ {x y : Int}, B 3 x -> B 3 y -> zbI (.int x) (.int y) = .ok (.int (x * y)) := fun h1 h2 => zau _ _ (zaz h1 (by decide)) (zaz h2 (by decide))
 have bd : ∀ {s t : P2}, S4 s -> S4 t -> B 7 (s.1 * t.2 - s.2 * t.1) := fun h k => (h.x.mul k.y).sub (h.y.mul k.x)
 have md : ∀ {s t u v : P2}, S4 s -> S4 t -> S4 u -> S4 v -> zbI (.int (s.1 * t.2 - s.2 * t.1)) (.int (u.1 * v.2 - u.2 * v.1)) = .ok (.int ((s.1 * t.2 - s.2 * t.1) * (u.1 * v.2 - u.2 * v.1))) := fun h1 h2 h3 h4 => zau _ _ (zaz (bd h1 h2) (by decide)) (zaz (bd h3 h4) (by decide))
 have bT : B 14 (rT sa sb sc sd) := (bd ha hc).mul (bd hb hd)
 have bB : B 14 (rB sa sb sc sd) := (bd ha hd).mul (bd hb hc)
 rw [zgL]; unfold zc1; kd_p
 rw [show ∀ (a b c d : D) (x : Option D), zs6 [1, 2, 3, 4] (zff 4) (R.ok (.lst [a, b, c, d])) [x, none, none, none, none, none, none] = .ok (.nx [x, some a, some b, some c, some d, none, none]) from fun _ _ _ _ _ => rfl]; kd_p
 unfold zew; kd_p
 rw [p20, p21, p20, p21, p20, p21, p20, p21]; kd_p
 rw [mm ha.x hc.y, mm ha.y hc.x, mm hb.x hd.y, mm hb.y hd.x]; kd_p
 rw [md ha hc hb hd]; kd_p
 unfold zev; kd_p
 rw [p20, p21, p20, p21, p20, p21, p20, p21]; kd_p
 rw [mm ha.x hd.y, mm ha.y hd.x, mm hb.x hc.y, mm hb.y hc.x]; kd_p
 rw [md ha hd hb hc]; kd_p
 unfold zeu; kd_p
 rw [show zaZ [.int ((sa.1 * sc.2 - sa.2 * sc.1) * (sb.1 * sd.2 - sb.2 * sd.1)), .int ((sa.1 * sd.2 - sa.2 * sd.1) * (sb.1 * sc.2 - sb.2 * sc.1))] = _ from zgP bT bB (by decide) ne]; kd_p
 rfl
theorem i40 (a b c d : D) : gIx (.lst [a, b, c, d]) (.int 0) = .ok a := (rfl)
theorem i41 (a b c d : D) : gIx (.lst [a, b, c, d]) (.int 1) = .ok b := (rfl)
theorem i42 (a b c d : D) : gIx (.lst [a, b, c, d]) (.int 2) = .ok c := (rfl)
theorem i43 (a b c d : D) : gIx (.lst [a, b, c, d]) (.int 3) = .ok d := (rfl)
theorem eq2 (s t : P2) : gEq (prD s) (prD t) = .ok (.bl (decide (s.1 = t.1 /\ s.2 = t.2))) := by
 rw [zjo rfl]
 congr 2
 show (decide (s.1 = t.1) && (decide (s.2 = t.2) && true)) = _
 rw [Bool.and_true, Bool.decide_and]
theorem zpc {a b c d : P3} {v : P2} (h : zcd [ptD a, ptD b, ptD c, ptD d] = .ok (prD v)) : zb1 [.lst [ptD a, ptD b, ptD c, ptD d], prD v] = .ok (.bl true) := by
 rw [zih]; unfold zef; kd_p
 rw [i40, i41, i42, i43]; kd_p
 rw [h]; kd_p
 unfold zfC; kd_p
 rw [zeS (p := fun _ => false) (g := id) (by simp) (fun d hd => ?_) (fun d hd h => by cases h)]
 ·kd_p
  rw [show gNe (.lst ([D.int v.1, .int v.2].filter (fun _ => false) |>.map id)) (.lst []) = .ok (.bl false) from by simp; rfl]; kd_p
  unfold zfB; kd_p
  rw [eq2]; simp; kd_p
 ·obtain ⟨i, rfl⟩ : ∃ i : Int, d = .int i := by
   simp only [xaf, xas, or_false] at hd
   rcases hd with rfl | rfl <;> exact ⟨_, rfl⟩
  kd_p
  rw [zkt]; kd_p
theorem zrD {a b c d : P3} (h : zcd [ptD a, ptD b, ptD c, ptD d] = .err (.exc "NoRatio" [])) : zaQ [.lst [ptD a, ptD b, ptD c, ptD d]] = .ok (.bl true) := by
 have oth : zb0 [.exc "NoRatio" []] = .ok (.bl false) := by
  rw [zg9]; unfold zdx; kd_p
  rw [show g2 zoU [.exc "NoRatio" [], .tup [.cls "Endless", .cls "NoBow", .cls "NoChange", .cls "NoDeed", .cls "NoFloor"]] = .ok (.bl false) from rfl]; kd_p
  rw [show g2 zoU [.exc "NoRatio" [], .tup [.cls "NoFrame", .cls "NoName", .cls "NoPlace", .cls "NoRow"]] = .ok (.bl false) from rfl]; kd_p
  unfold ze3; kd_p
  rw [show g2 zoU [.exc "NoRatio" [], .tup [.cls "NoText", .cls "NoValue", .cls "Same", .cls "TooMany", .cls "Unlike"]] = .ok (.bl false) from rfl]; kd_p
 rw [zek]; unfold zbo; kd_p
 unfold zcK; kd_p
 rw [i40, i41, i42, i43]; kd_p
 rw [h]; kd_p
 rw [zp6 _ _ _ _ _ _ (show ziS "NoRatio" "ChalkError" = some true by decide +kernel)]; kd_p
 unfold zcJ; kd_p
 rw [zsB (show ziS "NoRatio" "NoRatio" = some true by decide +kernel)]; kd_p
 rw [oth]; kd_p
theorem zl2 (P S : D) (xs : List P3) (p : P3) (x4 x5 : Option D) (hl : xs.length <= 10) : zbp [some P, some S, some (.lst (xs.map ptD)), some (ptD p), x4, x5] = .ok (.nx [some P, some S, some (.lst ((ad xs p).map ptD)), some (ptD p), x4, x5]) := by
 unfold zbp; kd_p
 rw [Lk42.nin_pts]; kd_p
 unfold ad
 by_cases h : p ∈ xs
 ·rw [decide_eq_true h, if_pos h]; kd_p
 ·rw [decide_eq_false h, if_neg h]; kd_p
  rw [zgm _ _ _ _ (by rw [xal]; omega), xco]; rfl
theorem zl3 (xs : List P3) (p : P3) : (ad xs p).length <= xs.length + 1 := by
 unfold ad; split
 ·omega
 ·simp
theorem zl4 {α : Type} {xs : List α} {f : α -> D} {c : DSt -> R Bool} {Z : DSt} {p : α -> Bool} (hl : xs.length <= 1000000) (hc : ∀ a ∈ xs, c (some (f a) :: Z) = .ok (p a)) : lcK 1 [0] (.ok (xs.map f)) zaR c (zag 0) Z = .ok ((xs.filter p).map f) := by
 have go : ∀ xs : List α, (∀ a ∈ xs, c (some (f a) :: Z) = .ok (p a)) -> lcD [0] zaR c (zag 0) (List.replicate 1 none ++ Z) (xs.map f) = .ok ((xs.filter p).map f) := by
  intro xs
  induction xs with
  | nil => intro _; rfl
  | cons d ds ih =>
   intro hc
   have ih' := ih (fun d' hd => hc d' (xab _ hd))
   show (c (some (f d) :: Z)).bind (fun k => bif k then (zag 0 (some (f d) :: Z)).bind (fun y => (lcD [0] zaR c (zag 0) (List.replicate 1 none ++ Z) (ds.map f)).bind fun ys => .ok (y :: ys)) else lcD [0] zaR c (zag 0) (List.replicate 1 none ++ Z) (ds.map f)) = _
   rw [hc d xae, ih']
   cases hp : p d with
   | true => rw [List.filter_cons_of_pos hp]; rfl
   | false => rw [List.filter_cons_of_neg (by rw [hp]; exact xa1)]; rfl
 show (bif most (xs.map f).length then _ else _) = _
 rw [zh2 (by rw [xal]; exact hl), go xs hc]; rfl
theorem zpd (ps : List P3) : zd9 9 (.lst (ps.map ptD)) = true := by
 show (ps.map ptD).all (zd9 8) = true
 rw [xay]
 intro d hd
 obtain ⟨e, _, rfl⟩ := xbb.mp hd
 rfl
theorem zu1 (ps : List P3) : gEq (.lst (ps.map ptD)) (.lst []) = .ok (.bl ps.isEmpty) := by
 unfold gEq zmv
 rw [zpd ps]
 cases ps <;> rfl
theorem zu2 (ps : List P3) : gNe (.lst (ps.map ptD)) (.lst []) = .ok (.bl (!ps.isEmpty)) := by
 unfold gNe zmv
 rw [zpd ps]
 cases ps <;> rfl
theorem zl5 {a b c d : P3} {sa sb sc sd : P2} (h : Pts 40 [a, b, c, d]) (F : znz a b c d sa sb sc sd) (g : U3 [a, b, c, d] /\ Col [a, b, c, d]) :
  zcd [ptD a, ptD b, ptD c, ptD d] = .ok (prD (zmp (rT sa sb sc sd) (rB sa sb sc sd))) /\ ¬ (rT sa sb sc sd = 0 /\ rB sa sb sc sd = 0) := by
 obtain ⟨p, q, ha, hb, hc, hd⟩ := F.cases h.nrm g
 obtain ⟨n, x, y, hx, hy, ne, e⟩ := zqq h g
 have by' : ∀ z ∈ [a, b, c, d], ∃ s, By p q s z := fun z hz => by
  simp only [xaf, xas, or_false] at hz
  rcases hz with rfl | rfl | rfl | rfl
  ·exact ⟨_, ha⟩
  ·exact ⟨_, hb⟩
  ·exact ⟨_, hc⟩
  ·exact ⟨_, hd⟩
 obtain ⟨s, hs⟩ := by' x hx
 obtain ⟨t, ht⟩ := by' y hy
 exact ⟨by rw [e, zpP ha hb hc hd g.1 (hs.cx ht ne)], zkS ha hb hc hd g.1⟩
theorem zf1 {a b c d z : P3} (h : z ∈ [b, a, c, d]) : z ∈ [a, b, c, d] := by
 simp only [xaf, xas, or_false] at h ⊢
 rcases h with h | h | h | h <;> simp [h]
theorem zl6 {a b c d : P3} {sa sb sc sd : P2} (h : Pts 40 [a, b, c, d]) (F : znz a b c d sa sb sc sd) (ha : S4 sa) (hb : S4 sb) (hc : S4 sc) (hd : S4 sd) :
  zaH [.lst [ptD a, ptD b, ptD c, ptD d], .lst [prD sa, prD sb, prD sc, prD sd]] = .ok (.bl true) := by
 have l1 := zl3 [] a
 have l2 := zl3 (ad [] a) b
 have l3 := zl3 (ad (ad [] a) b) c
 have l4 := zl3 (ad (ad (ad [] a) b) c) d
 have l0 : ([] : List P3).length = 0 := rfl
 have nd := zqw a b c d
 have um : ∀ q, q ∈ unl a b c d ↔ q ∈ [a, b, c, d] := fun q => zny
 have u3 := zv0 a b c d
 have t0 : ∀ P S : D, zbp [some P, some S, some (.lst []), some (ptD a), none, none] = _ := fun P S => zl2 P S [] a none none (by simp)
 rw [zfk]; unfold zb7; kd_p
 unfold zdL; kd_p
 rw [t0]; kd_p
 rw [zl2 _ _ (ad [] a) b _ _ (by omega)]; kd_p
 rw [zl2 _ _ (ad (ad [] a) b) c _ _ (by omega)]; kd_p
 rw [zl2 _ _ (ad (ad (ad [] a) b) c) d _ _ (by omega)]; kd_p
 rw [show ad (ad (ad (ad [] a) b) c) d = unl a b c d from rfl]
 rw [show ad (ad (ad (ad [] a) b) c) d = unl a b c d from rfl] at l4
 unfold zdK; kd_p
 rw [zqo _ _ _ ((unl a b c d).map ptD) 2 rfl rfl, <- List.map_drop]; kd_p
 by_cases hu : U3 [a, b, c, d]
 ·have l3 := u3.mpr hu
  obtain ⟨u, v, r, e⟩ : ∃ u v r, unl a b c d = u :: v :: r := by
   match unl a b c d, l3 with
   | u :: v :: r, _ => exact ⟨u, v, r, rfl⟩
  have bd : ∀ z ∈ unl a b c d, BP 40 z := fun z hz => h.bd z ((um z).mp hz)
  rw [zl4 (p := fun x => !decide (zka u v x = 0)) (by rw [xbv]; omega) (fun x hx => ?_)]
  ·kd_p
   unfold zcg; kd_p
   rw [xal, decide_eq_false (show ¬ ((unl a b c d).length : Int) < 3 by omega)]; kd_p
   rw [zu2]; kd_p
   by_cases hcol : Col [a, b, c, d]
   ·rw [show ((unl a b c d).drop 2).filter (fun x => !decide (zka u v x = 0)) = [] from List.filter_eq_nil_iff.mpr fun x hx => by
     rw [e] at hx
     have := zv1 e um hcol x hx
     rw [show zka u v x = 0 from this]; simp]
    rw [show (!([] : List P3).isEmpty) = false from rfl]; kd_p
    obtain ⟨e1, n1⟩ := zl5 h F ⟨hu, hcol⟩
    have h' : Pts 40 [b, a, c, d] := ⟨fun z hz => h.nrm z (zf1 hz), fun z hz => h.bd z (zf1 hz)⟩
    obtain ⟨e2, n2⟩ := zl5 h' F.swap ⟨hu.sub fun z hz => zf1 hz, hcol.sub fun z hz => zf1 hz⟩
    unfold zdJ; kd_p
    rw [zrC ha hb hc hd n1]; kd_p
    rw [zpc e1]; kd_p
    unfold zdI; kd_p
    rw [i40, i41, i42, i43]; kd_p
    unfold zdH; kd_p
    rw [i40, i41, i42, i43]; kd_p
    rw [zrC hb ha hc hd n2]; kd_p
    rw [zpc e2]; kd_p
   ·have ne : (((unl a b c d).drop 2).filter (fun x => !decide (zka u v x = 0))).isEmpty = false := by
     cases hf : ((unl a b c d).drop 2).filter (fun x => !decide (zka u v x = 0)) with
     | cons _ _ => rfl
     | nil =>
      refine absurd (ztZ h.nrm e nd um fun x hx => ?_) hcol
      have := List.filter_eq_nil_iff.mp hf x (by rw [e]; exact hx)
      exact xaw fun q => this (by rw [show zka u v x = dot u (crs v x) from rfl, decide_eq_false q]; rfl)
    rw [ne]; kd_p
    rw [zrD (zl1 h fun z => hcol z.2)]; kd_p
  ·have hx' : x ∈ unl a b c d := List.mem_of_mem_drop hx
   kd_p
   rw [show gIx (.lst ((unl a b c d).map ptD)) (.int 0) = .ok (ptD u) from zfg (j := 0) (by rw [e]; rfl), show gIx (.lst ((unl a b c d).map ptD)) (.int 1) = .ok (ptD v) from zfg (j := 1) (by rw [e]; rfl)]; kd_p
   rw [zo9 (bd u (by rw [e]; simp)) (bd v (by rw [e]; simp)) (bd x hx') (by decide) (.inl ⟨rfl, rfl, rfl⟩)]; kd_p
 ·have l3 : (unl a b c d).length < 3 := Nat.lt_of_not_le fun z => hu (u3.mp z)
  rw [show (unl a b c d).drop 2 = [] from xcy (by omega)]
  rw [show ∀ (c : DSt -> R Bool) (Z : DSt), lcK 1 [0] (.ok (List.map ptD [])) zaR c (zag 0) Z = .ok [] from fun _ _ => rfl]; kd_p
  unfold zcg; kd_p
  rw [xal, decide_eq_true (show ((unl a b c d).length : Int) < 3 by omega)]; kd_p
  rw [zrD (zl1 h fun z => hu z.1)]; kd_p
theorem zsZ (x y : Int) : ∃ s, zb2 [.int x, .int y] = .ok (prD s) /\ S4 s /\ s ≠ (0, 0) := by
 have h1 : -4 <= x % 9 - 4 /\ x % 9 - 4 <= 4 := by omega
 have h2 : -4 <= y % 9 - 4 /\ y % 9 - 4 <= 4 := by omega
 rw [zii]; unfold zeg; kd_p
 rw [zaD _ _ (by decide), zaD _ _ (by decide)]; kd_p
 generalize x % 9 - 4 = u at h1
 generalize y % 9 - 4 = v at h2
 unfold zfE; kd_p
 rw [show gEq (.tup [.int u, .int v]) (.tup [.int 0, .int 0]) = _ from eq2 (u, v) (0, 0)]; kd_p
 by_cases hz : u = 0 /\ v = 0
 ·rw [decide_eq_true hz]; kd_p
  exact ⟨(1, 0), rfl, ⟨B.of (k := 4) (by decide), B.of (k := 4) (by decide)⟩, by decide⟩
 ·rw [decide_eq_false hz]; kd_p
  unfold zfD; kd_p
  exact ⟨(u, v), rfl, ⟨B.of (k := 4) (by show u.natAbs <= 4; omega), B.of (k := 4) (by show v.natAbs <= 4; omega)⟩, fun e => hz ⟨congrArg Prod.fst e, congrArg Prod.snd e⟩⟩
theorem zu3 {s : P2} {p q : P3} (hs : S4 s) (hp : BP 26 p) (hq : BP 26 q) : BP 30 (cmb s p q) :=
 ⟨((hs.x.mul hp.x).add (hs.y.mul hq.x)).mono (by decide), ((hs.x.mul hp.y).add (hs.y.mul hq.y)).mono (by decide), ((hs.x.mul hp.z).add (hs.y.mul hq.z)).mono (by decide)⟩
theorem zl7 {s : P2} {p q : P3} (hs : S4 s) (hp : BP 26 p) (hq : BP 26 q) (nz : Nz (cmb s p q)) : zbE [ptD p, ptD q, prD s] = .ok (ptD (low (cmb s p q))) := by
 have mm : ∀ {x y : Int}, B 3 x -> B 26 y -> zbI (.int x) (.int y) = .ok (.int (x * y)) := fun h1 h2 => zau _ _ (zaz h1 (by decide)) (zaz h2 (by decide))
 rw [zgM]; unfold zc2; kd_p
 rw [p20, p21]; kd_p
 rw [mm hs.x hp.x, mm hs.y hq.x]; kd_p
 unfold zey; kd_p
 rw [p20, p21]; kd_p
 rw [mm hs.x hp.y, mm hs.y hq.y]; kd_p
 unfold zex; kd_p
 rw [p20, p21]; kd_p
 rw [mm hs.x hp.z, mm hs.y hq.z]; kd_p
 rw [show zao [.int (s.1 * p.1 + s.2 * q.1), .int (s.1 * p.2.1 + s.2 * q.2.1), .int (s.1 * p.2.2 + s.2 * q.2.2)] = _ from zvk (zu3 hs hp hq) nz (by decide)]; kd_p
theorem zu4 {α : Type} [Inhabited α] (f : α -> D) {ds : List D} {e : DSt -> R D} {Z : DSt} (P : α -> Prop) (hl : ds.length <= 1000) (h : ∀ d ∈ ds, ∃ p, e (some d :: Z) = .ok (f p) /\ P p) : ∃ ps : List α, lcK 1 [0] (.ok ds) zaR zdm e Z = .ok (ps.map f) /\ ps.length = ds.length /\ ∀ p ∈ ps, P p := by
 have : ∃ g : D -> α, ∀ d ∈ ds, e (some d :: Z) = .ok (f (g d)) /\ P (g d) := by
  refine ⟨fun d => open Classical in if h : ∃ p, e (some d :: Z) = .ok (f p) /\ P p then h.choose else default, fun d hd => ?_⟩
  have hx := h d hd
  simp only [dif_pos hx]
  exact hx.choose_spec
 obtain ⟨g, hg⟩ := this
 refine ⟨ds.map g, ?_, by simp, fun p hp => ?_⟩
 ·rw [zru (g := fun d => f (g d)) (by omega) (fun d hd => (hg d hd).1), List.map_map]; rfl
 ·obtain ⟨d, hd, rfl⟩ := xbb.mp hp
  exact (hg d hd).2
def Nx (ns : D) (r : R Out) : Prop := ∃ Z', r = .ok (.nx Z') /\ ∃ y1 y2 y3 y4 y5 y6 y7 y8 y9, Z' = [some ns, y1, y2, y3, y4, y5, y6, y7, y8, y9]
theorem zky (ns : D) (n : Int) {ds : List Int} (dd : Dd ds) (hl : ds.length = 40) {a b c d : P3} {sa sb sc sd : P2} (h : Pts 30 [a, b, c, d]) (F : znz a b c d sa sb sc sd) (ha : S4 sa) (hb : S4 sb) (hc : S4 sc) (hd : S4 sd) (x3 x4 x7 x8 x9 : Option D) :
  Nx ns (zcc [some ns, some (.int n), some (.lst (ds.map .int)), x3, x4, some (.lst [prD sa, prD sb, prD sc, prD sd]), some (.lst [ptD a, ptD b, ptD c, ptD d]), x7, x8, x9]) := by
 obtain ⟨m, em, dm, bm⟩ := zpa (ds := (ds.drop 24).take 10) (fun d hd => dd d (List.mem_of_mem_drop (List.mem_of_mem_take hd))) (by rw [xbd, xbv]; omega)
 have h40 : Pts 40 [a, b, c, d] := ⟨h.nrm, fun p hp => (h.bd p hp).mono (by decide)⟩
 have nz : ∀ p ∈ [a, b, c, d], Nz (mul m p) := fun p hp => ziM dm (h.nrm p hp).nz
 have pt : Pts 40 [low (mul m a), low (mul m b), low (mul m c), low (mul m d)] := by
  rw [show [low (mul m a), low (mul m b), low (mul m c), low (mul m d)] = [a, b, c, d].map (fun p => low (mul m p)) from rfl]
  refine ⟨fun z hz => ?_, fun z hz => ?_⟩
  ·obtain ⟨p, hp, rfl⟩ := xbb.mp hz
   exact zdR (nz p hp)
  ·obtain ⟨p, hp, rfl⟩ := xbb.mp hz
   exact ((bm.mul (h.bd p hp)).low (nz p hp)).mono (by decide)
 unfold zcc; kd_p
 rw [zkv _ _ _ _ (ds.map .int) 24 34 rfl rfl rfl (by rw [xal]; omega) (by decide), zkw]; kd_p
 rw [show za4 [.lst (((ds.drop 24).take (34 - 24)).map .int)] = _ from em]; kd_p
 unfold zfG; kd_p
 rw [show [ptD a, ptD b, ptD c, ptD d] = [a, b, c, d].map ptD from rfl, zik (g := fun p => ptD (low (mul m p))) (by simp) (fun p hp => by
  kd_p
  exact zww bm (h.bd p hp) (by decide) dm (h.nrm p hp).nz)]; kd_p
 unfold zfF; kd_p
 rw [show zaH [.lst ([a, b, c, d].map ptD), .lst [prD sa, prD sb, prD sc, prD sd]] = _ from zl6 h40 F ha hb hc hd]; kd_p
 rw [show zaH [.lst ([a, b, c, d].map fun p => ptD (low (mul m p))), .lst [prD sa, prD sb, prD sc, prD sd]] = _ from zl6 pt (F.led dm h.nrm) ha hb hc hd]; kd_p
 exact ⟨_, rfl, _, _, _, _, _, _, _, _, _, rfl⟩
theorem zl8 : ∀ ps : List P3, imms (ps.map ptD) = true
 | [] => rfl
 | p :: ps => by
  have := zl8 ps
  show (imm (ptD p) && imms (ps.map ptD)) = true
  rw [this]; rfl
theorem zl9 {i : Nat} {fe : DSt -> R (List D)} {Z : DSt} {ps : List P3} (h : fe Z = .ok (ps.map ptD)) : zmt i fe Z = .ok (.nx (Z.set i (some (.lst (ps.map ptD))))) := by
 unfold zmt
 rw [h]
 show (bif imms (ps.map ptD) then _ else _) = _
 rw [zl8]; rfl
theorem zs0 (p q z : P3) : zka p q z = dot z (crs p q) := by unfold zka dot crs; grind
theorem zu5 (ns : D) (n : Int) {ds : List Int} (dd : Dd ds) (hl : ds.length = 40) {p q r a b c d : P3} {sa sb sc sd : P2} (bp : BP 26 p) (bq : BP 26 q) (nz : Nz (crs p q)) (h : Pts 30 [a, b, c, d]) (ho : ∀ z ∈ [a, b, c, d], z = r \/ dot z (crs p q) = 0) (ha : S4 sa) (hb : S4 sb) (hc : S4 sc) (hd : S4 sd) (x7 x8 x9 : Option D) :
  Nx ns (zsr (zcL [some ns, some (.int n), some (.lst (ds.map .int)), some (ptD p), some (ptD q), some (.lst [prD sa, prD sb, prD sc, prD sd]), some (.lst [ptD a, ptD b, ptD c, ptD d]), x7, x8, x9]) zcc) := by
 unfold zcL; kd_p
 rw [zl9 (ps := [a, b, c, d].filter fun x => !decide (zka p q x = 0)) (by
  kd_p
  rw [show [ptD a, ptD b, ptD c, ptD d] = [a, b, c, d].map ptD from rfl]
  refine zl4 (by simp) fun x hx => ?_
  kd_p
  rw [zo9 (n := 30) (bp.mono (by decide)) (bq.mono (by decide)) (h.bd x hx) (by decide) (.inl ⟨rfl, rfl, rfl⟩)]; kd_p)]
 kd_p
 unfold zd0; kd_p
 rw [zu1]; kd_p
 cases hf : [a, b, c, d].filter (fun x => !decide (zka p q x = 0)) with
 | nil =>
  rw [show ([] : List P3).isEmpty = true from rfl]; kd_p
  unfold zdM zc5 zc4 zc3
  show Nx ns (zcc [some ns, some (.int n), some (.lst (ds.map .int)), some (ptD p), some (ptD q), some (.lst [prD sb, prD sb, prD sb, prD sd]), some (.lst [ptD b, ptD b, ptD b, ptD d]), some (.lst []), x8, x9])
  refine zky ns n dd hl ⟨fun z hz => h.nrm z ?_, fun z hz => h.bd z ?_⟩ (.few b d fun z hz => ?_) hb hb hb hd _ _ _ _ _
  all_goals
   simp only [xaf, xas, or_false] at hz ⊢
   rcases hz with h | h | h | h <;> simp [h]
 | cons z zs =>
  rw [show (z :: zs).isEmpty = false from rfl]; kd_p
  have hz : z ∈ [a, b, c, d].filter (fun x => !decide (zka p q x = 0)) := by rw [hf]; simp
  obtain ⟨z1, z2⟩ := xbm.mp hz
  have z3 : dot z (crs p q) ≠ 0 := by
   rw [<- zs0]
   simpa using z2
  have zr : z = r := (ho z z1).resolve_right z3
  subst zr
  exact zky ns n dd hl h (.off p q z nz z1 z3 ho) ha hb hc hd _ _ _ _ _
theorem zu6 {α : Type} {xs : List α} (h : xs.length = 4) : ∃ a b c d, xs = [a, b, c, d] := by
 match xs, h with
 | [a, b, c, d], _ => exact ⟨a, b, c, d, rfl⟩
theorem zu7 (ns : D) (n : Int) {ds : List Int} (dd : Dd ds) (hl : ds.length = 40) {p q : P3} {sa sb sc sd : P2} (bp : BP 26 p) (bq : BP 26 q) (nz : Nz (crs p q)) (ha : S4 sa) (hb : S4 sb) (hc : S4 sc) (hd : S4 sd) (na : sa ≠ (0, 0)) (nb : sb ≠ (0, 0)) (nc : sc ≠ (0, 0)) (nd : sd ≠ (0, 0)) (x6 x7 x8 x9 : Option D) :
  Nx ns (zd1 [some ns, some (.int n), some (.lst (ds.map .int)), some (ptD p), some (ptD q), some (.lst [prD sa, prD sb, prD sc, prD sd]), x6, x7, x8, x9]) := by
 have bl : ∀ {s : P2}, S4 s -> s ≠ (0, 0) -> BP 30 (low (cmb s p q)) := fun h n => (zu3 h bp bq).low (zfp n nz)
 have Ba := zkQ na nz
 have Bb := zkQ nb nz
 have Bc := zkQ nc nz
 have Bd := zkQ nd nz
 have la := bl ha na
 have lb := bl hb nb
 have lc := bl hc nc
 have ld := bl hd nd
 have ea := zl7 ha bp bq (zfp na nz)
 have eb := zl7 hb bp bq (zfp nb nz)
 have ec := zl7 hc bp bq (zfp nc nz)
 have ed := zl7 hd bp bq (zfp nd nz)
 unfold zd1; kd_p
 rw [zl9 (ps := [low (cmb sa p q), low (cmb sb p q), low (cmb sc p q), low (cmb sd p q)]) (by
  kd_p
  rw [show [prD sa, prD sb, prD sc, prD sd] = [sa, sb, sc, sd].map prD from rfl]
  refine zik (g := fun s => ptD (low (cmb s p q))) (by simp) fun s hs => ?_
  kd_p
  simp only [xaf, xas, or_false] at hs
  rcases hs with rfl | rfl | rfl | rfl
  ·exact ea
  ·exact eb
  ·exact ec
  ·exact ed)]
 generalize low (cmb sa p q) = a at Ba la
 generalize low (cmb sb p q) = b at Bb lb
 generalize low (cmb sc p q) = c at Bc lc
 generalize low (cmb sd p q) = d at Bd ld
 clear ea eb ec ed
 have h : Pts 30 [a, b, c, d] := by
  refine ⟨fun z hz => ?_, fun z hz => ?_⟩
  ·simp only [xaf, xas, or_false] at hz
   rcases hz with rfl | rfl | rfl | rfl
   ·exact Ba.nrm
   ·exact Bb.nrm
   ·exact Bc.nrm
   ·exact Bd.nrm
  ·simp only [xaf, xas, or_false] at hz
   rcases hz with rfl | rfl | rfl | rfl <;> assumption
 have on : ∀ z ∈ [a, b, c, d], dot z (crs p q) = 0 := fun z hz => by
  simp only [xaf, xas, or_false] at hz
  rcases hz with rfl | rfl | rfl | rfl
  ·exact Ba.on
  ·exact Bb.on
  ·exact Bc.on
  ·exact Bd.on
 kd_p
 unfold zfH; kd_p
 rw [show gIx (.lst (ds.map .int)) (.int 16) = _ from ixd (k := 16) (by omega)]; kd_p
 rw [zaD _ _ (by decide)]; kd_p
 by_cases h1 : dg ds 16 % 6 = 1
 ·rw [decide_eq_true h1]; kd_p
  obtain ⟨r, er, nr, br⟩ := zim (ds := (ds.drop 18).take 4) (by rw [xbd, xbv]; omega)
  obtain ⟨j, hj⟩ : ∃ j : Nat, dg ds 17 % 4 = (j : Int) := ⟨(dg ds 17 % 4).toNat, by omega⟩
  have hj4 : j < 4 := by omega
  unfold ze5 zvh; kd_p
  rw [zkv _ _ _ _ (ds.map .int) 18 22 rfl rfl rfl (by rw [xal]; omega) (by decide), zkw]; kd_p
  rw [show zaB [.lst (((ds.drop 18).take (22 - 18)).map .int)] = _ from er]
  rw [show gIx (.lst (ds.map .int)) (.int 17) = _ from ixd (k := 17) (by omega)]; kd_p
  rw [zaD _ _ (by decide), hj]
  obtain ⟨a', b', c', d', es⟩ := zu6 (xs := [a, b, c, d].set j r) (by simp)
  have mem : ∀ z ∈ [a', b', c', d'], z ∈ [a, b, c, d] \/ z = r := fun z hz => by rw [<- es] at hz; exact List.mem_or_eq_of_mem_set hz
  rw [zsT (i := 6) (j := j) (ds := [a, b, c, d].map ptD) (by simpa using hj4), show ([a, b, c, d].map ptD).set j (ptD r) = [ptD a', ptD b', ptD c', ptD d'] from by
   rw [<- List.map_set, es]; rfl]
  kd_p
  exact zu5 ns n dd hl bp bq nz (r := r) ⟨fun z hz => (mem z hz).elim (h.nrm z) fun e => by rw [e]; exact nr, fun z hz => (mem z hz).elim (h.bd z) fun e => by rw [e]; exact br.mono (by decide)⟩ (fun z hz => (mem z hz).elim (fun k => .inr (on z k)) .inl) ha hb hc hd _ _ _
 ·rw [decide_eq_false h1]; kd_p
  exact zky ns n dd hl h (.by' p q Ba Bb Bc Bd) ha hb hc hd _ _ _ _ _
theorem zin (ns : D) (n : Int) {ds : List Int} (dd : Dd ds) (hl : ds.length = 40) {p q : P3} (bp : BP 26 p) (bq : BP 26 q) (nz : Nz (crs p q)) (x5 x6 x7 x8 x9 : Option D) :
  Nx ns (zd2 [some ns, some (.int n), some (.lst (ds.map .int)), some (ptD p), some (ptD q), x5, x6, x7, x8, x9]) := by
 unfold zd2; kd_p
 rw [show zkf [.int 4] = .ok ((rg 0 4).map fun k : Nat => D.int (k : Int)) from zrA 4 (by decide)]
 obtain ⟨ss, es, ls, hs⟩ := zu4 (ds := (rg 0 4).map fun k : Nat => D.int (k : Int)) (e := zaF zb2 (zad (eOp gIx (zag 3) (eOp zdz (eC (.int 8)) (eOp zbI (eC (.int 2)) (zag 0)))) (zad (eOp gIx (zag 3) (eOp zdz (eC (.int 9)) (eOp zbI (eC (.int 2)) (zag 0)))) zaC))) (Z := [some ns, some (.int n), some (.lst (ds.map .int)), some (ptD p), some (ptD q), x5, x6, x7, x8, x9]) prD (fun s => S4 s /\ s ≠ (0, 0)) (by simp [rg]) (fun d hd => by
  obtain ⟨k, hk, rfl⟩ := xbb.mp hd
  have hk := (zrx.mp hk).2
  have bk : zhX (k : Int) = true := zaz (n := 4) (B.of (k := 4) (by omega)) (by decide)
  obtain ⟨s, e1, e2, e3⟩ := zsZ (dg ds (8 + 2 * k)) (dg ds (9 + 2 * k))
  refine ⟨s, ?_, e2, e3⟩
  kd_p
  rw [zau 2 _ (by decide) bk]; kd_p
  rw [show (8 : Int) + 2 * (k : Int) = ((8 + 2 * k : Nat) : Int) by omega, show (9 : Int) + 2 * (k : Int) = ((9 + 2 * k : Nat) : Int) by omega, ixd (by omega), ixd (by omega)]; kd_p
  exact e1)
 have ls : ss.length = 4 := by rw [ls]; rfl
 obtain ⟨sa, sb, sc, sd, rfl⟩ := zu6 ls
 rw [es]; kd_p
 exact zu7 ns n dd hl bp bq nz (hs sa (by simp)).1 (hs sb (by simp)).1 (hs sc (by simp)).1 (hs sd (by simp)).1 (hs sa (by simp)).2 (hs sb (by simp)).2 (hs sc (by simp)).2 (hs sd (by simp)).2 _ _ _ _
theorem zs1 (ns : D) (n : Int) (x2 x3 x4 x5 x6 x7 x8 x9 : Option D) : Nx ns (zcr [some ns, some (.int n), x2, x3, x4, x5, x6, x7, x8, x9]) := by
 obtain ⟨ds, eds, lds, dd⟩ := zmQ n 40 (by decide)
 obtain ⟨p, ep, np, bp⟩ := zim (ds := ds.take 4) (by rw [xbd]; omega)
 obtain ⟨q, eq, nq, bq⟩ := zim (ds := (ds.drop 4).take 4) (by rw [xbd, xbv]; omega)
 have bp' : BP 26 p := bp.mono (by decide)
 unfold zcr; kd_p
 rw [show zaK [.int n, .int 40] = _ from eds]; kd_p
 unfold zfK; kd_p
 rw [Lk42.eSl_to _ _ _ (ds.map .int) 4 rfl rfl, <- List.map_take]; kd_p
 rw [ep]; kd_p
 unfold zfJ; kd_p
 rw [zkv _ _ _ _ (ds.map .int) 4 8 rfl rfl rfl (by rw [xal]; omega) (by decide), zkw]; kd_p
 rw [show zaB [.lst (((ds.drop 4).take (8 - 4)).map .int)] = _ from eq]; kd_p
 unfold zfI; kd_p
 by_cases h1 : q = p
 ·rw [decide_eq_true ((eqP q p).mpr h1)]; kd_p
  unfold ze4; kd_p
  have nu := zv2 np
  have bu : BP 26 (p.1 + 1, p.2.1 + 2, p.2.2 + 5) := ⟨(bp.x.add (B.of (n := 24) (k := 1) (by decide))).mono (by decide), (bp.y.add (B.of (n := 24) (k := 2) (by decide))).mono (by decide), (bp.z.add (B.of (n := 24) (k := 5) (by decide))).mono (by decide)⟩
  rw [show zao [.int (p.1 + 1), .int (p.2.1 + 2), .int (p.2.2 + 5)] = _ from zvk bu nu (by decide)]; kd_p
  unfold zdZ; kd_p
  by_cases h2 : low (p.1 + 1, p.2.1 + 2, p.2.2 + 5) = p
  ·rw [decide_eq_true ((eqP _ p).mpr h2)]; kd_p
   have n1 : Nrm (0, 0, 1) := ⟨fun h => absurd h.2.2 (by decide), by decide⟩
   have ne : p ≠ (0, 0, 1) := fun z => by
    subst z
    exact absurd h2 (by decide)
   exact zin ns n dd lds (q := (0, 0, 1)) bp' ⟨B.of (k := 0) (by decide), B.of (k := 0) (by decide), B.of (k := 1) (by decide)⟩ (zck np n1 ne) _ _ _ _ _
  ·rw [decide_eq_false fun z => h2 ((eqP _ p).mp z)]; kd_p
   exact zin ns n dd lds bp' (bu.low nu) (zck np (zdR nu) fun z => h2 z.symm) _ _ _ _ _
 ·rw [decide_eq_false fun z => h1 ((eqP q p).mp z)]; kd_p
  exact zin ns n dd lds bp' (bq.mono (by decide)) (zck np nq fun z => h1 z.symm) _ _ _ _ _
theorem law_ok (ns : List Int) (hl : ns.length <= 63) : ze7 [.lst (ns.map .int)] = .ok (.bl true) := by
 rw [zjS]; unfold ze6; kd_p
 rw [Lk42.eSl_to _ _ _ ([.int 0] ++ ns.map .int) 30 (by kd_p; exact Lk42.gAdd_ll (by simp; omega)) rfl]; kd_p
 rw [show ([D.int 0] ++ ns.map D.int).take 30 = (([0] ++ ns).take 30).map D.int by rw [List.map_take, xco]; rfl]
 have turn : ∀ d ∈ (([0] ++ ns).take 30).map D.int, ∀ Z, (∃ x1 x2 x3 x4 x5 x6 x7 x8 x9, Z = [some (.lst (ns.map .int)), x1, x2, x3, x4, x5, x6, x7, x8, x9]) -> ∃ Z', (zcr (Z.set 1 (some d)) = .ok (.nx Z') \/ zcr (Z.set 1 (some d)) = .ok (.ct Z')) /\ ∃ x1 x2 x3 x4 x5 x6 x7 x8 x9, Z' = [some (.lst (ns.map .int)), x1, x2, x3, x4, x5, x6, x7, x8, x9] := by
  rintro d hd Z ⟨x1, x2, x3, x4, x5, x6, x7, x8, x9, rfl⟩
  obtain ⟨n, _, rfl⟩ := xbb.mp hd
  obtain ⟨Z', e, r⟩ := zs1 (.lst (ns.map .int)) n x2 x3 x4 x5 x6 x7 x8 x9
  exact ⟨Z', .inl e, r⟩
 obtain ⟨Z', e, x1, x2, x3, x4, x5, x6, x7, x8, x9, rfl⟩ := zlT (i := 1) (fb := zcr) _ _ turn [some (.lst (ns.map .int)), none, none, none, none, none, none, none, none, none] ⟨_, _, _, _, _, _, _, _, _, rfl⟩
 rw [e]; kd_p
 unfold zgN; kd_p
end Lk75
end
section
namespace Kx
open L2 DL Mir
local macro_rules | `(tactic| kst_p) => `(tactic| (first | exact Or.inl rfl | exact Or.inr (Or.inl rfl) | exact Or.inr (Or.inr rfl)))
local macro_rules | `(tactic| kd_p1) => `(tactic| (first | exact Or.inl rfl | exact Or.inr rfl))
local macro_rules | `(tactic| kst_p1) => `(tactic| (first | exact .inl rfl | exact .inr rfl | assumption))
def top (i : Nat) : Stmt := PySem.Challenge.pw_chalkline_k75_ratios.main.body.getD i (.Pass ⟨0, 0, 0, 0⟩)
abbrev zbb : Stmt := top 36
theorem zd4 : zas ["_law_cell", "_law_many", "_law_number", "_law_left", "_law_found", "_law_k", "_law_one"] ["_law_cell", "_law_many"] (zae zbb) := ⟨rfl, rfl, rfl, by decide +kernel, rfl, by decide +kernel, by decide +kernel⟩
set_option maxHeartbeats 4000000 in
theorem zgQ {P : Program} {w : World} {K : xFg} {mg : Str -> Option Value} {base : Heap} {f : Addr} {fd : FuncData} {k : Nat} (F : Fun K "_law_numbers" "_law_numbers" zbb f fd) (hm : mg "_law_numbers" = some (.ref f)) (hb : za6 K fd ["_law_cell", "_law_many"] []) (n_max : mg "max" = none) (n_range : mg "range" = none) : zax P w K mg base (k + 1) "_law_numbers" zaK := by
 refine zax.mk' (own' := []) F zd4 hm hb rfl rfl fun X E hX C L => ?_
 obtain ⟨cdv, A, outer, s, H, rfl⟩ := hX
 have nd := zd4.nd
 exact (@zaf _ _ _ _ _ _ _ _ _ _ (@zan _ _ _ _ _ _ _ _ 2 nd (@zur _ _ _ _ _ _ _ C.calm n_max (@zab _ _ _ _ _ _ (@zaa _ _ 0 _ _ (by rfl) (by kst_p) (by decide) (by decide)) (@zab _ _ _ _ _ _ (@zbB _ _ _ _ _ _ _ (@zi4 _ _ _ _ _ (@zac _ _ _ _ _)) (@zaa _ _ 0 _ _ (by rfl) (by kst_p) (by decide) (by decide))) (@zah _ _) (by rfl)) (by rfl)) (by rfl) (by rfl) (by rfl)) (by rfl) (by kd_p1) (by rfl) (by kst_p1)) (@zaf _ _ _ _ _ _ _ _ _ _ (@zan _ _ _ _ _ _ _ _ 3 nd (@zaa _ _ 2 _ _ (by rfl) (by kst_p) (by decide) (by decide)) (by rfl) (by kd_p1) (by rfl) (by kst_p1)) (@zaf _ _ _ _ _ _ _ _ _ _ (@znS _ _ _ _ _ _ _ _ _ _ 4 nd (@zbP _ _ _ _ _ (@zah _ _)) (by rfl) (by rfl) (by kd_p1) (by rfl) (by kst_p1)) (@zaf _ _ _ _ _ _ _ _ _ _ (@zi3 _ _ _ _ _ _ _ _ _ _ _ _ L C.calm (@zdS _ _ _ _ _ _ _ n_range (@zab _ _ _ _ _ _ (@zaa _ _ 1 _ _ (by rfl) (by kst_p) (by decide) (by decide)) (@zah _ _) (by rfl)) (by rfl) (by rfl)) (@za1 _ _ 5 _ nd (by rfl) (by kd_p1) (by kst_p1)) (@zai _ _ _ _ _ _ _ (@zcm _ _ _ _ _ _ _ _ _ _ _ _ (@DW.dt _ _ _ _ (@zkZ _ _ _ _ _ _ _ _ (@zaw _ _ _ _ _ _ _ _ _ (@zul _) (@zaa _ _ 2 _ _ (by rfl) (by kst_p) (by decide) (by decide)) (@zn0 _ _ _ _ _ _ _ (@zac _ _ _ _ _) (@zac _ _ _ _ _)) (by first | exact zak _ (by decide) (by decide) | rfl)) (@zkd _ _ _ _ _ (@zaw _ _ _ _ _ _ _ _ _ (@zwg _) (@zaa _ _ 3 _ _ (by rfl) (by kst_p) (by decide) (by decide)) (@zac _ _ _ _ _) (by first | exact zak _ (by decide) (by decide) | rfl))))) (@zaf _ _ _ _ _ _ _ _ _ _ (@zk1 _ _ _ _ _ _ _ _ 4 _ _ _ (@zbs _ _ _ _ _ _ _ (@zaa _ _ 3 _ _ (by rfl) (by kst_p) (by decide) (by decide)) (@zn0 _ _ _ _ _ _ _ (@zac _ _ _ _ _) (@zac _ _ _ _ _))) (by rfl) (by rfl) (by kst_p) (by decide) (by decide) (by rfl) (by rfl) (by rfl) (by rfl) (by rfl) (by rfl)) (@zai _ _ _ _ _ _ _ (@zqB _ _ _ _ _ _ _ _ _ 3 nd (@zcF _ _ _ _ _ _ _ (@zaa _ _ 3 _ _ (by rfl) (by kst_p) (by decide) (by decide)) (@zn0 _ _ _ _ _ _ _ (@zac _ _ _ _ _) (@zac _ _ _ _ _))) (by rfl) (by rfl) (by kd_p1) (by rfl) (by kst_p1)))) (@zaf _ _ _ _ _ _ _ _ _ _ (@zqB _ _ _ _ _ _ _ _ _ 6 nd (@zbs _ _ _ _ _ _ _ (@zar _ _ _ _ _ _ _ (@zbs _ _ _ _ _ _ _ (@zbr _ _ _ _ _ _ _ (@zbr _ _ _ _ _ _ _ (@zaa _ _ 2 _ _ (by rfl) (by kst_p) (by decide) (by decide)) (@zar _ _ _ _ _ _ _ (@zar _ _ _ _ _ _ _ (@zac _ _ _ _ _) (@zaa _ _ 5 _ _ (by rfl) (by kst_p) (by decide) (by decide))) (@zaa _ _ 5 _ _ (by rfl) (by kst_p) (by decide) (by decide)))) (@zaa _ _ 5 _ _ (by rfl) (by kst_p) (by decide) (by decide))) (@zac _ _ _ _ _)) (@zac _ _ _ _ _)) (@zac _ _ _ _ _)) (by rfl) (by rfl) (by kd_p1) (by rfl) (by kst_p1)) (@zai _ _ _ _ _ _ _ (@zk1 _ _ _ _ _ _ _ _ 4 _ _ _ (@zbs _ _ _ _ _ _ _ (@zar _ _ _ _ _ _ _ (@zbs _ _ _ _ _ _ _ (@zar _ _ _ _ _ _ _ (@zaa _ _ 6 _ _ (by rfl) (by kst_p) (by decide) (by decide)) (@zaa _ _ 6 _ _ (by rfl) (by kst_p) (by decide) (by decide))) (@zac _ _ _ _ _)) (@zac _ _ _ _ _)) (@zac _ _ _ _ _)) (by rfl) (by rfl) (by kst_p) (by decide) (by decide) (by rfl) (by rfl) (by rfl) (by rfl) (by rfl) (by rfl)))))) (by rfl) (by intro _ ; rfl)) (@zc7 _ _ _ _ _ _ _ _ 4 (by rfl) (by rfl) (@zai _ _ _ _ _ _ _ (@zaA _ _ _ _ _ _ _ _ (@zaa _ _ 4 _ _ (by rfl) (by kst_p) (by decide) (by decide)))))))))
abbrev za8 : Stmt := top 38
theorem zez : zas ["_law_x", "_law_y", "_law_z", "_law_one", "_law_other_here", "_law_last"] ["_law_x", "_law_y", "_law_z"] (zae za8) := ⟨rfl, rfl, rfl, by decide +kernel, rfl, by decide +kernel, by decide +kernel⟩
set_option maxHeartbeats 4000000 in
theorem zha {P : Program} {w : World} {K : xFg} {mg : Str -> Option Value} {base : Heap} {f : Addr} {fd : FuncData} {k : Nat} (F : Fun K "_law_lowest" "_law_lowest" za8 f fd) (hm : mg "_law_lowest" = some (.ref f)) (hb : za6 K fd ["_law_x", "_law_y", "_law_z"] []) (n_abs : mg "abs" = none) : zax P w K mg base (k + 1) "_law_lowest" zao := by
 refine zax.mk' (own' := []) F zez hm hb rfl rfl fun X E hX C L => ?_
 obtain ⟨cdv, A, outer, s, H, rfl⟩ := hX
 have nd := zez.nd
 exact (@zaf _ _ _ _ _ _ _ _ _ _ (@zan _ _ _ _ _ _ _ _ 3 nd (@zgj _ _ _ _ _ _ _ n_abs (@zab _ _ _ _ _ _ (@zaa _ _ 0 _ _ (by rfl) (by kst_p) (by decide) (by decide)) (@zah _ _) (by rfl)) (by rfl) (by rfl) (by rfl)) (by rfl) (by kd_p1) (by rfl) (by kst_p1)) (@zaf _ _ _ _ _ _ _ _ _ _ (@zi3 _ _ _ _ _ _ _ _ _ _ _ _ L C.calm (@zcE _ _ _ _ _ (@DF.val _ _ _ _ (@zbP _ _ _ _ _ (@zab _ _ _ _ _ _ (@zgj _ _ _ _ _ _ _ n_abs (@zab _ _ _ _ _ _ (@zaa _ _ 1 _ _ (by rfl) (by kst_p) (by decide) (by decide)) (@zah _ _) (by rfl)) (by rfl) (by rfl) (by rfl)) (@zab _ _ _ _ _ _ (@zgj _ _ _ _ _ _ _ n_abs (@zab _ _ _ _ _ _ (@zaa _ _ 2 _ _ (by rfl) (by kst_p) (by decide) (by decide)) (@zah _ _) (by rfl)) (by rfl) (by rfl) (by rfl)) (@zah _ _) (by rfl)) (by rfl))))) (@za1 _ _ 4 _ nd (by rfl) (by kd_p1) (by kst_p1)) (@zai _ _ _ _ _ _ _ (@zhW _ _ _ _ _ _ _ _ _ L (@zaw _ _ _ _ _ _ _ _ _ (@zeQ _ _ _ C) (@zaa _ _ 4 _ _ (by rfl) (by kst_p) (by decide) (by decide)) (@zac _ _ _ _ _) (by first | exact zak _ (by decide) (by decide) | rfl)) (@zai _ _ _ _ _ _ _ (@zqC _ _ _ _ _ 3 4 _ _ _ _ _ _ _ _ _ _ _ C.calm nd (@zab _ _ _ _ _ _ (@zaa _ _ 4 _ _ (by rfl) (by kst_p) (by decide) (by decide)) (@zab _ _ _ _ _ _ (@zbs _ _ _ _ _ _ _ (@zaa _ _ 3 _ _ (by rfl) (by kst_p) (by decide) (by decide)) (@zaa _ _ 4 _ _ (by rfl) (by kst_p) (by decide) (by decide))) (@zah _ _) (by rfl)) (by rfl)) (by decide) (by rfl) (by rfl) (by rfl) (by rfl) (by rfl) (by rfl) (by rfl))))) (by rfl) (by intro _ ; rfl)) (@zaf _ _ _ _ _ _ _ _ _ _ (@zan _ _ _ _ _ _ _ _ 5 nd (@zaj _ _ _ _ _ _ _ (@DF.val _ _ _ _ (@ziY _ _ _ _ _ _ _ _ _ _ _ _ _ _ _ C.calm (LC.of (k := 1) (NY := ["_law_number", "_law_x", "_law_y", "_law_z", "_law_one", "_law_other_here", "_law_last"]) (N := ["_law_x", "_law_y", "_law_z", "_law_one", "_law_other_here", "_law_last"]) (sc0 := (zae za8)) rfl rfl (by decide +kernel)) rfl (@zcE _ _ _ _ _ (@DF.val _ _ _ _ (@zbP _ _ _ _ _ (@zab _ _ _ _ _ _ (@zaa _ _ 0 _ _ (by rfl) (by kst_p) (by decide) (by decide)) (@zab _ _ _ _ _ _ (@zaa _ _ 1 _ _ (by rfl) (by kst_p) (by decide) (by decide)) (@zab _ _ _ _ _ _ (@zaa _ _ 2 _ _ (by rfl) (by kst_p) (by decide) (by decide)) (@zah _ _) (by rfl)) (by rfl)) (by rfl))))) (fun _ _ _ _ nd2 => ⟨(@za1 _ _ 0 _ nd2 (by rfl) (by kd_p1) (by kst_p1)), (@zeG _ _ _ _ (@zaw _ _ _ _ _ _ _ _ _ (@zeQ _ _ _ (C.lc _ _ _ _ _ _)) (@zaa _ _ 0 _ _ (by rfl) (by kst_p) (by decide) (by decide)) (@zac _ _ _ _ _) (by first | exact zak _ (by decide) (by decide) | rfl))), (@zaa _ _ 0 _ _ (by rfl) (by kst_p) (by decide) (by decide))⟩) (by intro _ ; rfl))) (@zi4 _ _ _ _ _ (@zac _ _ _ _ _)) (by intro _ _ ; rfl)) (by rfl) (by kd_p1) (by rfl) (by kst_p1)) (@zaf _ _ _ _ _ _ _ _ _ _ (@zcm _ _ _ _ _ _ _ _ _ _ _ _ (@zaw _ _ _ _ _ _ _ _ _ (@zmu _) (@zaa _ _ 5 _ _ (by rfl) (by kst_p) (by decide) (by decide)) (@zac _ _ _ _ _) (by first | exact zak _ (by decide) (by decide) | rfl)) (@zai _ _ _ _ _ _ _ (@zan _ _ _ _ _ _ _ _ 3 nd (@zbB _ _ _ _ _ _ _ (@zac _ _ _ _ _) (@zaa _ _ 3 _ _ (by rfl) (by kst_p) (by decide) (by decide))) (by rfl) (by kd_p1) (by rfl) (by kst_p1))) (@zaM _ _ _ _)) (@zai _ _ _ _ _ _ _ (@zaA _ _ _ _ _ _ _ _ (@zcP _ _ _ _ _ _ (@zab _ _ _ _ _ _ (@zcF _ _ _ _ _ _ _ (@zaa _ _ 0 _ _ (by rfl) (by kst_p) (by decide) (by decide)) (@zaa _ _ 3 _ _ (by rfl) (by kst_p) (by decide) (by decide))) (@zab _ _ _ _ _ _ (@zcF _ _ _ _ _ _ _ (@zaa _ _ 1 _ _ (by rfl) (by kst_p) (by decide) (by decide)) (@zaa _ _ 3 _ _ (by rfl) (by kst_p) (by decide) (by decide))) (@zab _ _ _ _ _ _ (@zcF _ _ _ _ _ _ _ (@zaa _ _ 2 _ _ (by rfl) (by kst_p) (by decide) (by decide)) (@zaa _ _ 3 _ _ (by rfl) (by kst_p) (by decide) (by decide))) (@zah _ _) (by rfl)) (by rfl)) (by rfl)))))))))
abbrev zbF : Stmt := top 39
theorem ze9 : zas ["_law_some", "_law_most", "_law_x", "_law_y", "_law_z"] ["_law_some"] (zae zbF) := ⟨rfl, rfl, rfl, by decide +kernel, rfl, by decide +kernel, by decide +kernel⟩
set_option maxHeartbeats 4000000 in
theorem zio {P : Program} {w : World} {K : xFg} {mg : Str -> Option Value} {base : Heap} {f : Addr} {fd : FuncData} {k : Nat} (F : Fun K "_law_place" "_law_place" zbF f fd) (hm : mg "_law_place" = some (.ref f)) (hb : za6 K fd ["_law_some"] []) (F__law_lowest : zax P w K mg base k "_law_lowest" zao) : zax P w K mg base (k + 1) "_law_place" zaB := by
 refine zax.mk' (own' := []) F ze9 hm hb rfl rfl fun X E hX C L => ?_
 obtain ⟨cdv, A, outer, s, H, rfl⟩ := hX
 have nd := ze9.nd
 exact (@zaf _ _ _ _ _ _ _ _ _ _ (@zan _ _ _ _ _ _ _ _ 1 nd (@zaj _ _ _ _ _ _ _ (@DF.val _ _ _ _ (@zbP _ _ _ _ _ (@zab _ _ _ _ _ _ (@zac _ _ _ _ _) (@zab _ _ _ _ _ _ (@zac _ _ _ _ _) (@zab _ _ _ _ _ _ (@zac _ _ _ _ _) (@zah _ _) (by rfl)) (by rfl)) (by rfl)))) (@zbs _ _ _ _ _ _ _ (@zaj _ _ _ _ _ _ _ (@zaa _ _ 0 _ _ (by rfl) (by kst_p) (by decide) (by decide)) (@zac _ _ _ _ _) (by intro _ _ ; rfl)) (@zac _ _ _ _ _)) (by intro _ _ ; rfl)) (by rfl) (by kd_p1) (by rfl) (by kst_p1)) (@zaf _ _ _ _ _ _ _ _ _ _ (@zan _ _ _ _ _ _ _ _ 2 nd (@zbB _ _ _ _ _ _ _ (@zbs _ _ _ _ _ _ _ (@zaj _ _ _ _ _ _ _ (@zaa _ _ 0 _ _ (by rfl) (by kst_p) (by decide) (by decide)) (@zac _ _ _ _ _) (by intro _ _ ; rfl)) (@zbr _ _ _ _ _ _ _ (@zar _ _ _ _ _ _ _ (@zac _ _ _ _ _) (@zaa _ _ 1 _ _ (by rfl) (by kst_p) (by decide) (by decide))) (@zac _ _ _ _ _))) (@zaa _ _ 1 _ _ (by rfl) (by kst_p) (by decide) (by decide))) (by rfl) (by kd_p1) (by rfl) (by kst_p1)) (@zaf _ _ _ _ _ _ _ _ _ _ (@zan _ _ _ _ _ _ _ _ 3 nd (@zbB _ _ _ _ _ _ _ (@zbs _ _ _ _ _ _ _ (@zaj _ _ _ _ _ _ _ (@zaa _ _ 0 _ _ (by rfl) (by kst_p) (by decide) (by decide)) (@zac _ _ _ _ _) (by intro _ _ ; rfl)) (@zbr _ _ _ _ _ _ _ (@zar _ _ _ _ _ _ _ (@zac _ _ _ _ _) (@zaa _ _ 1 _ _ (by rfl) (by kst_p) (by decide) (by decide))) (@zac _ _ _ _ _))) (@zaa _ _ 1 _ _ (by rfl) (by kst_p) (by decide) (by decide))) (by rfl) (by kd_p1) (by rfl) (by kst_p1)) (@zaf _ _ _ _ _ _ _ _ _ _ (@zan _ _ _ _ _ _ _ _ 4 nd (@zbB _ _ _ _ _ _ _ (@zbs _ _ _ _ _ _ _ (@zaj _ _ _ _ _ _ _ (@zaa _ _ 0 _ _ (by rfl) (by kst_p) (by decide) (by decide)) (@zac _ _ _ _ _) (by intro _ _ ; rfl)) (@zbr _ _ _ _ _ _ _ (@zar _ _ _ _ _ _ _ (@zac _ _ _ _ _) (@zaa _ _ 1 _ _ (by rfl) (by kst_p) (by decide) (by decide))) (@zac _ _ _ _ _))) (@zaa _ _ 1 _ _ (by rfl) (by kst_p) (by decide) (by decide))) (by rfl) (by kd_p1) (by rfl) (by kst_p1)) (@zaf _ _ _ _ _ _ _ _ _ _ (@zcm _ _ _ _ _ _ _ _ _ _ _ _ (@DW.dt _ _ _ _ (@zkZ _ _ _ _ _ _ _ _ (@zaw _ _ _ _ _ _ _ _ _ (@zei _ _ _ C) (@zaa _ _ 2 _ _ (by rfl) (by kst_p) (by decide) (by decide)) (@zac _ _ _ _ _) (by first | exact zak _ (by decide) (by decide) | rfl)) (@zkZ _ _ _ _ _ _ _ _ (@zaw _ _ _ _ _ _ _ _ _ (@zei _ _ _ C) (@zaa _ _ 3 _ _ (by rfl) (by kst_p) (by decide) (by decide)) (@zac _ _ _ _ _) (by first | exact zak _ (by decide) (by decide) | rfl)) (@zkd _ _ _ _ _ (@zaw _ _ _ _ _ _ _ _ _ (@zei _ _ _ C) (@zaa _ _ 4 _ _ (by rfl) (by kst_p) (by decide) (by decide)) (@zac _ _ _ _ _) (by first | exact zak _ (by decide) (by decide) | rfl)))))) (@zai _ _ _ _ _ _ _ (@zan _ _ _ _ _ _ _ _ 4 nd (@zac _ _ _ _ _) (by rfl) (by kd_p1) (by rfl) (by kst_p1))) (@zaM _ _ _ _)) (@zai _ _ _ _ _ _ _ (@zaA _ _ _ _ _ _ _ _ (@zam _ _ _ _ _ _ _ _ _ _ C F__law_lowest (@zab _ _ _ _ _ _ (@zaa _ _ 2 _ _ (by rfl) (by kst_p) (by decide) (by decide)) (@zab _ _ _ _ _ _ (@zaa _ _ 3 _ _ (by rfl) (by kst_p) (by decide) (by decide)) (@zab _ _ _ _ _ _ (@zaa _ _ 4 _ _ (by rfl) (by kst_p) (by decide) (by decide)) (@zah _ _) (by rfl)) (by rfl)) (by rfl)) (by rfl) (by decide) (by rfl) (by rfl)))))))))
abbrev zcs : Stmt := top 41
theorem zgR : zas ["_law_one", "_law_other_here", "_law_third", "_law_a", "_law_b", "_law_c", "_law_d", "_law_e", "_law_f", "_law_first", "_law_second"] ["_law_one", "_law_other_here", "_law_third"] (zae zcs) := ⟨rfl, rfl, rfl, by decide +kernel, rfl, by decide +kernel, by decide +kernel⟩
set_option maxHeartbeats 4000000 in
theorem zkz {P : Program} {w : World} {K : xFg} {mg : Str -> Option Value} {base : Heap} {f : Addr} {fd : FuncData} {k : Nat} (F : Fun K "_law_det" "_law_det" zcs f fd) (hm : mg "_law_det" = some (.ref f)) (hb : za6 K fd ["_law_one", "_law_other_here", "_law_third"] []) : zax P w K mg base (k + 1) "_law_det" zaP := by
 refine zax.mk' (own' := []) F zgR hm hb rfl rfl fun X E hX C L => ?_
 obtain ⟨cdv, A, outer, s, H, rfl⟩ := hX
 have nd := zgR.nd
 exact (@zaf _ _ _ _ _ _ _ _ _ _ (@znU _ _ _ _ _ _ _ _ _ _ (@zaa _ _ 1 _ _ (by rfl) (by kst_p) (by decide) (by decide)) (@znP _ _ _ _ [3, 4, 5] 3 C.calm (@zb4 _ _ _ _ _ (@zcA _ _ (3) _ nd rfl (by kd_p1) (by kst_p1)) (@zb4 _ _ _ _ _ (@zcA _ _ (4) _ nd rfl (by kd_p1) (by kst_p1)) (@zb4 _ _ _ _ _ (@zcA _ _ (5) _ nd rfl (by kd_p1) (by kst_p1)) (@zj4 _) (by rfl)) (by rfl)) (by rfl)) (by rfl) (by rfl) (by rfl)) (by rfl) (by rfl) (by rfl) (by rfl)) (@zaf _ _ _ _ _ _ _ _ _ _ (@znU _ _ _ _ _ _ _ _ _ _ (@zaa _ _ 2 _ _ (by rfl) (by kst_p) (by decide) (by decide)) (@znP _ _ _ _ [6, 7, 8] 3 C.calm (@zb4 _ _ _ _ _ (@zcA _ _ (6) _ nd rfl (by kd_p1) (by kst_p1)) (@zb4 _ _ _ _ _ (@zcA _ _ (7) _ nd rfl (by kd_p1) (by kst_p1)) (@zb4 _ _ _ _ _ (@zcA _ _ (8) _ nd rfl (by kd_p1) (by kst_p1)) (@zj4 _) (by rfl)) (by rfl)) (by rfl)) (by rfl) (by rfl) (by rfl)) (by rfl) (by rfl) (by rfl) (by rfl)) (@zaf _ _ _ _ _ _ _ _ _ _ (@zan _ _ _ _ _ _ _ _ 9 nd (@zar _ _ _ _ _ _ _ (@zaj _ _ _ _ _ _ _ (@zaa _ _ 0 _ _ (by rfl) (by kst_p) (by decide) (by decide)) (@zac _ _ _ _ _) (by intro _ _ ; rfl)) (@zbB _ _ _ _ _ _ _ (@zar _ _ _ _ _ _ _ (@zaa _ _ 4 _ _ (by rfl) (by kst_p) (by decide) (by decide)) (@zaa _ _ 8 _ _ (by rfl) (by kst_p) (by decide) (by decide))) (@zar _ _ _ _ _ _ _ (@zaa _ _ 5 _ _ (by rfl) (by kst_p) (by decide) (by decide)) (@zaa _ _ 7 _ _ (by rfl) (by kst_p) (by decide) (by decide))))) (by rfl) (by kd_p1) (by rfl) (by kst_p1)) (@zaf _ _ _ _ _ _ _ _ _ _ (@zan _ _ _ _ _ _ _ _ 10 nd (@zar _ _ _ _ _ _ _ (@zaj _ _ _ _ _ _ _ (@zaa _ _ 0 _ _ (by rfl) (by kst_p) (by decide) (by decide)) (@zac _ _ _ _ _) (by intro _ _ ; rfl)) (@zbB _ _ _ _ _ _ _ (@zar _ _ _ _ _ _ _ (@zaa _ _ 3 _ _ (by rfl) (by kst_p) (by decide) (by decide)) (@zaa _ _ 8 _ _ (by rfl) (by kst_p) (by decide) (by decide))) (@zar _ _ _ _ _ _ _ (@zaa _ _ 5 _ _ (by rfl) (by kst_p) (by decide) (by decide)) (@zaa _ _ 6 _ _ (by rfl) (by kst_p) (by decide) (by decide))))) (by rfl) (by kd_p1) (by rfl) (by kst_p1)) (@zai _ _ _ _ _ _ _ (@zaA _ _ _ _ _ _ _ _ (@zbr _ _ _ _ _ _ _ (@zbB _ _ _ _ _ _ _ (@zaa _ _ 9 _ _ (by rfl) (by kst_p) (by decide) (by decide)) (@zaa _ _ 10 _ _ (by rfl) (by kst_p) (by decide) (by decide))) (@zar _ _ _ _ _ _ _ (@zaj _ _ _ _ _ _ _ (@zaa _ _ 0 _ _ (by rfl) (by kst_p) (by decide) (by decide)) (@zac _ _ _ _ _) (by intro _ _ ; rfl)) (@zbB _ _ _ _ _ _ _ (@zar _ _ _ _ _ _ _ (@zaa _ _ 3 _ _ (by rfl) (by kst_p) (by decide) (by decide)) (@zaa _ _ 7 _ _ (by rfl) (by kst_p) (by decide) (by decide))) (@zar _ _ _ _ _ _ _ (@zaa _ _ 4 _ _ (by rfl) (by kst_p) (by decide) (by decide)) (@zaa _ _ 6 _ _ (by rfl) (by kst_p) (by decide) (by decide))))))))))))
abbrev zaX : Stmt := top 42
theorem zeA : zas ["_law_some", "_law_most", "_law_rows", "_law_j", "_law_row"] ["_law_some"] (zae zaX) := ⟨rfl, rfl, rfl, by decide +kernel, rfl, by decide +kernel, by decide +kernel⟩
set_option maxHeartbeats 4000000 in
theorem zhb {P : Program} {w : World} {K : xFg} {mg : Str -> Option Value} {base : Heap} {f : Addr} {fd : FuncData} {k : Nat} (F : Fun K "_law_change" "_law_change" zaX f fd) (hm : mg "_law_change" = some (.ref f)) (hb : za6 K fd ["_law_some"] []) (n_range : mg "range" = none) (F__law_det : zax P w K mg base k "_law_det" zaP) : zax P w K mg base (k + 1) "_law_change" za4 := by
 refine zax.mk' (own' := []) F zeA hm hb rfl rfl fun X E hX C L => ?_
 obtain ⟨cdv, A, outer, s, H, rfl⟩ := hX
 have nd := zeA.nd
 exact (@zaf _ _ _ _ _ _ _ _ _ _ (@zan _ _ _ _ _ _ _ _ 1 nd (@zaj _ _ _ _ _ _ _ (@DF.val _ _ _ _ (@zbP _ _ _ _ _ (@zab _ _ _ _ _ _ (@zac _ _ _ _ _) (@zab _ _ _ _ _ _ (@zac _ _ _ _ _) (@zab _ _ _ _ _ _ (@zac _ _ _ _ _) (@zah _ _) (by rfl)) (by rfl)) (by rfl)))) (@zbs _ _ _ _ _ _ _ (@zaj _ _ _ _ _ _ _ (@zaa _ _ 0 _ _ (by rfl) (by kst_p) (by decide) (by decide)) (@zac _ _ _ _ _) (by intro _ _ ; rfl)) (@zac _ _ _ _ _)) (by intro _ _ ; rfl)) (by rfl) (by kd_p1) (by rfl) (by kst_p1)) (@zaf _ _ _ _ _ _ _ _ _ _ (@znS _ _ _ _ _ _ _ _ _ _ 2 nd (@zbP _ _ _ _ _ (@zah _ _)) (by rfl) (by rfl) (by kd_p1) (by rfl) (by kst_p1)) (@zaf _ _ _ _ _ _ _ _ _ _ (@zi3 _ _ _ _ _ _ _ _ _ _ _ _ L C.calm (@zdS _ _ _ _ _ _ _ n_range (@zab _ _ _ _ _ _ (@zac _ _ _ _ _) (@zah _ _) (by rfl)) (by rfl) (by rfl)) (@za1 _ _ 3 _ nd (by rfl) (by kd_p1) (by kst_p1)) (@zaf _ _ _ _ _ _ _ _ _ _ (@zfX _ _ _ _ _ _ _ _ _ _ _ _ _ _ _ _ _ _ _ _ 4 C.calm nd (LC.of (k := 1) (NY := ["_law_k", "_law_some", "_law_most", "_law_rows", "_law_j", "_law_row"]) (N := ["_law_some", "_law_most", "_law_rows", "_law_j", "_law_row"]) (sc0 := (zae zaX)) rfl rfl (by decide +kernel)) rfl (@zdS _ _ _ _ _ _ _ n_range (@zab _ _ _ _ _ _ (@zac _ _ _ _ _) (@zah _ _) (by rfl)) (by rfl) (by rfl)) (fun _ _ _ _ nd2 => ⟨(@za1 _ _ 0 _ nd2 (by rfl) (by kd_p1) (by kst_p1)), (@zdT _ _), (@zaj _ _ _ _ _ _ _ (@zaa _ _ 1 _ _ (by rfl) (by kst_p) (by decide) (by decide)) (@zbr _ _ _ _ _ _ _ (@zar _ _ _ _ _ _ _ (@zac _ _ _ _ _) (@zaa _ _ 4 _ _ (by rfl) (by kst_p) (by decide) (by decide))) (@zaa _ _ 0 _ _ (by rfl) (by kst_p) (by decide) (by decide))) (by intro _ _ ; rfl))⟩) (by rfl) (by rfl) (by rfl) (by rfl) (by intro _ ; rfl)) (@zai _ _ _ _ _ _ _ (@zk1 _ _ _ _ _ _ _ _ 2 _ _ _ (@DF.val _ _ _ _ (@ziY _ _ _ _ _ _ _ _ _ _ _ _ _ _ _ C.calm (LC.of (k := 1) (NY := ["_law_one", "_law_some", "_law_most", "_law_rows", "_law_j", "_law_row"]) (N := ["_law_some", "_law_most", "_law_rows", "_law_j", "_law_row"]) (sc0 := (zae zaX)) rfl rfl (by decide +kernel)) rfl (@zcE _ _ _ _ _ (@zaa _ _ 4 _ _ (by rfl) (by kst_p) (by decide) (by decide))) (fun _ _ _ _ nd2 => ⟨(@za1 _ _ 0 _ nd2 (by rfl) (by kd_p1) (by kst_p1)), (@zdT _ _), (@zbB _ _ _ _ _ _ _ (@zbs _ _ _ _ _ _ _ (@zaa _ _ 0 _ _ (by rfl) (by kst_p) (by decide) (by decide)) (@zbr _ _ _ _ _ _ _ (@zar _ _ _ _ _ _ _ (@zac _ _ _ _ _) (@zaa _ _ 2 _ _ (by rfl) (by kst_p) (by decide) (by decide))) (@zac _ _ _ _ _))) (@zaa _ _ 2 _ _ (by rfl) (by kst_p) (by decide) (by decide)))⟩) (by intro _ ; rfl))) (by rfl) (by rfl) (by kst_p) (by decide) (by decide) (by rfl) (by rfl) (by rfl) (by rfl) (by rfl) (by rfl)))) (by rfl) (by intro _ ; rfl)) (@zc7 _ _ _ _ _ _ _ _ 2 (by rfl) (by rfl) (@zaf _ _ _ _ _ _ _ _ _ _ (@zcm _ _ _ _ _ _ _ _ _ _ _ _ (@zaw _ _ _ _ _ _ _ _ _ (@zei _ _ _ C) (@zam _ _ _ _ _ _ _ _ _ _ C F__law_det (@zab _ _ _ _ _ _ (@zaj _ _ _ _ _ _ _ (@zaa _ _ 2 _ _ (by rfl) (by kst_p) (by decide) (by decide)) (@zac _ _ _ _ _) (by intro _ _ ; rfl)) (@zab _ _ _ _ _ _ (@zaj _ _ _ _ _ _ _ (@zaa _ _ 2 _ _ (by rfl) (by kst_p) (by decide) (by decide)) (@zac _ _ _ _ _) (by intro _ _ ; rfl)) (@zab _ _ _ _ _ _ (@zaj _ _ _ _ _ _ _ (@zaa _ _ 2 _ _ (by rfl) (by kst_p) (by decide) (by decide)) (@zac _ _ _ _ _) (by intro _ _ ; rfl)) (@zah _ _) (by rfl)) (by rfl)) (by rfl)) (by rfl) (by decide) (by rfl) (by rfl)) (@zac _ _ _ _ _) (by first | exact zak _ (by decide) (by decide) | rfl)) (@zai _ _ _ _ _ _ _ (@zaA _ _ _ _ _ _ _ _ (@DF.val _ _ _ _ (@zbP _ _ _ _ _ (@zab _ _ _ _ _ _ (@DF.val _ _ _ _ (@zbP _ _ _ _ _ (@zab _ _ _ _ _ _ (@zac _ _ _ _ _) (@zab _ _ _ _ _ _ (@zbs _ _ _ _ _ _ _ (@zaj _ _ _ _ _ _ _ (@zaa _ _ 0 _ _ (by rfl) (by kst_p) (by decide) (by decide)) (@zac _ _ _ _ _) (by intro _ _ ; rfl)) (@zac _ _ _ _ _)) (@zab _ _ _ _ _ _ (@zbs _ _ _ _ _ _ _ (@zaj _ _ _ _ _ _ _ (@zaa _ _ 0 _ _ (by rfl) (by kst_p) (by decide) (by decide)) (@zac _ _ _ _ _) (by intro _ _ ; rfl)) (@zac _ _ _ _ _)) (@zah _ _) (by rfl)) (by rfl)) (by rfl)))) (@zab _ _ _ _ _ _ (@DF.val _ _ _ _ (@zbP _ _ _ _ _ (@zab _ _ _ _ _ _ (@zac _ _ _ _ _) (@zab _ _ _ _ _ _ (@zac _ _ _ _ _) (@zab _ _ _ _ _ _ (@zbs _ _ _ _ _ _ _ (@zaj _ _ _ _ _ _ _ (@zaa _ _ 0 _ _ (by rfl) (by kst_p) (by decide) (by decide)) (@zac _ _ _ _ _) (by intro _ _ ; rfl)) (@zac _ _ _ _ _)) (@zah _ _) (by rfl)) (by rfl)) (by rfl)))) (@zab _ _ _ _ _ _ (@DF.val _ _ _ _ (@zbP _ _ _ _ _ (@zab _ _ _ _ _ _ (@zac _ _ _ _ _) (@zab _ _ _ _ _ _ (@zac _ _ _ _ _) (@zab _ _ _ _ _ _ (@zbr _ _ _ _ _ _ _ (@zac _ _ _ _ _) (@zbs _ _ _ _ _ _ _ (@zaj _ _ _ _ _ _ _ (@zaa _ _ 0 _ _ (by rfl) (by kst_p) (by decide) (by decide)) (@zac _ _ _ _ _) (by intro _ _ ; rfl)) (@zac _ _ _ _ _))) (@zah _ _) (by rfl)) (by rfl)) (by rfl)))) (@zah _ _) (by rfl)) (by rfl)) (by rfl)))))) (@zaM _ _ _ _)) (@zai _ _ _ _ _ _ _ (@zaA _ _ _ _ _ _ _ _ (@zaa _ _ 2 _ _ (by rfl) (by kst_p) (by decide) (by decide)))))))))
abbrev zb3 : Stmt := top 51
theorem zfL : zas ["_law_one", "_law_other_here", "_law_pair_here"] ["_law_one", "_law_other_here"] (zae zb3) := ⟨rfl, rfl, rfl, by decide +kernel, rfl, by decide +kernel, by decide +kernel⟩
set_option maxHeartbeats 4000000 in
theorem zjW {P : Program} {w : World} {K : xFg} {mg : Str -> Option Value} {base : Heap} {f : Addr} {fd : FuncData} {k : Nat} (F : Fun K "_law_pair" "_law_pair" zb3 f fd) (hm : mg "_law_pair" = some (.ref f)) (hb : za6 K fd ["_law_one", "_law_other_here"] []) : zax P w K mg base (k + 1) "_law_pair" zb2 := by
 refine zax.mk' (own' := []) F zfL hm hb rfl rfl fun X E hX C L => ?_
 obtain ⟨cdv, A, outer, s, H, rfl⟩ := hX
 have nd := zfL.nd
 exact (@zaf _ _ _ _ _ _ _ _ _ _ (@zan _ _ _ _ _ _ _ _ 2 nd (@zcP _ _ _ _ _ _ (@zab _ _ _ _ _ _ (@zbB _ _ _ _ _ _ _ (@zbs _ _ _ _ _ _ _ (@zaa _ _ 0 _ _ (by rfl) (by kst_p) (by decide) (by decide)) (@zac _ _ _ _ _)) (@zac _ _ _ _ _)) (@zab _ _ _ _ _ _ (@zbB _ _ _ _ _ _ _ (@zbs _ _ _ _ _ _ _ (@zaa _ _ 1 _ _ (by rfl) (by kst_p) (by decide) (by decide)) (@zac _ _ _ _ _)) (@zac _ _ _ _ _)) (@zah _ _) (by rfl)) (by rfl))) (by rfl) (by kd_p1) (by rfl) (by kst_p1)) (@zaf _ _ _ _ _ _ _ _ _ _ (@zcm _ _ _ _ _ _ _ _ _ _ _ _ (@zaw _ _ _ _ _ _ _ _ _ (@zei _ _ _ C) (@zaa _ _ 2 _ _ (by rfl) (by kst_p) (by decide) (by decide)) (@zcP _ _ _ _ _ _ (@zab _ _ _ _ _ _ (@zac _ _ _ _ _) (@zab _ _ _ _ _ _ (@zac _ _ _ _ _) (@zah _ _) (by rfl)) (by rfl))) (by first | exact zak _ (by decide) (by decide) | rfl)) (@zai _ _ _ _ _ _ _ (@zaA _ _ _ _ _ _ _ _ (@zcP _ _ _ _ _ _ (@zab _ _ _ _ _ _ (@zac _ _ _ _ _) (@zab _ _ _ _ _ _ (@zac _ _ _ _ _) (@zah _ _) (by rfl)) (by rfl))))) (@zaM _ _ _ _)) (@zai _ _ _ _ _ _ _ (@zaA _ _ _ _ _ _ _ _ (@zaa _ _ 2 _ _ (by rfl) (by kst_p) (by decide) (by decide))))))
abbrev zct : Stmt := top 46
theorem zgS : zas ["_law_one", "_law_other_here", "_law_pair_here", "_law_x", "_law_y"] ["_law_one", "_law_other_here", "_law_pair_here"] (zae zct) := ⟨rfl, rfl, rfl, by decide +kernel, rfl, by decide +kernel, by decide +kernel⟩
set_option maxHeartbeats 4000000 in
theorem zkA {P : Program} {w : World} {K : xFg} {mg : Str -> Option Value} {base : Heap} {f : Addr} {fd : FuncData} {k : Nat} (F : Fun K "_law_sum" "_law_sum" zct f fd) (hm : mg "_law_sum" = some (.ref f)) (hb : za6 K fd ["_law_one", "_law_other_here", "_law_pair_here"] []) (F__law_lowest : zax P w K mg base k "_law_lowest" zao) : zax P w K mg base (k + 1) "_law_sum" zbE := by
 refine zax.mk' (own' := []) F zgS hm hb rfl rfl fun X E hX C L => ?_
 obtain ⟨cdv, A, outer, s, H, rfl⟩ := hX
 have nd := zgS.nd
 exact (@zaf _ _ _ _ _ _ _ _ _ _ (@zan _ _ _ _ _ _ _ _ 3 nd (@zbr _ _ _ _ _ _ _ (@zar _ _ _ _ _ _ _ (@zaj _ _ _ _ _ _ _ (@zaa _ _ 2 _ _ (by rfl) (by kst_p) (by decide) (by decide)) (@zac _ _ _ _ _) (by intro _ _ ; rfl)) (@zaj _ _ _ _ _ _ _ (@zaa _ _ 0 _ _ (by rfl) (by kst_p) (by decide) (by decide)) (@zac _ _ _ _ _) (by intro _ _ ; rfl))) (@zar _ _ _ _ _ _ _ (@zaj _ _ _ _ _ _ _ (@zaa _ _ 2 _ _ (by rfl) (by kst_p) (by decide) (by decide)) (@zac _ _ _ _ _) (by intro _ _ ; rfl)) (@zaj _ _ _ _ _ _ _ (@zaa _ _ 1 _ _ (by rfl) (by kst_p) (by decide) (by decide)) (@zac _ _ _ _ _) (by intro _ _ ; rfl)))) (by rfl) (by kd_p1) (by rfl) (by kst_p1)) (@zaf _ _ _ _ _ _ _ _ _ _ (@zan _ _ _ _ _ _ _ _ 4 nd (@zbr _ _ _ _ _ _ _ (@zar _ _ _ _ _ _ _ (@zaj _ _ _ _ _ _ _ (@zaa _ _ 2 _ _ (by rfl) (by kst_p) (by decide) (by decide)) (@zac _ _ _ _ _) (by intro _ _ ; rfl)) (@zaj _ _ _ _ _ _ _ (@zaa _ _ 0 _ _ (by rfl) (by kst_p) (by decide) (by decide)) (@zac _ _ _ _ _) (by intro _ _ ; rfl))) (@zar _ _ _ _ _ _ _ (@zaj _ _ _ _ _ _ _ (@zaa _ _ 2 _ _ (by rfl) (by kst_p) (by decide) (by decide)) (@zac _ _ _ _ _) (by intro _ _ ; rfl)) (@zaj _ _ _ _ _ _ _ (@zaa _ _ 1 _ _ (by rfl) (by kst_p) (by decide) (by decide)) (@zac _ _ _ _ _) (by intro _ _ ; rfl)))) (by rfl) (by kd_p1) (by rfl) (by kst_p1)) (@zai _ _ _ _ _ _ _ (@zaA _ _ _ _ _ _ _ _ (@zam _ _ _ _ _ _ _ _ _ _ C F__law_lowest (@zab _ _ _ _ _ _ (@zaa _ _ 3 _ _ (by rfl) (by kst_p) (by decide) (by decide)) (@zab _ _ _ _ _ _ (@zaa _ _ 4 _ _ (by rfl) (by kst_p) (by decide) (by decide)) (@zab _ _ _ _ _ _ (@zbr _ _ _ _ _ _ _ (@zar _ _ _ _ _ _ _ (@zaj _ _ _ _ _ _ _ (@zaa _ _ 2 _ _ (by rfl) (by kst_p) (by decide) (by decide)) (@zac _ _ _ _ _) (by intro _ _ ; rfl)) (@zaj _ _ _ _ _ _ _ (@zaa _ _ 0 _ _ (by rfl) (by kst_p) (by decide) (by decide)) (@zac _ _ _ _ _) (by intro _ _ ; rfl))) (@zar _ _ _ _ _ _ _ (@zaj _ _ _ _ _ _ _ (@zaa _ _ 2 _ _ (by rfl) (by kst_p) (by decide) (by decide)) (@zac _ _ _ _ _) (by intro _ _ ; rfl)) (@zaj _ _ _ _ _ _ _ (@zaa _ _ 1 _ _ (by rfl) (by kst_p) (by decide) (by decide)) (@zac _ _ _ _ _) (by intro _ _ ; rfl)))) (@zah _ _) (by rfl)) (by rfl)) (by rfl)) (by rfl) (by decide) (by rfl) (by rfl))))))
abbrev zcu : Stmt := top 40
theorem zgT : zas ["_law_one", "_law_other_here"] ["_law_one", "_law_other_here"] (zae zcu) := ⟨rfl, rfl, rfl, by decide +kernel, rfl, by decide +kernel, by decide +kernel⟩
set_option maxHeartbeats 4000000 in
theorem zkB {P : Program} {w : World} {K : xFg} {mg : Str -> Option Value} {base : Heap} {f : Addr} {fd : FuncData} {k : Nat} (F : Fun K "_law_dot" "_law_dot" zcu f fd) (hm : mg "_law_dot" = some (.ref f)) (hb : za6 K fd ["_law_one", "_law_other_here"] []) : zax P w K mg base (k + 1) "_law_dot" zca := by
 refine zax.mk' (own' := []) F zgT hm hb rfl rfl fun X E hX C L => ?_
 obtain ⟨cdv, A, outer, s, H, rfl⟩ := hX
 have nd := zgT.nd
 exact (@zai _ _ _ _ _ _ _ (@zaA _ _ _ _ _ _ _ _ (@zbr _ _ _ _ _ _ _ (@zbr _ _ _ _ _ _ _ (@zar _ _ _ _ _ _ _ (@zaj _ _ _ _ _ _ _ (@zaa _ _ 0 _ _ (by rfl) (by kst_p) (by decide) (by decide)) (@zac _ _ _ _ _) (by intro _ _ ; rfl)) (@zaj _ _ _ _ _ _ _ (@zaa _ _ 1 _ _ (by rfl) (by kst_p) (by decide) (by decide)) (@zac _ _ _ _ _) (by intro _ _ ; rfl))) (@zar _ _ _ _ _ _ _ (@zaj _ _ _ _ _ _ _ (@zaa _ _ 0 _ _ (by rfl) (by kst_p) (by decide) (by decide)) (@zac _ _ _ _ _) (by intro _ _ ; rfl)) (@zaj _ _ _ _ _ _ _ (@zaa _ _ 1 _ _ (by rfl) (by kst_p) (by decide) (by decide)) (@zac _ _ _ _ _) (by intro _ _ ; rfl)))) (@zar _ _ _ _ _ _ _ (@zaj _ _ _ _ _ _ _ (@zaa _ _ 0 _ _ (by rfl) (by kst_p) (by decide) (by decide)) (@zac _ _ _ _ _) (by intro _ _ ; rfl)) (@zaj _ _ _ _ _ _ _ (@zaa _ _ 1 _ _ (by rfl) (by kst_p) (by decide) (by decide)) (@zac _ _ _ _ _) (by intro _ _ ; rfl))))))
abbrev zcv : Stmt := top 43
theorem zgU : zas ["_law_rows", "_law_place_here"] ["_law_rows", "_law_place_here"] (zae zcv) := ⟨rfl, rfl, rfl, by decide +kernel, rfl, by decide +kernel, by decide +kernel⟩
set_option maxHeartbeats 4000000 in
theorem zkC {P : Program} {w : World} {K : xFg} {mg : Str -> Option Value} {base : Heap} {f : Addr} {fd : FuncData} {k : Nat} (F : Fun K "_law_led" "_law_led" zcv f fd) (hm : mg "_law_led" = some (.ref f)) (hb : za6 K fd ["_law_rows", "_law_place_here"] []) (F__law_lowest : zax P w K mg base k "_law_lowest" zao) (F__law_dot : zax P w K mg base k "_law_dot" zca) : zax P w K mg base (k + 1) "_law_led" zbD := by
 refine zax.mk' (own' := []) F zgU hm hb rfl rfl fun X E hX C L => ?_
 obtain ⟨cdv, A, outer, s, H, rfl⟩ := hX
 have nd := zgU.nd
 exact (@zai _ _ _ _ _ _ _ (@zaA _ _ _ _ _ _ _ _ (@zam _ _ _ _ _ _ _ _ _ _ C F__law_lowest (@zab _ _ _ _ _ _ (@zam _ _ _ _ _ _ _ _ _ _ C F__law_dot (@zab _ _ _ _ _ _ (@zaj _ _ _ _ _ _ _ (@zaa _ _ 0 _ _ (by rfl) (by kst_p) (by decide) (by decide)) (@zac _ _ _ _ _) (by intro _ _ ; rfl)) (@zab _ _ _ _ _ _ (@zaa _ _ 1 _ _ (by rfl) (by kst_p) (by decide) (by decide)) (@zah _ _) (by rfl)) (by rfl)) (by rfl) (by decide) (by rfl) (by rfl)) (@zab _ _ _ _ _ _ (@zam _ _ _ _ _ _ _ _ _ _ C F__law_dot (@zab _ _ _ _ _ _ (@zaj _ _ _ _ _ _ _ (@zaa _ _ 0 _ _ (by rfl) (by kst_p) (by decide) (by decide)) (@zac _ _ _ _ _) (by intro _ _ ; rfl)) (@zab _ _ _ _ _ _ (@zaa _ _ 1 _ _ (by rfl) (by kst_p) (by decide) (by decide)) (@zah _ _) (by rfl)) (by rfl)) (by rfl) (by decide) (by rfl) (by rfl)) (@zab _ _ _ _ _ _ (@zam _ _ _ _ _ _ _ _ _ _ C F__law_dot (@zab _ _ _ _ _ _ (@zaj _ _ _ _ _ _ _ (@zaa _ _ 0 _ _ (by rfl) (by kst_p) (by decide) (by decide)) (@zac _ _ _ _ _) (by intro _ _ ; rfl)) (@zab _ _ _ _ _ _ (@zaa _ _ 1 _ _ (by rfl) (by kst_p) (by decide) (by decide)) (@zah _ _) (by rfl)) (by rfl)) (by rfl) (by decide) (by rfl) (by rfl)) (@zah _ _) (by rfl)) (by rfl)) (by rfl)) (by rfl) (by decide) (by rfl) (by rfl))))
abbrev zby : Stmt := top 34
theorem zfM : zas ["line"] ["line"] (zae zby) := ⟨rfl, rfl, rfl, by decide +kernel, rfl, by decide +kernel, by decide +kernel⟩
set_option maxHeartbeats 4000000 in
theorem zjX {P : Program} {w : World} {K : xFg} {mg : Str -> Option Value} {base : Heap} {f : Addr} {fd : FuncData} {k : Nat} (F : Fun K "index_off" "index_off" zby f fd) (hm : mg "index_off" = some (.ref f)) (hb : za6 K fd ["line"] []) (n_min : mg "min" = none) (n_range : mg "range" = none) : zax P w K mg base (k + 1) "index_off" zbV := by
 refine zax.mk' (own' := []) F zfM hm hb rfl rfl fun X E hX C L => ?_
 obtain ⟨cdv, A, outer, s, H, rfl⟩ := hX
 have nd := zfM.nd
 exact (@zai _ _ _ _ _ _ _ (@zaA _ _ _ _ _ _ _ _ (@zsJ _ _ _ _ _ _ _ C.calm n_min (@zab _ _ _ _ _ _ (@DF.val _ _ _ _ (@ziY _ _ _ _ _ _ _ _ _ _ _ _ _ _ _ C.calm (LC.of (k := 1) (NY := ["at", "line"]) (N := ["line"]) (sc0 := (zae zby)) rfl rfl (by decide +kernel)) rfl (@zdS _ _ _ _ _ _ _ n_range (@zab _ _ _ _ _ _ (@zac _ _ _ _ _) (@zah _ _) (by rfl)) (by rfl) (by rfl)) (fun _ _ _ _ nd2 => ⟨(@za1 _ _ 0 _ nd2 (by rfl) (by kd_p1) (by kst_p1)), (@zeG _ _ _ _ (@zaw _ _ _ _ _ _ _ _ _ (@zeQ _ _ _ (C.lc _ _ _ _ _ _)) (@zaj _ _ _ _ _ _ _ (@zaa _ _ 1 _ _ (by rfl) (by kst_p) (by decide) (by decide)) (@zaa _ _ 0 _ _ (by rfl) (by kst_p) (by decide) (by decide)) (by intro _ _ ; rfl)) (@zac _ _ _ _ _) (by first | exact zak _ (by decide) (by decide) | rfl))), (@zaa _ _ 0 _ _ (by rfl) (by kst_p) (by decide) (by decide))⟩) (by intro _ ; rfl))) (@zah _ _) (by rfl)) (by rfl) (by rfl) (by rfl))))
abbrev zdk : Stmt := top 22
theorem zhA : zas ["one", "other", "rest"] ["one", "other"] (zae zdk) := ⟨rfl, rfl, rfl, by decide +kernel, rfl, by decide +kernel, by decide +kernel⟩
set_option maxHeartbeats 4000000 in
theorem zmR {P : Program} {w : World} {K : xFg} {mg : Str -> Option Value} {base : Heap} {f : Addr} {fd : FuncData} {k : Nat} (F : Fun K "divisor" "divisor" zdk f fd) (hm : mg "divisor" = some (.ref f)) (hb : za6 K fd ["one", "other"] []) (n_abs : mg "abs" = none) : zax P w K mg base (k + 1) "divisor" zbM := by
 refine zax.mk' (own' := []) F zhA hm hb rfl rfl fun X E hX C L => ?_
 obtain ⟨cdv, A, outer, s, H, rfl⟩ := hX
 have nd := zhA.nd
 exact (@zaf _ _ _ _ _ _ _ _ _ _ (@zan _ _ _ _ _ _ _ _ 0 nd (@zgj _ _ _ _ _ _ _ n_abs (@zab _ _ _ _ _ _ (@zaa _ _ 0 _ _ (by rfl) (by kst_p) (by decide) (by decide)) (@zah _ _) (by rfl)) (by rfl) (by rfl) (by rfl)) (by rfl) (by kd_p1) (by rfl) (by kst_p1)) (@zaf _ _ _ _ _ _ _ _ _ _ (@zan _ _ _ _ _ _ _ _ 1 nd (@zgj _ _ _ _ _ _ _ n_abs (@zab _ _ _ _ _ _ (@zaa _ _ 1 _ _ (by rfl) (by kst_p) (by decide) (by decide)) (@zah _ _) (by rfl)) (by rfl) (by rfl) (by rfl)) (by rfl) (by kd_p1) (by rfl) (by kst_p1)) (@zaf _ _ _ _ _ _ _ _ _ _ (@zhW _ _ _ _ _ _ _ _ _ L (@zaw _ _ _ _ _ _ _ _ _ (@zeQ _ _ _ C) (@zaa _ _ 1 _ _ (by rfl) (by kst_p) (by decide) (by decide)) (@zac _ _ _ _ _) (by first | exact zak _ (by decide) (by decide) | rfl)) (@zaf _ _ _ _ _ _ _ _ _ _ (@zan _ _ _ _ _ _ _ _ 2 nd (@zbs _ _ _ _ _ _ _ (@zaa _ _ 0 _ _ (by rfl) (by kst_p) (by decide) (by decide)) (@zaa _ _ 1 _ _ (by rfl) (by kst_p) (by decide) (by decide))) (by rfl) (by kd_p1) (by rfl) (by kst_p1)) (@zaf _ _ _ _ _ _ _ _ _ _ (@zan _ _ _ _ _ _ _ _ 0 nd (@zaa _ _ 1 _ _ (by rfl) (by kst_p) (by decide) (by decide)) (by rfl) (by kd_p1) (by rfl) (by kst_p1)) (@zai _ _ _ _ _ _ _ (@zan _ _ _ _ _ _ _ _ 1 nd (@zaa _ _ 2 _ _ (by rfl) (by kst_p) (by decide) (by decide)) (by rfl) (by kd_p1) (by rfl) (by kst_p1)))))) (@zai _ _ _ _ _ _ _ (@zaA _ _ _ _ _ _ _ _ (@zaa _ _ 0 _ _ (by rfl) (by kst_p) (by decide) (by decide)))))))
abbrev zcw : Stmt := top 30
theorem zgV : zas ["top", "bottom", "part"] ["top", "bottom"] (zae zcw) := ⟨rfl, rfl, rfl, by decide +kernel, rfl, by decide +kernel, by decide +kernel⟩
set_option maxHeartbeats 4000000 in
theorem zkD {P : Program} {w : World} {K : xFg} {mg : Str -> Option Value} {base : Heap} {f : Addr} {fd : FuncData} {k : Nat} (F : Fun K "fraction" "fraction" zcw f fd) (hm : mg "fraction" = some (.ref f)) (hb : za6 K fd ["top", "bottom"] []) (F_divisor : zax P w K mg base k "divisor" zbM) : zax P w K mg base (k + 1) "fraction" zcq := by
 refine zax.mk' (own' := []) F zgV hm hb rfl rfl fun X E hX C L => ?_
 obtain ⟨cdv, A, outer, s, H, rfl⟩ := hX
 have nd := zgV.nd
 exact (@zaf _ _ _ _ _ _ _ _ _ _ (@zan _ _ _ _ _ _ _ _ 2 nd (@zam _ _ _ _ _ _ _ _ _ _ C F_divisor (@zab _ _ _ _ _ _ (@zaa _ _ 0 _ _ (by rfl) (by kst_p) (by decide) (by decide)) (@zab _ _ _ _ _ _ (@zaa _ _ 1 _ _ (by rfl) (by kst_p) (by decide) (by decide)) (@zah _ _) (by rfl)) (by rfl)) (by rfl) (by decide) (by rfl) (by rfl)) (by rfl) (by kd_p1) (by rfl) (by kst_p1)) (@zaf _ _ _ _ _ _ _ _ _ _ (@zcm _ _ _ _ _ _ _ _ _ _ _ _ (@zaw _ _ _ _ _ _ _ _ _ (@zmu _) (@zaa _ _ 1 _ _ (by rfl) (by kst_p) (by decide) (by decide)) (@zac _ _ _ _ _) (by first | exact zak _ (by decide) (by decide) | rfl)) (@zai _ _ _ _ _ _ _ (@zan _ _ _ _ _ _ _ _ 2 nd (@zi4 _ _ _ _ _ (@zaa _ _ 2 _ _ (by rfl) (by kst_p) (by decide) (by decide))) (by rfl) (by kd_p1) (by rfl) (by kst_p1))) (@zaM _ _ _ _)) (@zai _ _ _ _ _ _ _ (@zaA _ _ _ _ _ _ _ _ (@zcP _ _ _ _ _ _ (@zab _ _ _ _ _ _ (@zcF _ _ _ _ _ _ _ (@zaa _ _ 0 _ _ (by rfl) (by kst_p) (by decide) (by decide)) (@zaa _ _ 2 _ _ (by rfl) (by kst_p) (by decide) (by decide))) (@zab _ _ _ _ _ _ (@zcF _ _ _ _ _ _ _ (@zaa _ _ 1 _ _ (by rfl) (by kst_p) (by decide) (by decide)) (@zaa _ _ 2 _ _ (by rfl) (by kst_p) (by decide) (by decide))) (@zah _ _) (by rfl)) (by rfl)))))))
abbrev zcM : Stmt := top 21
theorem zhB : zas ["numbers", "part", "last"] ["numbers"] (zae zcM) := ⟨rfl, rfl, rfl, by decide +kernel, rfl, by decide +kernel, by decide +kernel⟩
set_option maxHeartbeats 4000000 in
theorem zmS {P : Program} {w : World} {K : xFg} {mg : Str -> Option Value} {base : Heap} {f : Addr} {fd : FuncData} {k : Nat} (F : Fun K "in_form" "in_form" zcM f fd) (hm : mg "in_form" = some (.ref f)) (hb : za6 K fd ["numbers"] []) (F_divisor : zax P w K mg base k "divisor" zbM) : zax P w K mg base (k + 1) "in_form" zbN := by
 refine zax.mk' (own' := []) F zhB hm hb rfl rfl fun X E hX C L => ?_
 obtain ⟨cdv, A, outer, s, H, rfl⟩ := hX
 have nd := zhB.nd
 exact (@zaf _ _ _ _ _ _ _ _ _ _ (@zan _ _ _ _ _ _ _ _ 1 nd (@zam _ _ _ _ _ _ _ _ _ _ C F_divisor (@zab _ _ _ _ _ _ (@zam _ _ _ _ _ _ _ _ _ _ C F_divisor (@zab _ _ _ _ _ _ (@zaj _ _ _ _ _ _ _ (@zaa _ _ 0 _ _ (by rfl) (by kst_p) (by decide) (by decide)) (@zac _ _ _ _ _) (by intro _ _ ; rfl)) (@zab _ _ _ _ _ _ (@zaj _ _ _ _ _ _ _ (@zaa _ _ 0 _ _ (by rfl) (by kst_p) (by decide) (by decide)) (@zac _ _ _ _ _) (by intro _ _ ; rfl)) (@zah _ _) (by rfl)) (by rfl)) (by rfl) (by decide) (by rfl) (by rfl)) (@zab _ _ _ _ _ _ (@zaj _ _ _ _ _ _ _ (@zaa _ _ 0 _ _ (by rfl) (by kst_p) (by decide) (by decide)) (@zac _ _ _ _ _) (by intro _ _ ; rfl)) (@zah _ _) (by rfl)) (by rfl)) (by rfl) (by decide) (by rfl) (by rfl)) (by rfl) (by kd_p1) (by rfl) (by kst_p1)) (@zaf _ _ _ _ _ _ _ _ _ _ (@zan _ _ _ _ _ _ _ _ 2 nd (@zaj _ _ _ _ _ _ _ (@DF.val _ _ _ _ (@ziY _ _ _ _ _ _ _ _ _ _ _ _ _ _ _ C.calm (LC.of (k := 1) (NY := ["number", "numbers", "part", "last"]) (N := ["numbers", "part", "last"]) (sc0 := (zae zcM)) rfl rfl (by decide +kernel)) rfl (@zcE _ _ _ _ _ (@zaa _ _ 0 _ _ (by rfl) (by kst_p) (by decide) (by decide))) (fun _ _ _ _ nd2 => ⟨(@za1 _ _ 0 _ nd2 (by rfl) (by kd_p1) (by kst_p1)), (@zeG _ _ _ _ (@zaw _ _ _ _ _ _ _ _ _ (@zeQ _ _ _ (C.lc _ _ _ _ _ _)) (@zaa _ _ 0 _ _ (by rfl) (by kst_p) (by decide) (by decide)) (@zac _ _ _ _ _) (by first | exact zak _ (by decide) (by decide) | rfl))), (@zaa _ _ 0 _ _ (by rfl) (by kst_p) (by decide) (by decide))⟩) (by intro _ ; rfl))) (@zi4 _ _ _ _ _ (@zac _ _ _ _ _)) (by intro _ _ ; rfl)) (by rfl) (by kd_p1) (by rfl) (by kst_p1)) (@zaf _ _ _ _ _ _ _ _ _ _ (@zcm _ _ _ _ _ _ _ _ _ _ _ _ (@zaw _ _ _ _ _ _ _ _ _ (@zmu _) (@zaa _ _ 2 _ _ (by rfl) (by kst_p) (by decide) (by decide)) (@zac _ _ _ _ _) (by first | exact zak _ (by decide) (by decide) | rfl)) (@zai _ _ _ _ _ _ _ (@zan _ _ _ _ _ _ _ _ 1 nd (@zi4 _ _ _ _ _ (@zaa _ _ 1 _ _ (by rfl) (by kst_p) (by decide) (by decide))) (by rfl) (by kd_p1) (by rfl) (by kst_p1))) (@zaM _ _ _ _)) (@zai _ _ _ _ _ _ _ (@zaA _ _ _ _ _ _ _ _ (@zcP _ _ _ _ _ _ (@zab _ _ _ _ _ _ (@zcF _ _ _ _ _ _ _ (@zaj _ _ _ _ _ _ _ (@zaa _ _ 0 _ _ (by rfl) (by kst_p) (by decide) (by decide)) (@zac _ _ _ _ _) (by intro _ _ ; rfl)) (@zaa _ _ 1 _ _ (by rfl) (by kst_p) (by decide) (by decide))) (@zab _ _ _ _ _ _ (@zcF _ _ _ _ _ _ _ (@zaj _ _ _ _ _ _ _ (@zaa _ _ 0 _ _ (by rfl) (by kst_p) (by decide) (by decide)) (@zac _ _ _ _ _) (by intro _ _ ; rfl)) (@zaa _ _ 1 _ _ (by rfl) (by kst_p) (by decide) (by decide))) (@zab _ _ _ _ _ _ (@zcF _ _ _ _ _ _ _ (@zaj _ _ _ _ _ _ _ (@zaa _ _ 0 _ _ (by rfl) (by kst_p) (by decide) (by decide)) (@zac _ _ _ _ _) (by intro _ _ ; rfl)) (@zaa _ _ 1 _ _ (by rfl) (by kst_p) (by decide) (by decide))) (@zah _ _) (by rfl)) (by rfl)) (by rfl))))))))
abbrev zfm : Stmt := top 25
theorem zma : zas ["one", "other", "x", "y", "z"] ["one", "other"] (zae zfm) := ⟨rfl, rfl, rfl, by decide +kernel, rfl, by decide +kernel, by decide +kernel⟩
set_option maxHeartbeats 4000000 in
theorem zqr {P : Program} {w : World} {K : xFg} {mg : Str -> Option Value} {base : Heap} {f : Addr} {fd : FuncData} {k : Nat} (F : Fun K "cross" "cross" zfm f fd) (hm : mg "cross" = some (.ref f)) (hb : za6 K fd ["one", "other"] []) : zax P w K mg base (k + 1) "cross" zcH := by
 refine zax.mk' (own' := []) F zma hm hb rfl rfl fun X E hX C L => ?_
 obtain ⟨cdv, A, outer, s, H, rfl⟩ := hX
 have nd := zma.nd
 exact (@zaf _ _ _ _ _ _ _ _ _ _ (@zan _ _ _ _ _ _ _ _ 2 nd (@zbB _ _ _ _ _ _ _ (@zar _ _ _ _ _ _ _ (@zaj _ _ _ _ _ _ _ (@zaa _ _ 0 _ _ (by rfl) (by kst_p) (by decide) (by decide)) (@zac _ _ _ _ _) (by intro _ _ ; rfl)) (@zaj _ _ _ _ _ _ _ (@zaa _ _ 1 _ _ (by rfl) (by kst_p) (by decide) (by decide)) (@zac _ _ _ _ _) (by intro _ _ ; rfl))) (@zar _ _ _ _ _ _ _ (@zaj _ _ _ _ _ _ _ (@zaa _ _ 0 _ _ (by rfl) (by kst_p) (by decide) (by decide)) (@zac _ _ _ _ _) (by intro _ _ ; rfl)) (@zaj _ _ _ _ _ _ _ (@zaa _ _ 1 _ _ (by rfl) (by kst_p) (by decide) (by decide)) (@zac _ _ _ _ _) (by intro _ _ ; rfl)))) (by rfl) (by kd_p1) (by rfl) (by kst_p1)) (@zaf _ _ _ _ _ _ _ _ _ _ (@zan _ _ _ _ _ _ _ _ 3 nd (@zbB _ _ _ _ _ _ _ (@zar _ _ _ _ _ _ _ (@zaj _ _ _ _ _ _ _ (@zaa _ _ 0 _ _ (by rfl) (by kst_p) (by decide) (by decide)) (@zac _ _ _ _ _) (by intro _ _ ; rfl)) (@zaj _ _ _ _ _ _ _ (@zaa _ _ 1 _ _ (by rfl) (by kst_p) (by decide) (by decide)) (@zac _ _ _ _ _) (by intro _ _ ; rfl))) (@zar _ _ _ _ _ _ _ (@zaj _ _ _ _ _ _ _ (@zaa _ _ 0 _ _ (by rfl) (by kst_p) (by decide) (by decide)) (@zac _ _ _ _ _) (by intro _ _ ; rfl)) (@zaj _ _ _ _ _ _ _ (@zaa _ _ 1 _ _ (by rfl) (by kst_p) (by decide) (by decide)) (@zac _ _ _ _ _) (by intro _ _ ; rfl)))) (by rfl) (by kd_p1) (by rfl) (by kst_p1)) (@zaf _ _ _ _ _ _ _ _ _ _ (@zan _ _ _ _ _ _ _ _ 4 nd (@zbB _ _ _ _ _ _ _ (@zar _ _ _ _ _ _ _ (@zaj _ _ _ _ _ _ _ (@zaa _ _ 0 _ _ (by rfl) (by kst_p) (by decide) (by decide)) (@zac _ _ _ _ _) (by intro _ _ ; rfl)) (@zaj _ _ _ _ _ _ _ (@zaa _ _ 1 _ _ (by rfl) (by kst_p) (by decide) (by decide)) (@zac _ _ _ _ _) (by intro _ _ ; rfl))) (@zar _ _ _ _ _ _ _ (@zaj _ _ _ _ _ _ _ (@zaa _ _ 0 _ _ (by rfl) (by kst_p) (by decide) (by decide)) (@zac _ _ _ _ _) (by intro _ _ ; rfl)) (@zaj _ _ _ _ _ _ _ (@zaa _ _ 1 _ _ (by rfl) (by kst_p) (by decide) (by decide)) (@zac _ _ _ _ _) (by intro _ _ ; rfl)))) (by rfl) (by kd_p1) (by rfl) (by kst_p1)) (@zai _ _ _ _ _ _ _ (@zaA _ _ _ _ _ _ _ _ (@zcP _ _ _ _ _ _ (@zab _ _ _ _ _ _ (@zaa _ _ 2 _ _ (by rfl) (by kst_p) (by decide) (by decide)) (@zab _ _ _ _ _ _ (@zaa _ _ 3 _ _ (by rfl) (by kst_p) (by decide) (by decide)) (@zab _ _ _ _ _ _ (@zaa _ _ 4 _ _ (by rfl) (by kst_p) (by decide) (by decide)) (@zah _ _) (by rfl)) (by rfl)) (by rfl))))))))
abbrev zbq : Stmt := top 27
theorem zeB : zas ["one", "other"] ["one", "other"] (zae zbq) := ⟨rfl, rfl, rfl, by decide +kernel, rfl, by decide +kernel, by decide +kernel⟩
set_option maxHeartbeats 4000000 in
theorem zhc {P : Program} {w : World} {K : xFg} {mg : Str -> Option Value} {base : Heap} {f : Addr} {fd : FuncData} {k : Nat} (F : Fun K "between_two" "between_two" zbq f fd) (hm : mg "between_two" = some (.ref f)) (hb : za6 K fd ["one", "other"] []) (F_in_form : zax P w K mg base k "in_form" zbN) (F_cross : zax P w K mg base k "cross" zcH) : zax P w K mg base (k + 1) "between_two" zaW := by
 refine zax.mk' (own' := []) F zeB hm hb rfl rfl fun X E hX C L => ?_
 obtain ⟨cdv, A, outer, s, H, rfl⟩ := hX
 have nd := zeB.nd
 exact (@zaf _ _ _ _ _ _ _ _ _ _ (@zcm _ _ _ _ _ _ _ _ _ _ _ _ (@zaw _ _ _ _ _ _ _ _ _ (@zei _ _ _ C) (@zaa _ _ 0 _ _ (by rfl) (by kst_p) (by decide) (by decide)) (@zaa _ _ 1 _ _ (by rfl) (by kst_p) (by decide) (by decide)) (by first | exact zak _ (by decide) (by decide) | rfl)) (@zai _ _ _ _ _ _ _ (@zub _ _ _ _ _ _)) (@zaM _ _ _ _)) (@zai _ _ _ _ _ _ _ (@zaA _ _ _ _ _ _ _ _ (@zam _ _ _ _ _ _ _ _ _ _ C F_in_form (@zab _ _ _ _ _ _ (@zam _ _ _ _ _ _ _ _ _ _ C F_cross (@zab _ _ _ _ _ _ (@zaa _ _ 0 _ _ (by rfl) (by kst_p) (by decide) (by decide)) (@zab _ _ _ _ _ _ (@zaa _ _ 1 _ _ (by rfl) (by kst_p) (by decide) (by decide)) (@zah _ _) (by rfl)) (by rfl)) (by rfl) (by decide) (by rfl) (by rfl)) (@zah _ _) (by rfl)) (by rfl) (by decide) (by rfl) (by rfl)))))
abbrev zdl : Stmt := top 26
theorem zhC : zas ["one", "other"] ["one", "other"] (zae zdl) := ⟨rfl, rfl, rfl, by decide +kernel, rfl, by decide +kernel, by decide +kernel⟩
set_option maxHeartbeats 4000000 in
theorem zmT {P : Program} {w : World} {K : xFg} {mg : Str -> Option Value} {base : Heap} {f : Addr} {fd : FuncData} {k : Nat} (F : Fun K "through" "through" zdl f fd) (hm : mg "through" = some (.ref f)) (hb : za6 K fd ["one", "other"] []) (F_between_two : zax P w K mg base k "between_two" zaW) : zax P w K mg base (k + 1) "through" za3 := by
 refine zax.mk' (own' := []) F zhC hm hb rfl rfl fun X E hX C L => ?_
 obtain ⟨cdv, A, outer, s, H, rfl⟩ := hX
 have nd := zhC.nd
 exact (@zai _ _ _ _ _ _ _ (@zaA _ _ _ _ _ _ _ _ (@zam _ _ _ _ _ _ _ _ _ _ C F_between_two (@zab _ _ _ _ _ _ (@zaa _ _ 0 _ _ (by rfl) (by kst_p) (by decide) (by decide)) (@zab _ _ _ _ _ _ (@zaa _ _ 1 _ _ (by rfl) (by kst_p) (by decide) (by decide)) (@zah _ _) (by rfl)) (by rfl)) (by rfl) (by decide) (by rfl) (by rfl))))
abbrev zmU : Stmt := top 24
theorem zrE : zas ["one", "other"] ["one", "other"] (zae zmU) := ⟨rfl, rfl, rfl, by decide +kernel, rfl, by decide +kernel, by decide +kernel⟩
set_option maxHeartbeats 4000000 in
theorem zu8 {P : Program} {w : World} {K : xFg} {mg : Str -> Option Value} {base : Heap} {f : Addr} {fd : FuncData} {k : Nat} (F : Fun K "dot" "dot" zmU f fd) (hm : mg "dot" = some (.ref f)) (hb : za6 K fd ["one", "other"] []) : zax P w K mg base (k + 1) "dot" zmJ := by
 refine zax.mk' (own' := []) F zrE hm hb rfl rfl fun X E hX C L => ?_
 obtain ⟨cdv, A, outer, s, H, rfl⟩ := hX
 have nd := zrE.nd
 exact (@zai _ _ _ _ _ _ _ (@zaA _ _ _ _ _ _ _ _ (@zbr _ _ _ _ _ _ _ (@zbr _ _ _ _ _ _ _ (@zar _ _ _ _ _ _ _ (@zaj _ _ _ _ _ _ _ (@zaa _ _ 0 _ _ (by rfl) (by kst_p) (by decide) (by decide)) (@zac _ _ _ _ _) (by intro _ _ ; rfl)) (@zaj _ _ _ _ _ _ _ (@zaa _ _ 1 _ _ (by rfl) (by kst_p) (by decide) (by decide)) (@zac _ _ _ _ _) (by intro _ _ ; rfl))) (@zar _ _ _ _ _ _ _ (@zaj _ _ _ _ _ _ _ (@zaa _ _ 0 _ _ (by rfl) (by kst_p) (by decide) (by decide)) (@zac _ _ _ _ _) (by intro _ _ ; rfl)) (@zaj _ _ _ _ _ _ _ (@zaa _ _ 1 _ _ (by rfl) (by kst_p) (by decide) (by decide)) (@zac _ _ _ _ _) (by intro _ _ ; rfl)))) (@zar _ _ _ _ _ _ _ (@zaj _ _ _ _ _ _ _ (@zaa _ _ 0 _ _ (by rfl) (by kst_p) (by decide) (by decide)) (@zac _ _ _ _ _) (by intro _ _ ; rfl)) (@zaj _ _ _ _ _ _ _ (@zaa _ _ 1 _ _ (by rfl) (by kst_p) (by decide) (by decide)) (@zac _ _ _ _ _) (by intro _ _ ; rfl))))))
abbrev zhD : Stmt := top 23
theorem zpe : zas ["place", "line"] ["place", "line"] (zae zhD) := ⟨rfl, rfl, rfl, by decide +kernel, rfl, by decide +kernel, by decide +kernel⟩
set_option maxHeartbeats 4000000 in
theorem zs2 {P : Program} {w : World} {K : xFg} {mg : Str -> Option Value} {base : Heap} {f : Addr} {fd : FuncData} {k : Nat} (F : Fun K "lies" "lies" zhD f fd) (hm : mg "lies" = some (.ref f)) (hb : za6 K fd ["place", "line"] []) (F_dot : zax P w K mg base k "dot" zmJ) : zax P w K mg base (k + 1) "lies" zdf := by
 refine zax.mk' (own' := []) F zpe hm hb rfl rfl fun X E hX C L => ?_
 obtain ⟨cdv, A, outer, s, H, rfl⟩ := hX
 have nd := zpe.nd
 exact (@zai _ _ _ _ _ _ _ (@zaA _ _ _ _ _ _ _ _ (@zgi _ _ _ _ _ _ _ _ _ (@zei _ _ _ C) (@zam _ _ _ _ _ _ _ _ _ _ C F_dot (@zab _ _ _ _ _ _ (@zaa _ _ 0 _ _ (by rfl) (by kst_p) (by decide) (by decide)) (@zab _ _ _ _ _ _ (@zaa _ _ 1 _ _ (by rfl) (by kst_p) (by decide) (by decide)) (@zah _ _) (by rfl)) (by rfl)) (by rfl) (by decide) (by rfl) (by rfl)) (@zac _ _ _ _ _) (by first | exact zak _ (by decide) (by decide) | rfl))))
abbrev zc6 : Stmt := top 28
theorem zjY : zas ["places", "others", "line"] ["places"] (zae zc6) := ⟨rfl, rfl, rfl, by decide +kernel, rfl, by decide +kernel, by decide +kernel⟩
set_option maxHeartbeats 4000000 in
theorem zpf {P : Program} {w : World} {K : xFg} {mg : Str -> Option Value} {base : Heap} {f : Addr} {fd : FuncData} {k : Nat} (F : Fun K "on_one" "on_one" zc6 f fd) (hm : mg "on_one" = some (.ref f)) (hb : za6 K fd ["places"] []) (n_len : mg "len" = none) (n_all : mg "all" = none) (F_through : zax P w K mg base k "through" za3) (F_lies : zax P w K mg base k "lies" zdf) : zax P w K mg base (k + 1) "on_one" zbU := by
 refine zax.mk' (own' := []) F zjY hm hb rfl rfl fun X E hX C L => ?_
 obtain ⟨cdv, A, outer, s, H, rfl⟩ := hX
 have nd := zjY.nd
 exact (@zaf _ _ _ _ _ _ _ _ _ _ (@zfX _ _ _ _ _ _ _ _ _ _ _ _ _ _ _ _ _ _ _ _ 1 C.calm nd (LC.of (k := 1) (NY := ["place", "places", "others", "line"]) (N := ["places", "others", "line"]) (sc0 := (zae zc6)) rfl rfl (by decide +kernel)) rfl (@zcE _ _ _ _ _ (@zaa _ _ 0 _ _ (by rfl) (by kst_p) (by decide) (by decide))) (fun _ _ _ _ nd2 => ⟨(@za1 _ _ 0 _ nd2 (by rfl) (by kd_p1) (by kst_p1)), (@zeG _ _ _ _ (@zaw _ _ _ _ _ _ _ _ _ (@zeQ _ _ _ (C.lc _ _ _ _ _ _)) (@zaa _ _ 0 _ _ (by rfl) (by kst_p) (by decide) (by decide)) (@zaj _ _ _ _ _ _ _ (@zaa _ _ 1 _ _ (by rfl) (by kst_p) (by decide) (by decide)) (@zac _ _ _ _ _) (by intro _ _ ; rfl)) (by first | exact zak _ (by decide) (by decide) | rfl))), (@zaa _ _ 0 _ _ (by rfl) (by kst_p) (by decide) (by decide))⟩) (by rfl) (by rfl) (by rfl) (by rfl) (by intro _ ; rfl)) (@zaf _ _ _ _ _ _ _ _ _ _ (@zcm _ _ _ _ _ _ _ _ _ _ _ _ (@zaw _ _ _ _ _ _ _ _ _ (@zei _ _ _ C) (@zk6 _ _ _ _ _ _ _ n_len (@zab _ _ _ _ _ _ (@zaa _ _ 1 _ _ (by rfl) (by kst_p) (by decide) (by decide)) (@zah _ _) (by rfl)) (by rfl) (by rfl) (by rfl)) (@zac _ _ _ _ _) (by first | exact zak _ (by decide) (by decide) | rfl)) (@zai _ _ _ _ _ _ _ (@zaA _ _ _ _ _ _ _ _ (@ziU _ _ _ _ _))) (@zaM _ _ _ _)) (@zaf _ _ _ _ _ _ _ _ _ _ (@zan _ _ _ _ _ _ _ _ 2 nd (@zam _ _ _ _ _ _ _ _ _ _ C F_through (@zab _ _ _ _ _ _ (@zaj _ _ _ _ _ _ _ (@zaa _ _ 0 _ _ (by rfl) (by kst_p) (by decide) (by decide)) (@zac _ _ _ _ _) (by intro _ _ ; rfl)) (@zab _ _ _ _ _ _ (@zaj _ _ _ _ _ _ _ (@zaa _ _ 1 _ _ (by rfl) (by kst_p) (by decide) (by decide)) (@zac _ _ _ _ _) (by intro _ _ ; rfl)) (@zah _ _) (by rfl)) (by rfl)) (by rfl) (by decide) (by rfl) (by rfl)) (by rfl) (by kd_p1) (by rfl) (by kst_p1)) (@zai _ _ _ _ _ _ _ (@zaA _ _ _ _ _ _ _ _ (@zn2 _ _ _ _ _ _ _ C.calm n_all (@zab _ _ _ _ _ _ (@DF.val _ _ _ _ (@ziY _ _ _ _ _ _ _ _ _ _ _ _ _ _ _ C.calm (LC.of (k := 1) (NY := ["place", "places", "others", "line"]) (N := ["places", "others", "line"]) (sc0 := (zae zc6)) rfl rfl (by decide +kernel)) rfl (@zcE _ _ _ _ _ (@zaa _ _ 1 _ _ (by rfl) (by kst_p) (by decide) (by decide))) (fun _ _ _ _ nd2 => ⟨(@za1 _ _ 0 _ nd2 (by rfl) (by kd_p1) (by kst_p1)), (@zdT _ _), (@zam _ _ _ _ _ _ _ _ _ _ (C.lc _ _ _ _ _ _) F_lies (@zab _ _ _ _ _ _ (@zaa _ _ 0 _ _ (by rfl) (by kst_p) (by decide) (by decide)) (@zab _ _ _ _ _ _ (@zaa _ _ 3 _ _ (by rfl) (by kst_p) (by decide) (by decide)) (@zah _ _) (by rfl)) (by rfl)) (by rfl) (by decide) (by rfl) (by rfl))⟩) (by intro _ ; rfl))) (@zah _ _) (by rfl)) (by rfl) (by rfl) (by rfl)))))))
abbrev zcx : Stmt := top 18
theorem zgW : zas ["thing"] ["thing"] (zae zcx) := ⟨rfl, rfl, rfl, by decide +kernel, rfl, by decide +kernel, by decide +kernel⟩
set_option maxHeartbeats 4000000 in
theorem zkE {P : Program} {w : World} {K : xFg} {mg : Str -> Option Value} {base : Heap} {f : Addr} {fd : FuncData} {k : Nat} (F : Fun K "is_whole" "is_whole" zcx f fd) (hm : mg "is_whole" = some (.ref f)) (hb : za6 K fd ["thing"] []) (n_isinstance : mg "isinstance" = none) (n_int : mg "int" = none) (n_bool : mg "bool" = none) : zax P w K mg base (k + 1) "is_whole" zcp := by
 refine zax.mk' (own' := []) F zgW hm hb rfl rfl fun X E hX C L => ?_
 obtain ⟨cdv, A, outer, s, H, rfl⟩ := hX
 have nd := zgW.nd
 exact (@zai _ _ _ _ _ _ _ (@zaA _ _ _ _ _ _ _ _ (@zgd _ _ _ _ _ _ _ _ (@zft _ _ _ _ _ _ _ n_isinstance (@zab _ _ _ _ _ _ (@zaa _ _ 0 _ _ (by rfl) (by kst_p) (by decide) (by decide)) (@zab _ _ _ _ _ _ (@zkb _ _ _ _ _ n_int zqF (by rfl) (by decide) (by decide)) (@zah _ _) (by rfl)) (by rfl)) (by rfl) (by rfl) (by rfl)) (@ziV _ _ _ _ _ _ (@znL _ _ _ _ _ (@zft _ _ _ _ _ _ _ n_isinstance (@zab _ _ _ _ _ _ (@zaa _ _ 0 _ _ (by rfl) (by kst_p) (by decide) (by decide)) (@zab _ _ _ _ _ _ (@zkb _ _ _ _ _ n_bool zn1 (by rfl) (by decide) (by decide)) (@zah _ _) (by rfl)) (by rfl)) (by rfl) (by rfl) (by rfl)))))))
abbrev za9 : Stmt := top 20
theorem zeC : zas ["three"] ["three"] (zae za9) := ⟨rfl, rfl, rfl, by decide +kernel, rfl, by decide +kernel, by decide +kernel⟩
set_option maxHeartbeats 4000000 in
theorem zhd {P : Program} {w : World} {K : xFg} {mg : Str -> Option Value} {base : Heap} {f : Addr} {fd : FuncData} {k : Nat} (F : Fun K "makes_place" "makes_place" za9 f fd) (hm : mg "makes_place" = some (.ref f)) (hb : za6 K fd ["three"] []) (n_all : mg "all" = none) (F_is_whole : zax P w K mg base k "is_whole" zcp) : zax P w K mg base (k + 1) "makes_place" zbm := by
 refine zax.mk' (own' := []) F zeC hm hb rfl rfl fun X E hX C L => ?_
 obtain ⟨cdv, A, outer, s, H, rfl⟩ := hX
 have nd := zeC.nd
 exact (@zai _ _ _ _ _ _ _ (@zaA _ _ _ _ _ _ _ _ (@zgd _ _ _ _ _ _ _ _ (@zn2 _ _ _ _ _ _ _ C.calm n_all (@zab _ _ _ _ _ _ (@DF.val _ _ _ _ (@ziY _ _ _ _ _ _ _ _ _ _ _ _ _ _ _ C.calm (LC.of (k := 1) (NY := ["thing", "three"]) (N := ["three"]) (sc0 := (zae za9)) rfl rfl (by decide +kernel)) rfl (@zcE _ _ _ _ _ (@zaa _ _ 0 _ _ (by rfl) (by kst_p) (by decide) (by decide))) (fun _ _ _ _ nd2 => ⟨(@za1 _ _ 0 _ nd2 (by rfl) (by kd_p1) (by kst_p1)), (@zdT _ _), (@zam _ _ _ _ _ _ _ _ _ _ (C.lc _ _ _ _ _ _) F_is_whole (@zab _ _ _ _ _ _ (@zaa _ _ 0 _ _ (by rfl) (by kst_p) (by decide) (by decide)) (@zah _ _) (by rfl)) (by rfl) (by decide) (by rfl) (by rfl))⟩) (by intro _ ; rfl))) (@zah _ _) (by rfl)) (by rfl) (by rfl) (by rfl)) (@ziV _ _ _ _ _ _ (@zgi _ _ _ _ _ _ _ _ _ (@zeQ _ _ _ C) (@zaa _ _ 0 _ _ (by rfl) (by kst_p) (by decide) (by decide)) (@zcP _ _ _ _ _ _ (@zab _ _ _ _ _ _ (@zac _ _ _ _ _) (@zab _ _ _ _ _ _ (@zac _ _ _ _ _) (@zab _ _ _ _ _ _ (@zac _ _ _ _ _) (@zah _ _) (by rfl)) (by rfl)) (by rfl))) (by first | exact zak _ (by decide) (by decide) | rfl))))))
abbrev zcy : Stmt := top 19
theorem zgX : zas ["thing"] ["thing"] (zae zcy) := ⟨rfl, rfl, rfl, by decide +kernel, rfl, by decide +kernel, by decide +kernel⟩
set_option maxHeartbeats 4000000 in
theorem zkF {P : Program} {w : World} {K : xFg} {mg : Str -> Option Value} {base : Heap} {f : Addr} {fd : FuncData} {k : Nat} (F : Fun K "is_place" "is_place" zcy f fd) (hm : mg "is_place" = some (.ref f)) (hb : za6 K fd ["thing"] []) (n_isinstance : mg "isinstance" = none) (n_tuple : mg "tuple" = none) (n_len : mg "len" = none) (F_makes_place : zax P w K mg base k "makes_place" zbm) (F_in_form : zax P w K mg base k "in_form" zbN) : zax P w K mg base (k + 1) "is_place" zbT := by
 refine zax.mk' (own' := []) F zgX hm hb rfl rfl fun X E hX C L => ?_
 obtain ⟨cdv, A, outer, s, H, rfl⟩ := hX
 have nd := zgX.nd
 exact (@zaf _ _ _ _ _ _ _ _ _ _ (@zcm _ _ _ _ _ _ _ _ _ _ _ _ (@DW.dt _ _ _ _ (@zke _ _ _ _ _ _ _ _ (@zfq _ _ _ _ _ (@zem _ _ _ _ (@zft _ _ _ _ _ _ _ n_isinstance (@zab _ _ _ _ _ _ (@zaa _ _ 0 _ _ (by rfl) (by kst_p) (by decide) (by decide)) (@zab _ _ _ _ _ _ (@zkb _ _ _ _ _ n_tuple zk5 (by rfl) (by decide) (by decide)) (@zah _ _) (by rfl)) (by rfl)) (by rfl) (by rfl) (by rfl)) (by intro _ ; rfl))) (@zhk _ _ _ _ _ (@zaw _ _ _ _ _ _ _ _ _ (@zeQ _ _ _ C) (@zk6 _ _ _ _ _ _ _ n_len (@zab _ _ _ _ _ _ (@zaa _ _ 0 _ _ (by rfl) (by kst_p) (by decide) (by decide)) (@zah _ _) (by rfl)) (by rfl) (by rfl) (by rfl)) (@zac _ _ _ _ _) (by first | exact zak _ (by decide) (by decide) | rfl))))) (@zai _ _ _ _ _ _ _ (@zaA _ _ _ _ _ _ _ _ (@ziU _ _ _ _ _))) (@zaM _ _ _ _)) (@zaf _ _ _ _ _ _ _ _ _ _ (@zcm _ _ _ _ _ _ _ _ _ _ _ _ (@zfq _ _ _ _ _ (@zem _ _ _ _ (@zam _ _ _ _ _ _ _ _ _ _ C F_makes_place (@zab _ _ _ _ _ _ (@zaa _ _ 0 _ _ (by rfl) (by kst_p) (by decide) (by decide)) (@zah _ _) (by rfl)) (by rfl) (by decide) (by rfl) (by rfl)) (by intro _ ; rfl))) (@zai _ _ _ _ _ _ _ (@zaA _ _ _ _ _ _ _ _ (@ziU _ _ _ _ _))) (@zaM _ _ _ _)) (@zai _ _ _ _ _ _ _ (@zaA _ _ _ _ _ _ _ _ (@zgi _ _ _ _ _ _ _ _ _ (@zei _ _ _ C) (@zam _ _ _ _ _ _ _ _ _ _ C F_in_form (@zab _ _ _ _ _ _ (@zaa _ _ 0 _ _ (by rfl) (by kst_p) (by decide) (by decide)) (@zah _ _) (by rfl)) (by rfl) (by decide) (by rfl) (by rfl)) (@zaa _ _ 0 _ _ (by rfl) (by kst_p) (by decide) (by decide)) (by first | exact zak _ (by decide) (by decide) | rfl))))))
abbrev zbz : Stmt := top 33
theorem zfN : zas ["four"] ["four"] (zae zbz) := ⟨rfl, rfl, rfl, by decide +kernel, rfl, by decide +kernel, by decide +kernel⟩
set_option maxHeartbeats 4000000 in
theorem zjZ {P : Program} {w : World} {K : xFg} {mg : Str -> Option Value} {base : Heap} {f : Addr} {fd : FuncData} {k : Nat} (F : Fun K "has_ratio" "has_ratio" zbz f fd) (hm : mg "has_ratio" = some (.ref f)) (hb : za6 K fd ["four"] []) (n_all : mg "all" = none) (n_len : mg "len" = none) (n_set : mg "set" = none) (F_is_place : zax P w K mg base k "is_place" zbT) (F_on_one : zax P w K mg base k "on_one" zbU) : zax P w K mg base (k + 1) "has_ratio" zbW := by
 refine zax.mk' (own' := []) F zfN hm hb rfl rfl fun X E hX C L => ?_
 obtain ⟨cdv, A, outer, s, H, rfl⟩ := hX
 have nd := zfN.nd
 exact (@zai _ _ _ _ _ _ _ (@zaA _ _ _ _ _ _ _ _ (@zgd _ _ _ _ _ _ _ _ (@zn2 _ _ _ _ _ _ _ C.calm n_all (@zab _ _ _ _ _ _ (@DF.val _ _ _ _ (@ziY _ _ _ _ _ _ _ _ _ _ _ _ _ _ _ C.calm (LC.of (k := 1) (NY := ["thing", "four"]) (N := ["four"]) (sc0 := (zae zbz)) rfl rfl (by decide +kernel)) rfl (@zcE _ _ _ _ _ (@zaa _ _ 0 _ _ (by rfl) (by kst_p) (by decide) (by decide))) (fun _ _ _ _ nd2 => ⟨(@za1 _ _ 0 _ nd2 (by rfl) (by kd_p1) (by kst_p1)), (@zdT _ _), (@zam _ _ _ _ _ _ _ _ _ _ (C.lc _ _ _ _ _ _) F_is_place (@zab _ _ _ _ _ _ (@zaa _ _ 0 _ _ (by rfl) (by kst_p) (by decide) (by decide)) (@zah _ _) (by rfl)) (by rfl) (by decide) (by rfl) (by rfl))⟩) (by intro _ ; rfl))) (@zah _ _) (by rfl)) (by rfl) (by rfl) (by rfl)) (@zgd _ _ _ _ _ _ _ _ (@zgi _ _ _ _ _ _ _ _ _ (@zul _) (@zmA _ _ _ C n_len n_set _ _ _ _ _ _ (@zaa _ _ 0 _ _ (by rfl) (by kst_p) (by decide) (by decide)) (by rfl) (by rfl) (by rfl) (by rfl) (by rfl) (by rfl)) (@zac _ _ _ _ _) (by first | exact zak _ (by decide) (by decide) | rfl)) (@ziV _ _ _ _ _ _ (@zam _ _ _ _ _ _ _ _ _ _ C F_on_one (@zab _ _ _ _ _ _ (@zaa _ _ 0 _ _ (by rfl) (by kst_p) (by decide) (by decide)) (@zah _ _) (by rfl)) (by rfl) (by decide) (by rfl) (by rfl)))))))
abbrev zfn : Stmt := top 32
theorem zmb : zas ["a", "b", "c", "d", "four", "unlike", "at", "top", "bottom"] ["a", "b", "c", "d"] (zae zfn) := ⟨rfl, rfl, rfl, by decide +kernel, rfl, by decide +kernel, by decide +kernel⟩
set_option maxHeartbeats 4000000 in
theorem zqs {P : Program} {w : World} {K : xFg} {mg : Str -> Option Value} {base : Heap} {f : Addr} {fd : FuncData} {k : Nat} (F : Fun K "ratio" "ratio" zfn f fd) (hm : mg "ratio" = some (.ref f)) (hb : za6 K fd ["a", "b", "c", "d"] []) {C_NoRatio : Addr} (c_NoRatio : mg "NoRatio" = some (.ref C_NoRatio)) (y_NoRatio : PySem.W.excIn K C_NoRatio [.type "ValueError", .type "Exception", .type "BaseException", .type "object"] "ValueError.__new__" = true) (x_NoRatio : znJ K mg "NoRatio" C_NoRatio) (n_sorted : mg "sorted" = none) (n_set : mg "set" = none) (F_has_ratio : zax P w K mg base k "has_ratio" zbW) (F_index_off : zax P w K mg base k "index_off" zbV) (F_through : zax P w K mg base k "through" za3) (F_cross : zax P w K mg base k "cross" zcH) (F_fraction : zax P w K mg base k "fraction" zcq) : zax P w K mg base (k + 1) "ratio" zcd := by
 refine zax.mk' (own' := []) F zmb hm hb rfl rfl fun X E hX C L => ?_
 obtain ⟨cdv, A, outer, s, H, rfl⟩ := hX
 have nd := zmb.nd
 exact (@zaf _ _ _ _ _ _ _ _ _ _ (@zan _ _ _ _ _ _ _ _ 4 nd (@DF.val _ _ _ _ (@zbP _ _ _ _ _ (@zab _ _ _ _ _ _ (@zaa _ _ 0 _ _ (by rfl) (by kst_p) (by decide) (by decide)) (@zab _ _ _ _ _ _ (@zaa _ _ 1 _ _ (by rfl) (by kst_p) (by decide) (by decide)) (@zab _ _ _ _ _ _ (@zaa _ _ 2 _ _ (by rfl) (by kst_p) (by decide) (by decide)) (@zab _ _ _ _ _ _ (@zaa _ _ 3 _ _ (by rfl) (by kst_p) (by decide) (by decide)) (@zah _ _) (by rfl)) (by rfl)) (by rfl)) (by rfl)))) (by rfl) (by kd_p1) (by rfl) (by kst_p1)) (@zaf _ _ _ _ _ _ _ _ _ _ (@zcm _ _ _ _ _ _ _ _ _ _ _ _ (@zfq _ _ _ _ _ (@zem _ _ _ _ (@zam _ _ _ _ _ _ _ _ _ _ C F_has_ratio (@zab _ _ _ _ _ _ (@zaa _ _ 4 _ _ (by rfl) (by kst_p) (by decide) (by decide)) (@zah _ _) (by rfl)) (by rfl) (by decide) (by rfl) (by rfl)) (by intro _ ; rfl))) (@zai _ _ _ _ _ _ _ (@zn6 _ _ _ _ _ _ _ _ _ _ _ _ _ _ _ _ _ _ _ _ _ _ _ _ _ _ y_NoRatio x_NoRatio (by rfl) (by decide))) (@zaM _ _ _ _)) (@zaf _ _ _ _ _ _ _ _ _ _ (@zan _ _ _ _ _ _ _ _ 5 nd (@DF.val _ _ _ _ (@zmI _ _ _ C n_sorted n_set _ _ _ _ _ _ (@zaa _ _ 4 _ _ (by rfl) (by kst_p) (by decide) (by decide)) (by rfl) (by rfl) (by rfl) (by rfl) (by rfl) (by rfl))) (by rfl) (by kd_p1) (by rfl) (by kst_p1)) (@zaf _ _ _ _ _ _ _ _ _ _ (@zan _ _ _ _ _ _ _ _ 6 nd (@zam _ _ _ _ _ _ _ _ _ _ C F_index_off (@zab _ _ _ _ _ _ (@zam _ _ _ _ _ _ _ _ _ _ C F_through (@zab _ _ _ _ _ _ (@zaj _ _ _ _ _ _ _ (@zaa _ _ 5 _ _ (by rfl) (by kst_p) (by decide) (by decide)) (@zac _ _ _ _ _) (by intro _ _ ; rfl)) (@zab _ _ _ _ _ _ (@zaj _ _ _ _ _ _ _ (@zaa _ _ 5 _ _ (by rfl) (by kst_p) (by decide) (by decide)) (@zac _ _ _ _ _) (by intro _ _ ; rfl)) (@zah _ _) (by rfl)) (by rfl)) (by rfl) (by decide) (by rfl) (by rfl)) (@zah _ _) (by rfl)) (by rfl) (by decide) (by rfl) (by rfl)) (by rfl) (by kd_p1) (by rfl) (by kst_p1)) (@zaf _ _ _ _ _ _ _ _ _ _ (@zan _ _ _ _ _ _ _ _ 7 nd (@zar _ _ _ _ _ _ _ (@zaj _ _ _ _ _ _ _ (@zam _ _ _ _ _ _ _ _ _ _ C F_cross (@zab _ _ _ _ _ _ (@zaa _ _ 0 _ _ (by rfl) (by kst_p) (by decide) (by decide)) (@zab _ _ _ _ _ _ (@zaa _ _ 2 _ _ (by rfl) (by kst_p) (by decide) (by decide)) (@zah _ _) (by rfl)) (by rfl)) (by rfl) (by decide) (by rfl) (by rfl)) (@zaa _ _ 6 _ _ (by rfl) (by kst_p) (by decide) (by decide)) (by intro _ _ ; rfl)) (@zaj _ _ _ _ _ _ _ (@zam _ _ _ _ _ _ _ _ _ _ C F_cross (@zab _ _ _ _ _ _ (@zaa _ _ 1 _ _ (by rfl) (by kst_p) (by decide) (by decide)) (@zab _ _ _ _ _ _ (@zaa _ _ 3 _ _ (by rfl) (by kst_p) (by decide) (by decide)) (@zah _ _) (by rfl)) (by rfl)) (by rfl) (by decide) (by rfl) (by rfl)) (@zaa _ _ 6 _ _ (by rfl) (by kst_p) (by decide) (by decide)) (by intro _ _ ; rfl))) (by rfl) (by kd_p1) (by rfl) (by kst_p1)) (@zaf _ _ _ _ _ _ _ _ _ _ (@zan _ _ _ _ _ _ _ _ 8 nd (@zar _ _ _ _ _ _ _ (@zaj _ _ _ _ _ _ _ (@zam _ _ _ _ _ _ _ _ _ _ C F_cross (@zab _ _ _ _ _ _ (@zaa _ _ 0 _ _ (by rfl) (by kst_p) (by decide) (by decide)) (@zab _ _ _ _ _ _ (@zaa _ _ 3 _ _ (by rfl) (by kst_p) (by decide) (by decide)) (@zah _ _) (by rfl)) (by rfl)) (by rfl) (by decide) (by rfl) (by rfl)) (@zaa _ _ 6 _ _ (by rfl) (by kst_p) (by decide) (by decide)) (by intro _ _ ; rfl)) (@zaj _ _ _ _ _ _ _ (@zam _ _ _ _ _ _ _ _ _ _ C F_cross (@zab _ _ _ _ _ _ (@zaa _ _ 1 _ _ (by rfl) (by kst_p) (by decide) (by decide)) (@zab _ _ _ _ _ _ (@zaa _ _ 2 _ _ (by rfl) (by kst_p) (by decide) (by decide)) (@zah _ _) (by rfl)) (by rfl)) (by rfl) (by decide) (by rfl) (by rfl)) (@zaa _ _ 6 _ _ (by rfl) (by kst_p) (by decide) (by decide)) (by intro _ _ ; rfl))) (by rfl) (by kd_p1) (by rfl) (by kst_p1)) (@zaf _ _ _ _ _ _ _ _ _ _ (@zcm _ _ _ _ _ _ _ _ _ _ _ _ (@zaw _ _ _ _ _ _ _ _ _ (@zei _ _ _ C) (@zaa _ _ 8 _ _ (by rfl) (by kst_p) (by decide) (by decide)) (@zac _ _ _ _ _) (by first | exact zak _ (by decide) (by decide) | rfl)) (@zai _ _ _ _ _ _ _ (@zaA _ _ _ _ _ _ _ _ (@zcP _ _ _ _ _ _ (@zab _ _ _ _ _ _ (@zac _ _ _ _ _) (@zab _ _ _ _ _ _ (@zac _ _ _ _ _) (@zah _ _) (by rfl)) (by rfl))))) (@zaM _ _ _ _)) (@zai _ _ _ _ _ _ _ (@zaA _ _ _ _ _ _ _ _ (@zam _ _ _ _ _ _ _ _ _ _ C F_fraction (@zab _ _ _ _ _ _ (@zaa _ _ 7 _ _ (by rfl) (by kst_p) (by decide) (by decide)) (@zab _ _ _ _ _ _ (@zaa _ _ 8 _ _ (by rfl) (by kst_p) (by decide) (by decide)) (@zah _ _) (by rfl)) (by rfl)) (by rfl) (by decide) (by rfl) (by rfl)))))))))))
abbrev zbG : Stmt := top 37
theorem zfa : zas ["_law_found"] ["_law_found"] (zae zbG) := ⟨rfl, rfl, rfl, by decide +kernel, rfl, by decide +kernel, by decide +kernel⟩
set_option maxHeartbeats 4000000 in
theorem ziq {P : Program} {w : World} {K : xFg} {mg : Str -> Option Value} {base : Heap} {f : Addr} {fd : FuncData} {k : Nat} (F : Fun K "_law_whole" "_law_whole" zbG f fd) (hm : mg "_law_whole" = some (.ref f)) (hb : za6 K fd ["_law_found"] []) (n_isinstance : mg "isinstance" = none) (n_int : mg "int" = none) (n_bool : mg "bool" = none) : zax P w K mg base (k + 1) "_law_whole" zbX := by
 refine zax.mk' (own' := []) F zfa hm hb rfl rfl fun X E hX C L => ?_
 obtain ⟨cdv, A, outer, s, H, rfl⟩ := hX
 have nd := zfa.nd
 exact (@zai _ _ _ _ _ _ _ (@zaA _ _ _ _ _ _ _ _ (@zgd _ _ _ _ _ _ _ _ (@zft _ _ _ _ _ _ _ n_isinstance (@zab _ _ _ _ _ _ (@zaa _ _ 0 _ _ (by rfl) (by kst_p) (by decide) (by decide)) (@zab _ _ _ _ _ _ (@zkb _ _ _ _ _ n_int zqF (by rfl) (by decide) (by decide)) (@zah _ _) (by rfl)) (by rfl)) (by rfl) (by rfl) (by rfl)) (@ziV _ _ _ _ _ _ (@znL _ _ _ _ _ (@zft _ _ _ _ _ _ _ n_isinstance (@zab _ _ _ _ _ _ (@zaa _ _ 0 _ _ (by rfl) (by kst_p) (by decide) (by decide)) (@zab _ _ _ _ _ _ (@zkb _ _ _ _ _ n_bool zn1 (by rfl) (by decide) (by decide)) (@zah _ _) (by rfl)) (by rfl)) (by rfl) (by rfl) (by rfl)))))))
abbrev zbA : Stmt := top 49
theorem zfO : zas ["_law_places", "_law_due_here", "_law_found"] ["_law_places", "_law_due_here"] (zae zbA) := ⟨rfl, rfl, rfl, by decide +kernel, rfl, by decide +kernel, by decide +kernel⟩
set_option maxHeartbeats 4000000 in
theorem zj0 {P : Program} {w : World} {K : xFg} {mg : Str -> Option Value} {base : Heap} {f : Addr} {fd : FuncData} {k : Nat} (F : Fun K "_law_told" "_law_told" zbA f fd) (hm : mg "_law_told" = some (.ref f)) (hb : za6 K fd ["_law_places", "_law_due_here"] []) (n_isinstance : mg "isinstance" = none) (n_tuple : mg "tuple" = none) (n_len : mg "len" = none) (F_ratio : zax P w K mg base k "ratio" zcd) (F__law_whole : zax P w K mg base k "_law_whole" zbX) : zax P w K mg base (k + 1) "_law_told" zb1 := by
 refine zax.mk' (own' := []) F zfO hm hb rfl rfl fun X E hX C L => ?_
 obtain ⟨cdv, A, outer, s, H, rfl⟩ := hX
 have nd := zfO.nd
 exact (@zaf _ _ _ _ _ _ _ _ _ _ (@zan _ _ _ _ _ _ _ _ 2 nd (@zam _ _ _ _ _ _ _ _ _ _ C F_ratio (@zab _ _ _ _ _ _ (@zaj _ _ _ _ _ _ _ (@zaa _ _ 0 _ _ (by rfl) (by kst_p) (by decide) (by decide)) (@zac _ _ _ _ _) (by intro _ _ ; rfl)) (@zab _ _ _ _ _ _ (@zaj _ _ _ _ _ _ _ (@zaa _ _ 0 _ _ (by rfl) (by kst_p) (by decide) (by decide)) (@zac _ _ _ _ _) (by intro _ _ ; rfl)) (@zab _ _ _ _ _ _ (@zaj _ _ _ _ _ _ _ (@zaa _ _ 0 _ _ (by rfl) (by kst_p) (by decide) (by decide)) (@zac _ _ _ _ _) (by intro _ _ ; rfl)) (@zab _ _ _ _ _ _ (@zaj _ _ _ _ _ _ _ (@zaa _ _ 0 _ _ (by rfl) (by kst_p) (by decide) (by decide)) (@zac _ _ _ _ _) (by intro _ _ ; rfl)) (@zah _ _) (by rfl)) (by rfl)) (by rfl)) (by rfl)) (by rfl) (by decide) (by rfl) (by rfl)) (by rfl) (by kd_p1) (by rfl) (by kst_p1)) (@zaf _ _ _ _ _ _ _ _ _ _ (@zcm _ _ _ _ _ _ _ _ _ _ _ _ (@DW.dt _ _ _ _ (@zke _ _ _ _ _ _ _ _ (@zfq _ _ _ _ _ (@zem _ _ _ _ (@zft _ _ _ _ _ _ _ n_isinstance (@zab _ _ _ _ _ _ (@zaa _ _ 2 _ _ (by rfl) (by kst_p) (by decide) (by decide)) (@zab _ _ _ _ _ _ (@zkb _ _ _ _ _ n_tuple zk5 (by rfl) (by decide) (by decide)) (@zah _ _) (by rfl)) (by rfl)) (by rfl) (by rfl) (by rfl)) (by intro _ ; rfl))) (@zke _ _ _ _ _ _ _ _ (@zaw _ _ _ _ _ _ _ _ _ (@zeQ _ _ _ C) (@zk6 _ _ _ _ _ _ _ n_len (@zab _ _ _ _ _ _ (@zaa _ _ 2 _ _ (by rfl) (by kst_p) (by decide) (by decide)) (@zah _ _) (by rfl)) (by rfl) (by rfl) (by rfl)) (@zac _ _ _ _ _) (by first | exact zak _ (by decide) (by decide) | rfl)) (@zhk _ _ _ _ _ (@zaw _ _ _ _ _ _ _ _ _ (@zeQ _ _ _ C) (@DF.val _ _ _ _ (@ziY _ _ _ _ _ _ _ _ _ _ _ _ _ _ _ C.calm (LC.of (k := 1) (NY := ["_law_one", "_law_places", "_law_due_here", "_law_found"]) (N := ["_law_places", "_law_due_here", "_law_found"]) (sc0 := (zae zbA)) rfl rfl (by decide +kernel)) rfl (@zcE _ _ _ _ _ (@zaa _ _ 2 _ _ (by rfl) (by kst_p) (by decide) (by decide))) (fun _ _ _ _ nd2 => ⟨(@za1 _ _ 0 _ nd2 (by rfl) (by kd_p1) (by kst_p1)), (@zeG _ _ _ _ (@zfq _ _ _ _ _ (@zem _ _ _ _ (@zam _ _ _ _ _ _ _ _ _ _ (C.lc _ _ _ _ _ _) F__law_whole (@zab _ _ _ _ _ _ (@zaa _ _ 0 _ _ (by rfl) (by kst_p) (by decide) (by decide)) (@zah _ _) (by rfl)) (by rfl) (by decide) (by rfl) (by rfl)) (by intro _ ; rfl)))), (@zaa _ _ 0 _ _ (by rfl) (by kst_p) (by decide) (by decide))⟩) (by intro _ ; rfl))) (@DF.val _ _ _ _ (@zbP _ _ _ _ _ (@zah _ _))) (by first | exact zak _ (by decide) (by decide) | rfl)))))) (@zai _ _ _ _ _ _ _ (@zaA _ _ _ _ _ _ _ _ (@ziU _ _ _ _ _))) (@zaM _ _ _ _)) (@zai _ _ _ _ _ _ _ (@zaA _ _ _ _ _ _ _ _ (@zgi _ _ _ _ _ _ _ _ _ (@zei _ _ _ C) (@zaa _ _ 2 _ _ (by rfl) (by kst_p) (by decide) (by decide)) (@zaa _ _ 1 _ _ (by rfl) (by kst_p) (by decide) (by decide)) (by first | exact zak _ (by decide) (by decide) | rfl))))))
abbrev zbH : Stmt := top 47
theorem zfb : zas ["_law_e"] ["_law_e"] (zae zbH) := ⟨rfl, rfl, rfl, by decide +kernel, rfl, by decide +kernel, by decide +kernel⟩
set_option maxHeartbeats 4000000 in
theorem zir {P : Program} {w : World} {K : xFg} {mg : Str -> Option Value} {base : Heap} {f : Addr} {fd : FuncData} {k : Nat} (F : Fun K "_law_other" "_law_other" zbH f fd) (hm : mg "_law_other" = some (.ref f)) (hb : za6 K fd ["_law_e"] []) {C_NoFloor : Addr} (c_NoFloor : mg "NoFloor" = some (.ref C_NoFloor)) {C_NoDeed : Addr} (c_NoDeed : mg "NoDeed" = some (.ref C_NoDeed)) {C_NoChange : Addr} (c_NoChange : mg "NoChange" = some (.ref C_NoChange)) {C_NoBow : Addr} (c_NoBow : mg "NoBow" = some (.ref C_NoBow)) {C_Endless : Addr} (c_Endless : mg "Endless" = some (.ref C_Endless)) {C_NoRow : Addr} (c_NoRow : mg "NoRow" = some (.ref C_NoRow)) {C_NoPlace : Addr} (c_NoPlace : mg "NoPlace" = some (.ref C_NoPlace)) {C_NoName : Addr} (c_NoName : mg "NoName" = some (.ref C_NoName)) {C_NoFrame : Addr} (c_NoFrame : mg "NoFrame" = some (.ref C_NoFrame)) {C_Unlike : Addr} (c_Unlike : mg "Unlike" = some (.ref C_Unlike)) {C_TooMany : Addr} (c_TooMany : mg "TooMany" = some (.ref C_TooMany)) {C_Same : Addr} (c_Same : mg "Same" = some (.ref C_Same)) {C_NoValue : Addr} (c_NoValue : mg "NoValue" = some (.ref C_NoValue)) {C_NoText : Addr} (c_NoText : mg "NoText" = some (.ref C_NoText)) (n_isinstance : mg "isinstance" = none) : zax P w K mg base (k + 1) "_law_other" zb0 := by
 refine zax.mk' (own' := []) F zfb hm hb rfl rfl fun X E hX C L => ?_
 obtain ⟨cdv, A, outer, s, H, rfl⟩ := hX
 have nd := zfb.nd
 exact (@zaf _ _ _ _ _ _ _ _ _ _ (@zcm _ _ _ _ _ _ _ _ _ _ _ _ (@DW.dt _ _ _ _ (@zke _ _ _ _ _ _ _ _ (@zem _ _ _ _ (@zkp _ _ _ _ _ _ _ n_isinstance (@zab _ _ _ _ _ _ (@zaa _ _ 0 _ _ (by rfl) (by kst_p) (by decide) (by decide)) (@zab _ _ _ _ _ _ (@zcP _ _ _ _ _ _ (@zab _ _ _ _ _ _ (@zcD _ _ _ _ _ c_Endless (by rfl) (by decide)) (@zab _ _ _ _ _ _ (@zcD _ _ _ _ _ c_NoBow (by rfl) (by decide)) (@zab _ _ _ _ _ _ (@zcD _ _ _ _ _ c_NoChange (by rfl) (by decide)) (@zab _ _ _ _ _ _ (@zcD _ _ _ _ _ c_NoDeed (by rfl) (by decide)) (@zab _ _ _ _ _ _ (@zcD _ _ _ _ _ c_NoFloor (by rfl) (by decide)) (@zah _ _) (by rfl)) (by rfl)) (by rfl)) (by rfl)) (by rfl))) (@zah _ _) (by rfl)) (by rfl)) (by rfl) (by rfl) (by rfl)) (by intro _ ; rfl)) (@zhk _ _ _ _ _ (@zem _ _ _ _ (@zkp _ _ _ _ _ _ _ n_isinstance (@zab _ _ _ _ _ _ (@zaa _ _ 0 _ _ (by rfl) (by kst_p) (by decide) (by decide)) (@zab _ _ _ _ _ _ (@zcP _ _ _ _ _ _ (@zab _ _ _ _ _ _ (@zcD _ _ _ _ _ c_NoFrame (by rfl) (by decide)) (@zab _ _ _ _ _ _ (@zcD _ _ _ _ _ c_NoName (by rfl) (by decide)) (@zab _ _ _ _ _ _ (@zcD _ _ _ _ _ c_NoPlace (by rfl) (by decide)) (@zab _ _ _ _ _ _ (@zcD _ _ _ _ _ c_NoRow (by rfl) (by decide)) (@zah _ _) (by rfl)) (by rfl)) (by rfl)) (by rfl))) (@zah _ _) (by rfl)) (by rfl)) (by rfl) (by rfl) (by rfl)) (by intro _ ; rfl))))) (@zai _ _ _ _ _ _ _ (@zaA _ _ _ _ _ _ _ _ (@ziU _ _ _ _ _))) (@zaM _ _ _ _)) (@zai _ _ _ _ _ _ _ (@zaA _ _ _ _ _ _ _ _ (@zkp _ _ _ _ _ _ _ n_isinstance (@zab _ _ _ _ _ _ (@zaa _ _ 0 _ _ (by rfl) (by kst_p) (by decide) (by decide)) (@zab _ _ _ _ _ _ (@zcP _ _ _ _ _ _ (@zab _ _ _ _ _ _ (@zcD _ _ _ _ _ c_NoText (by rfl) (by decide)) (@zab _ _ _ _ _ _ (@zcD _ _ _ _ _ c_NoValue (by rfl) (by decide)) (@zab _ _ _ _ _ _ (@zcD _ _ _ _ _ c_Same (by rfl) (by decide)) (@zab _ _ _ _ _ _ (@zcD _ _ _ _ _ c_TooMany (by rfl) (by decide)) (@zab _ _ _ _ _ _ (@zcD _ _ _ _ _ c_Unlike (by rfl) (by decide)) (@zah _ _) (by rfl)) (by rfl)) (by rfl)) (by rfl)) (by rfl))) (@zah _ _) (by rfl)) (by rfl)) (by rfl) (by rfl) (by rfl)))))
abbrev zbc : Stmt := top 48
theorem zd5 : zas ["_law_places", "_law_refused_here", "_law_e"] ["_law_places"] (zae zbc) := ⟨rfl, rfl, rfl, by decide +kernel, rfl, by decide +kernel, by decide +kernel⟩
set_option maxHeartbeats 4000000 in
theorem zgY {P : Program} {w : World} {K : xFg} {mg : Str -> Option Value} {base : Heap} {f : Addr} {fd : FuncData} {k : Nat} (F : Fun K "_law_refused" "_law_refused" zbc f fd) (hm : mg "_law_refused" = some (.ref f)) (hb : za6 K fd ["_law_places"] []) {C_ChalkError : Addr} (c_ChalkError : mg "ChalkError" = some (.ref C_ChalkError)) {C_NoRatio : Addr} (c_NoRatio : mg "NoRatio" = some (.ref C_NoRatio)) (n_isinstance : mg "isinstance" = none) (n_ValueError : mg "ValueError" = none) (F_ratio : zax P w K mg base k "ratio" zcd) (F__law_other : zax P w K mg base k "_law_other" zb0) : zax P w K mg base (k + 1) "_law_refused" zaQ := by
 refine zax.mk' (own' := []) F zd5 hm hb rfl rfl fun X E hX C L => ?_
 obtain ⟨cdv, A, outer, s, H, rfl⟩ := hX
 have nd := zd5.nd
 exact (@zaf _ _ _ _ _ _ _ _ _ _ (@zan _ _ _ _ _ _ _ _ 1 nd (@zt3 _ _ _ _) (by rfl) (by kd_p1) (by rfl) (by kst_p1)) (@zaf _ _ _ _ _ _ _ _ _ _ (@zuv _ _ _ _ 2 _ _ _ _ _ _ _ _ _ rfl rfl nd c_ChalkError (@zpZ _ _ _ (@zp1 _ _ _ _ _ _ _ _ _ _ C.room F_ratio (@zab _ _ _ _ _ _ (@zaj _ _ _ _ _ _ _ (@zaa _ _ 0 _ _ (by rfl) (by kst_p) (by decide) (by decide)) (@zac _ _ _ _ _) (by intro _ _ ; rfl)) (@zab _ _ _ _ _ _ (@zaj _ _ _ _ _ _ _ (@zaa _ _ 0 _ _ (by rfl) (by kst_p) (by decide) (by decide)) (@zac _ _ _ _ _) (by intro _ _ ; rfl)) (@zab _ _ _ _ _ _ (@zaj _ _ _ _ _ _ _ (@zaa _ _ 0 _ _ (by rfl) (by kst_p) (by decide) (by decide)) (@zac _ _ _ _ _) (by intro _ _ ; rfl)) (@zab _ _ _ _ _ _ (@zaj _ _ _ _ _ _ _ (@zaa _ _ 0 _ _ (by rfl) (by kst_p) (by decide) (by decide)) (@zac _ _ _ _ _) (by intro _ _ ; rfl)) (@zah _ _) (by rfl)) (by rfl)) (by rfl)) (by rfl)) (by rfl) (by decide) (by rfl) (by rfl) (by rfl))) (fun _ => (@zai _ _ _ _ _ _ _ (@zan _ _ _ _ _ _ _ _ 1 nd (@zaa _ _ 2 _ _ (by rfl) (by kst_p) (by decide) (by decide)) (by rfl) (by kd_p1) (by rfl) (by kst_p1)))) (by rfl) (by rfl) (by rfl) (by decide)) (@zai _ _ _ _ _ _ _ (@zaA _ _ _ _ _ _ _ _ (@zgd _ _ _ _ _ _ _ _ (@zft _ _ _ _ _ _ _ n_isinstance (@zab _ _ _ _ _ _ (@zaa _ _ 1 _ _ (by rfl) (by kst_p) (by decide) (by decide)) (@zab _ _ _ _ _ _ (@zcD _ _ _ _ _ c_NoRatio (by rfl) (by decide)) (@zah _ _) (by rfl)) (by rfl)) (by rfl) (by rfl) (by rfl)) (@zgd _ _ _ _ _ _ _ _ (@zft _ _ _ _ _ _ _ n_isinstance (@zab _ _ _ _ _ _ (@zaa _ _ 1 _ _ (by rfl) (by kst_p) (by decide) (by decide)) (@zab _ _ _ _ _ _ (@zkb _ _ _ _ _ n_ValueError zhY (by rfl) (by decide) (by decide)) (@zah _ _) (by rfl)) (by rfl)) (by rfl) (by rfl) (by rfl)) (@ziV _ _ _ _ _ _ (@znL _ _ _ _ _ (@zam _ _ _ _ _ _ _ _ _ _ C F__law_other (@zab _ _ _ _ _ _ (@zaa _ _ 1 _ _ (by rfl) (by kst_p) (by decide) (by decide)) (@zah _ _) (by rfl)) (by rfl) (by decide) (by rfl) (by rfl))))))))))
abbrev za2 : Stmt := top 44
theorem zdN : zas ["_law_top", "_law_bottom", "_law_one", "_law_other_here"] ["_law_top", "_law_bottom"] (zae za2) := ⟨rfl, rfl, rfl, by decide +kernel, rfl, by decide +kernel, by decide +kernel⟩
set_option maxHeartbeats 4000000 in
theorem zfU {P : Program} {w : World} {K : xFg} {mg : Str -> Option Value} {base : Heap} {f : Addr} {fd : FuncData} {k : Nat} (F : Fun K "_law_fraction" "_law_fraction" za2 f fd) (hm : mg "_law_fraction" = some (.ref f)) (hb : za6 K fd ["_law_top", "_law_bottom"] []) (n_abs : mg "abs" = none) : zax P w K mg base (k + 1) "_law_fraction" zaZ := by
 refine zax.mk' (own' := []) F zdN hm hb rfl rfl fun X E hX C L => ?_
 obtain ⟨cdv, A, outer, s, H, rfl⟩ := hX
 have nd := zdN.nd
 exact (@zaf _ _ _ _ _ _ _ _ _ _ (@zan _ _ _ _ _ _ _ _ 2 nd (@zgj _ _ _ _ _ _ _ n_abs (@zab _ _ _ _ _ _ (@zaa _ _ 0 _ _ (by rfl) (by kst_p) (by decide) (by decide)) (@zah _ _) (by rfl)) (by rfl) (by rfl) (by rfl)) (by rfl) (by kd_p1) (by rfl) (by kst_p1)) (@zaf _ _ _ _ _ _ _ _ _ _ (@zan _ _ _ _ _ _ _ _ 3 nd (@zgj _ _ _ _ _ _ _ n_abs (@zab _ _ _ _ _ _ (@zaa _ _ 1 _ _ (by rfl) (by kst_p) (by decide) (by decide)) (@zah _ _) (by rfl)) (by rfl) (by rfl) (by rfl)) (by rfl) (by kd_p1) (by rfl) (by kst_p1)) (@zaf _ _ _ _ _ _ _ _ _ _ (@zhW _ _ _ _ _ _ _ _ _ L (@zaw _ _ _ _ _ _ _ _ _ (@zeQ _ _ _ C) (@zaa _ _ 3 _ _ (by rfl) (by kst_p) (by decide) (by decide)) (@zac _ _ _ _ _) (by first | exact zak _ (by decide) (by decide) | rfl)) (@zai _ _ _ _ _ _ _ (@zqC _ _ _ _ _ 2 3 _ _ _ _ _ _ _ _ _ _ _ C.calm nd (@zab _ _ _ _ _ _ (@zaa _ _ 3 _ _ (by rfl) (by kst_p) (by decide) (by decide)) (@zab _ _ _ _ _ _ (@zbs _ _ _ _ _ _ _ (@zaa _ _ 2 _ _ (by rfl) (by kst_p) (by decide) (by decide)) (@zaa _ _ 3 _ _ (by rfl) (by kst_p) (by decide) (by decide))) (@zah _ _) (by rfl)) (by rfl)) (by decide) (by rfl) (by rfl) (by rfl) (by rfl) (by rfl) (by rfl) (by rfl)))) (@zaf _ _ _ _ _ _ _ _ _ _ (@zcm _ _ _ _ _ _ _ _ _ _ _ _ (@DW.dt _ _ _ _ (@zke _ _ _ _ _ _ _ _ (@zaw _ _ _ _ _ _ _ _ _ (@zmu _) (@zaa _ _ 1 _ _ (by rfl) (by kst_p) (by decide) (by decide)) (@zac _ _ _ _ _) (by first | exact zak _ (by decide) (by decide) | rfl)) (@zhk _ _ _ _ _ (@DW.dt _ _ _ _ (@zkZ _ _ _ _ _ _ _ _ (@zaw _ _ _ _ _ _ _ _ _ (@zei _ _ _ C) (@zaa _ _ 1 _ _ (by rfl) (by kst_p) (by decide) (by decide)) (@zac _ _ _ _ _) (by first | exact zak _ (by decide) (by decide) | rfl)) (@zkd _ _ _ _ _ (@zaw _ _ _ _ _ _ _ _ _ (@zmu _) (@zaa _ _ 0 _ _ (by rfl) (by kst_p) (by decide) (by decide)) (@zac _ _ _ _ _) (by first | exact zak _ (by decide) (by decide) | rfl)))))))) (@zai _ _ _ _ _ _ _ (@zan _ _ _ _ _ _ _ _ 2 nd (@zbB _ _ _ _ _ _ _ (@zac _ _ _ _ _) (@zaa _ _ 2 _ _ (by rfl) (by kst_p) (by decide) (by decide))) (by rfl) (by kd_p1) (by rfl) (by kst_p1))) (@zaM _ _ _ _)) (@zai _ _ _ _ _ _ _ (@zaA _ _ _ _ _ _ _ _ (@zcP _ _ _ _ _ _ (@zab _ _ _ _ _ _ (@zcF _ _ _ _ _ _ _ (@zaa _ _ 0 _ _ (by rfl) (by kst_p) (by decide) (by decide)) (@zaa _ _ 2 _ _ (by rfl) (by kst_p) (by decide) (by decide))) (@zab _ _ _ _ _ _ (@zcF _ _ _ _ _ _ _ (@zaa _ _ 1 _ _ (by rfl) (by kst_p) (by decide) (by decide)) (@zaa _ _ 2 _ _ (by rfl) (by kst_p) (by decide) (by decide))) (@zah _ _) (by rfl)) (by rfl)))))))))
abbrev zcz : Stmt := top 45
theorem zgZ : zas ["_law_pairs", "_law_a", "_law_b", "_law_c", "_law_d", "_law_top", "_law_bottom"] ["_law_pairs"] (zae zcz) := ⟨rfl, rfl, rfl, by decide +kernel, rfl, by decide +kernel, by decide +kernel⟩
set_option maxHeartbeats 4000000 in
theorem zkG {P : Program} {w : World} {K : xFg} {mg : Str -> Option Value} {base : Heap} {f : Addr} {fd : FuncData} {k : Nat} (F : Fun K "_law_due" "_law_due" zcz f fd) (hm : mg "_law_due" = some (.ref f)) (hb : za6 K fd ["_law_pairs"] []) (F__law_fraction : zax P w K mg base k "_law_fraction" zaZ) : zax P w K mg base (k + 1) "_law_due" zbk := by
 refine zax.mk' (own' := []) F zgZ hm hb rfl rfl fun X E hX C L => ?_
 obtain ⟨cdv, A, outer, s, H, rfl⟩ := hX
 have nd := zgZ.nd
 exact (@zaf _ _ _ _ _ _ _ _ _ _ (@znU _ _ _ _ _ _ _ _ _ _ (@zaa _ _ 0 _ _ (by rfl) (by kst_p) (by decide) (by decide)) (@znP _ _ _ _ [1, 2, 3, 4] 4 C.calm (@zb4 _ _ _ _ _ (@zcA _ _ (1) _ nd rfl (by kd_p1) (by kst_p1)) (@zb4 _ _ _ _ _ (@zcA _ _ (2) _ nd rfl (by kd_p1) (by kst_p1)) (@zb4 _ _ _ _ _ (@zcA _ _ (3) _ nd rfl (by kd_p1) (by kst_p1)) (@zb4 _ _ _ _ _ (@zcA _ _ (4) _ nd rfl (by kd_p1) (by kst_p1)) (@zj4 _) (by rfl)) (by rfl)) (by rfl)) (by rfl)) (by rfl) (by rfl) (by rfl)) (by rfl) (by rfl) (by rfl) (by rfl)) (@zaf _ _ _ _ _ _ _ _ _ _ (@zan _ _ _ _ _ _ _ _ 5 nd (@zar _ _ _ _ _ _ _ (@zbB _ _ _ _ _ _ _ (@zar _ _ _ _ _ _ _ (@zaj _ _ _ _ _ _ _ (@zaa _ _ 1 _ _ (by rfl) (by kst_p) (by decide) (by decide)) (@zac _ _ _ _ _) (by intro _ _ ; rfl)) (@zaj _ _ _ _ _ _ _ (@zaa _ _ 3 _ _ (by rfl) (by kst_p) (by decide) (by decide)) (@zac _ _ _ _ _) (by intro _ _ ; rfl))) (@zar _ _ _ _ _ _ _ (@zaj _ _ _ _ _ _ _ (@zaa _ _ 1 _ _ (by rfl) (by kst_p) (by decide) (by decide)) (@zac _ _ _ _ _) (by intro _ _ ; rfl)) (@zaj _ _ _ _ _ _ _ (@zaa _ _ 3 _ _ (by rfl) (by kst_p) (by decide) (by decide)) (@zac _ _ _ _ _) (by intro _ _ ; rfl)))) (@zbB _ _ _ _ _ _ _ (@zar _ _ _ _ _ _ _ (@zaj _ _ _ _ _ _ _ (@zaa _ _ 2 _ _ (by rfl) (by kst_p) (by decide) (by decide)) (@zac _ _ _ _ _) (by intro _ _ ; rfl)) (@zaj _ _ _ _ _ _ _ (@zaa _ _ 4 _ _ (by rfl) (by kst_p) (by decide) (by decide)) (@zac _ _ _ _ _) (by intro _ _ ; rfl))) (@zar _ _ _ _ _ _ _ (@zaj _ _ _ _ _ _ _ (@zaa _ _ 2 _ _ (by rfl) (by kst_p) (by decide) (by decide)) (@zac _ _ _ _ _) (by intro _ _ ; rfl)) (@zaj _ _ _ _ _ _ _ (@zaa _ _ 4 _ _ (by rfl) (by kst_p) (by decide) (by decide)) (@zac _ _ _ _ _) (by intro _ _ ; rfl))))) (by rfl) (by kd_p1) (by rfl) (by kst_p1)) (@zaf _ _ _ _ _ _ _ _ _ _ (@zan _ _ _ _ _ _ _ _ 6 nd (@zar _ _ _ _ _ _ _ (@zbB _ _ _ _ _ _ _ (@zar _ _ _ _ _ _ _ (@zaj _ _ _ _ _ _ _ (@zaa _ _ 1 _ _ (by rfl) (by kst_p) (by decide) (by decide)) (@zac _ _ _ _ _) (by intro _ _ ; rfl)) (@zaj _ _ _ _ _ _ _ (@zaa _ _ 4 _ _ (by rfl) (by kst_p) (by decide) (by decide)) (@zac _ _ _ _ _) (by intro _ _ ; rfl))) (@zar _ _ _ _ _ _ _ (@zaj _ _ _ _ _ _ _ (@zaa _ _ 1 _ _ (by rfl) (by kst_p) (by decide) (by decide)) (@zac _ _ _ _ _) (by intro _ _ ; rfl)) (@zaj _ _ _ _ _ _ _ (@zaa _ _ 4 _ _ (by rfl) (by kst_p) (by decide) (by decide)) (@zac _ _ _ _ _) (by intro _ _ ; rfl)))) (@zbB _ _ _ _ _ _ _ (@zar _ _ _ _ _ _ _ (@zaj _ _ _ _ _ _ _ (@zaa _ _ 2 _ _ (by rfl) (by kst_p) (by decide) (by decide)) (@zac _ _ _ _ _) (by intro _ _ ; rfl)) (@zaj _ _ _ _ _ _ _ (@zaa _ _ 3 _ _ (by rfl) (by kst_p) (by decide) (by decide)) (@zac _ _ _ _ _) (by intro _ _ ; rfl))) (@zar _ _ _ _ _ _ _ (@zaj _ _ _ _ _ _ _ (@zaa _ _ 2 _ _ (by rfl) (by kst_p) (by decide) (by decide)) (@zac _ _ _ _ _) (by intro _ _ ; rfl)) (@zaj _ _ _ _ _ _ _ (@zaa _ _ 3 _ _ (by rfl) (by kst_p) (by decide) (by decide)) (@zac _ _ _ _ _) (by intro _ _ ; rfl))))) (by rfl) (by kd_p1) (by rfl) (by kst_p1)) (@zai _ _ _ _ _ _ _ (@zaA _ _ _ _ _ _ _ _ (@zam _ _ _ _ _ _ _ _ _ _ C F__law_fraction (@zab _ _ _ _ _ _ (@zaa _ _ 5 _ _ (by rfl) (by kst_p) (by decide) (by decide)) (@zab _ _ _ _ _ _ (@zaa _ _ 6 _ _ (by rfl) (by kst_p) (by decide) (by decide)) (@zah _ _) (by rfl)) (by rfl)) (by rfl) (by decide) (by rfl) (by rfl)))))))
abbrev zbl : Stmt := top 50
theorem zfc : zas ["_law_places", "_law_pairs", "_law_unlike", "_law_place_here", "_law_off", "_law_turned"] ["_law_places", "_law_pairs"] (zae zbl) := ⟨rfl, rfl, rfl, by decide +kernel, rfl, by decide +kernel, by decide +kernel⟩
set_option maxHeartbeats 4000000 in
theorem zis {P : Program} {w : World} {K : xFg} {mg : Str -> Option Value} {base : Heap} {f : Addr} {fd : FuncData} {k : Nat} (F : Fun K "_law_right" "_law_right" zbl f fd) (hm : mg "_law_right" = some (.ref f)) (hb : za6 K fd ["_law_places", "_law_pairs"] []) (n_len : mg "len" = none) (F__law_det : zax P w K mg base k "_law_det" zaP) (F__law_refused : zax P w K mg base k "_law_refused" zaQ) (F__law_told : zax P w K mg base k "_law_told" zb1) (F__law_due : zax P w K mg base k "_law_due" zbk) : zax P w K mg base (k + 1) "_law_right" zaH := by
 refine zax.mk' (own' := []) F zfc hm hb rfl rfl fun X E hX C L => ?_
 obtain ⟨cdv, A, outer, s, H, rfl⟩ := hX
 have nd := zfc.nd
 exact (@zaf _ _ _ _ _ _ _ _ _ _ (@znS _ _ _ _ _ _ _ _ _ _ 2 nd (@zbP _ _ _ _ _ (@zah _ _)) (by rfl) (by rfl) (by kd_p1) (by rfl) (by kst_p1)) (@zaf _ _ _ _ _ _ _ _ _ _ (@zi3 _ _ _ _ _ _ _ _ _ _ _ _ L C.calm (@zcE _ _ _ _ _ (@zaa _ _ 0 _ _ (by rfl) (by kst_p) (by decide) (by decide))) (@za1 _ _ 3 _ nd (by rfl) (by kd_p1) (by kst_p1)) (@zai _ _ _ _ _ _ _ (@zcm _ _ _ _ _ _ _ _ _ _ _ _ (@zaw _ _ _ _ _ _ _ _ _ (@zuN _ _ _ C) (@zaa _ _ 3 _ _ (by rfl) (by kst_p) (by decide) (by decide)) (@zaa _ _ 2 _ _ (by rfl) (by kst_p) (by decide) (by decide)) (by first | exact zak _ (by decide) (by decide) | rfl)) (@zai _ _ _ _ _ _ _ (@zk1 _ _ _ _ _ _ _ _ 2 _ _ _ (@zaa _ _ 3 _ _ (by rfl) (by kst_p) (by decide) (by decide)) (by rfl) (by rfl) (by kst_p) (by decide) (by decide) (by rfl) (by rfl) (by rfl) (by rfl) (by rfl) (by rfl))) (@zaM _ _ _ _))) (by rfl) (by intro _ ; rfl)) (@zc7 _ _ _ _ _ _ _ _ 2 (by rfl) (by rfl) (@zaf _ _ _ _ _ _ _ _ _ _ (@zfX _ _ _ _ _ _ _ _ _ _ _ _ _ _ _ _ _ _ _ _ 4 C.calm nd (LC.of (k := 1) (NY := ["_law_place_here", "_law_places", "_law_pairs", "_law_unlike", "?_law_place_here", "_law_off", "_law_turned"]) (N := ["_law_places", "_law_pairs", "_law_unlike", "_law_place_here", "_law_off", "_law_turned"]) (sc0 := (zae zbl)) rfl rfl (by decide +kernel)) rfl (@zcE _ _ _ _ _ (@zmx _ _ _ _ _ _ _ _ _ _ (@zaa _ _ 2 _ _ (by rfl) (by kst_p) (by decide) (by decide)) (@zdq _ _ _ _ (@zac _ _ _ _ _)) (@zkk _ _))) (fun _ _ _ _ nd2 => ⟨(@za1 _ _ 0 _ nd2 (by rfl) (by kd_p1) (by kst_p1)), (@zeG _ _ _ _ (@zaw _ _ _ _ _ _ _ _ _ (@zeQ _ _ _ (C.lc _ _ _ _ _ _)) (@zam _ _ _ _ _ _ _ _ _ _ (C.lc _ _ _ _ _ _) F__law_det (@zab _ _ _ _ _ _ (@zaj _ _ _ _ _ _ _ (@zaa _ _ 3 _ _ (by rfl) (by kst_p) (by decide) (by decide)) (@zac _ _ _ _ _) (by intro _ _ ; rfl)) (@zab _ _ _ _ _ _ (@zaj _ _ _ _ _ _ _ (@zaa _ _ 3 _ _ (by rfl) (by kst_p) (by decide) (by decide)) (@zac _ _ _ _ _) (by intro _ _ ; rfl)) (@zab _ _ _ _ _ _ (@zaa _ _ 0 _ _ (by rfl) (by kst_p) (by decide) (by decide)) (@zah _ _) (by rfl)) (by rfl)) (by rfl)) (by rfl) (by decide) (by rfl) (by rfl)) (@zac _ _ _ _ _) (by first | exact zak _ (by decide) (by decide) | rfl))), (@zaa _ _ 0 _ _ (by rfl) (by kst_p) (by decide) (by decide))⟩) (by rfl) (by rfl) (by rfl) (by rfl) (by intro _ ; rfl)) (@zaf _ _ _ _ _ _ _ _ _ _ (@zcm _ _ _ _ _ _ _ _ _ _ _ _ (@DW.dt _ _ _ _ (@zke _ _ _ _ _ _ _ _ (@zaw _ _ _ _ _ _ _ _ _ (@zmu _) (@zk6 _ _ _ _ _ _ _ n_len (@zab _ _ _ _ _ _ (@zaa _ _ 2 _ _ (by rfl) (by kst_p) (by decide) (by decide)) (@zah _ _) (by rfl)) (by rfl) (by rfl) (by rfl)) (@zac _ _ _ _ _) (by first | exact zak _ (by decide) (by decide) | rfl)) (@zhk _ _ _ _ _ (@zaw _ _ _ _ _ _ _ _ _ (@zeQ _ _ _ C) (@zaa _ _ 4 _ _ (by rfl) (by kst_p) (by decide) (by decide)) (@DF.val _ _ _ _ (@zbP _ _ _ _ _ (@zah _ _))) (by first | exact zak _ (by decide) (by decide) | rfl))))) (@zai _ _ _ _ _ _ _ (@zaA _ _ _ _ _ _ _ _ (@zam _ _ _ _ _ _ _ _ _ _ C F__law_refused (@zab _ _ _ _ _ _ (@zaa _ _ 0 _ _ (by rfl) (by kst_p) (by decide) (by decide)) (@zah _ _) (by rfl)) (by rfl) (by decide) (by rfl) (by rfl)))) (@zaM _ _ _ _)) (@zaf _ _ _ _ _ _ _ _ _ _ (@zcm _ _ _ _ _ _ _ _ _ _ _ _ (@zfq _ _ _ _ _ (@zem _ _ _ _ (@zam _ _ _ _ _ _ _ _ _ _ C F__law_told (@zab _ _ _ _ _ _ (@zaa _ _ 0 _ _ (by rfl) (by kst_p) (by decide) (by decide)) (@zab _ _ _ _ _ _ (@zam _ _ _ _ _ _ _ _ _ _ C F__law_due (@zab _ _ _ _ _ _ (@zaa _ _ 1 _ _ (by rfl) (by kst_p) (by decide) (by decide)) (@zah _ _) (by rfl)) (by rfl) (by decide) (by rfl) (by rfl)) (@zah _ _) (by rfl)) (by rfl)) (by rfl) (by decide) (by rfl) (by rfl)) (by intro _ ; rfl))) (@zai _ _ _ _ _ _ _ (@zaA _ _ _ _ _ _ _ _ (@ziU _ _ _ _ _))) (@zaM _ _ _ _)) (@zaf _ _ _ _ _ _ _ _ _ _ (@zan _ _ _ _ _ _ _ _ 5 nd (@DF.val _ _ _ _ (@zbP _ _ _ _ _ (@zab _ _ _ _ _ _ (@zaj _ _ _ _ _ _ _ (@zaa _ _ 0 _ _ (by rfl) (by kst_p) (by decide) (by decide)) (@zac _ _ _ _ _) (by intro _ _ ; rfl)) (@zab _ _ _ _ _ _ (@zaj _ _ _ _ _ _ _ (@zaa _ _ 0 _ _ (by rfl) (by kst_p) (by decide) (by decide)) (@zac _ _ _ _ _) (by intro _ _ ; rfl)) (@zab _ _ _ _ _ _ (@zaj _ _ _ _ _ _ _ (@zaa _ _ 0 _ _ (by rfl) (by kst_p) (by decide) (by decide)) (@zac _ _ _ _ _) (by intro _ _ ; rfl)) (@zab _ _ _ _ _ _ (@zaj _ _ _ _ _ _ _ (@zaa _ _ 0 _ _ (by rfl) (by kst_p) (by decide) (by decide)) (@zac _ _ _ _ _) (by intro _ _ ; rfl)) (@zah _ _) (by rfl)) (by rfl)) (by rfl)) (by rfl)))) (by rfl) (by kd_p1) (by rfl) (by kst_p1)) (@zai _ _ _ _ _ _ _ (@zaA _ _ _ _ _ _ _ _ (@zam _ _ _ _ _ _ _ _ _ _ C F__law_told (@zab _ _ _ _ _ _ (@zaa _ _ 5 _ _ (by rfl) (by kst_p) (by decide) (by decide)) (@zab _ _ _ _ _ _ (@zam _ _ _ _ _ _ _ _ _ _ C F__law_due (@zab _ _ _ _ _ _ (@DF.val _ _ _ _ (@zbP _ _ _ _ _ (@zab _ _ _ _ _ _ (@zaj _ _ _ _ _ _ _ (@zaa _ _ 1 _ _ (by rfl) (by kst_p) (by decide) (by decide)) (@zac _ _ _ _ _) (by intro _ _ ; rfl)) (@zab _ _ _ _ _ _ (@zaj _ _ _ _ _ _ _ (@zaa _ _ 1 _ _ (by rfl) (by kst_p) (by decide) (by decide)) (@zac _ _ _ _ _) (by intro _ _ ; rfl)) (@zab _ _ _ _ _ _ (@zaj _ _ _ _ _ _ _ (@zaa _ _ 1 _ _ (by rfl) (by kst_p) (by decide) (by decide)) (@zac _ _ _ _ _) (by intro _ _ ; rfl)) (@zab _ _ _ _ _ _ (@zaj _ _ _ _ _ _ _ (@zaa _ _ 1 _ _ (by rfl) (by kst_p) (by decide) (by decide)) (@zac _ _ _ _ _) (by intro _ _ ; rfl)) (@zah _ _) (by rfl)) (by rfl)) (by rfl)) (by rfl)))) (@zah _ _) (by rfl)) (by rfl) (by decide) (by rfl) (by rfl)) (@zah _ _) (by rfl)) (by rfl)) (by rfl) (by decide) (by rfl) (by rfl)))))))))))
abbrev zfo : Stmt := top 52
theorem zrF : zas ["_law_script", "_law_cell", "_law_some", "_law_one", "_law_other_here", "_law_pairs", "_law_places", "_law_on", "_law_rows", "_law_there"] ["_law_script"] (zae zfo) := ⟨rfl, rfl, rfl, by decide +kernel, rfl, by decide +kernel, by decide +kernel⟩
set_option maxHeartbeats 4000000 in
theorem zu9 {P : Program} {w : World} {K : xFg} {mg : Str -> Option Value} {base : Heap} {f : Addr} {fd : FuncData} {k : Nat} (F : Fun K "law" "law" zfo f fd) (n_range : mg "range" = none) (F__law_numbers : zax P w K mg base k "_law_numbers" zaK) (F__law_place : zax P w K mg base k "_law_place" zaB) (F__law_lowest : zax P w K mg base k "_law_lowest" zao) (F__law_pair : zax P w K mg base k "_law_pair" zb2) (F__law_sum : zax P w K mg base k "_law_sum" zbE) (F__law_det : zax P w K mg base k "_law_det" zaP) (F__law_change : zax P w K mg base k "_law_change" za4) (F__law_led : zax P w K mg base k "_law_led" zbD) (F__law_right : zax P w K mg base k "_law_right" zaH) : zhe P w K mg base (CXe P w) (k + 1) f fd ["_law_script"] (spD K mg ze7) := by
 refine zsq (own' := []) F zrF rfl rfl fun X E hX C L => ?_
 obtain ⟨cdv, A, outer, s, H, rfl⟩ := hX
 have nd := zrF.nd
 exact (@zaf _ _ _ _ _ _ _ _ _ _ (@zi3 _ _ _ _ _ _ _ _ _ _ _ _ L C.calm (@zcE _ _ _ _ _ (@zmx _ _ _ _ _ _ _ _ _ _ (@zbr _ _ _ _ _ _ _ (@DF.val _ _ _ _ (@zbP _ _ _ _ _ (@zab _ _ _ _ _ _ (@zac _ _ _ _ _) (@zah _ _) (by rfl)))) (@zaa _ _ 0 _ _ (by rfl) (by kst_p) (by decide) (by decide))) (@zkk _ _) (@zdq _ _ _ _ (@zac _ _ _ _ _)))) (@za1 _ _ 1 _ nd (by rfl) (by kd_p1) (by kst_p1)) (@zaf _ _ _ _ _ _ _ _ _ _ (@zan _ _ _ _ _ _ _ _ 2 nd (@zam _ _ _ _ _ _ _ _ _ _ C F__law_numbers (@zab _ _ _ _ _ _ (@zaa _ _ 1 _ _ (by rfl) (by kst_p) (by decide) (by decide)) (@zab _ _ _ _ _ _ (@zac _ _ _ _ _) (@zah _ _) (by rfl)) (by rfl)) (by rfl) (by decide) (by rfl) (by rfl)) (by rfl) (by kd_p1) (by rfl) (by kst_p1)) (@zaf _ _ _ _ _ _ _ _ _ _ (@zan _ _ _ _ _ _ _ _ 3 nd (@zam _ _ _ _ _ _ _ _ _ _ C F__law_place (@zab _ _ _ _ _ _ (@zmx _ _ _ _ _ _ _ _ _ _ (@zaa _ _ 2 _ _ (by rfl) (by kst_p) (by decide) (by decide)) (@zkk _ _) (@zdq _ _ _ _ (@zac _ _ _ _ _))) (@zah _ _) (by rfl)) (by rfl) (by decide) (by rfl) (by rfl)) (by rfl) (by kd_p1) (by rfl) (by kst_p1)) (@zaf _ _ _ _ _ _ _ _ _ _ (@zan _ _ _ _ _ _ _ _ 4 nd (@zam _ _ _ _ _ _ _ _ _ _ C F__law_place (@zab _ _ _ _ _ _ (@zmx _ _ _ _ _ _ _ _ _ _ (@zaa _ _ 2 _ _ (by rfl) (by kst_p) (by decide) (by decide)) (@zdq _ _ _ _ (@zac _ _ _ _ _)) (@zdq _ _ _ _ (@zac _ _ _ _ _))) (@zah _ _) (by rfl)) (by rfl) (by decide) (by rfl) (by rfl)) (by rfl) (by kd_p1) (by rfl) (by kst_p1)) (@zaf _ _ _ _ _ _ _ _ _ _ (@zcm _ _ _ _ _ _ _ _ _ _ _ _ (@zaw _ _ _ _ _ _ _ _ _ (@zei _ _ _ C) (@zaa _ _ 4 _ _ (by rfl) (by kst_p) (by decide) (by decide)) (@zaa _ _ 3 _ _ (by rfl) (by kst_p) (by decide) (by decide)) (by first | exact zak _ (by decide) (by decide) | rfl)) (@zaf _ _ _ _ _ _ _ _ _ _ (@zan _ _ _ _ _ _ _ _ 4 nd (@zam _ _ _ _ _ _ _ _ _ _ C F__law_lowest (@zab _ _ _ _ _ _ (@zbr _ _ _ _ _ _ _ (@zaj _ _ _ _ _ _ _ (@zaa _ _ 3 _ _ (by rfl) (by kst_p) (by decide) (by decide)) (@zac _ _ _ _ _) (by intro _ _ ; rfl)) (@zac _ _ _ _ _)) (@zab _ _ _ _ _ _ (@zbr _ _ _ _ _ _ _ (@zaj _ _ _ _ _ _ _ (@zaa _ _ 3 _ _ (by rfl) (by kst_p) (by decide) (by decide)) (@zac _ _ _ _ _) (by intro _ _ ; rfl)) (@zac _ _ _ _ _)) (@zab _ _ _ _ _ _ (@zbr _ _ _ _ _ _ _ (@zaj _ _ _ _ _ _ _ (@zaa _ _ 3 _ _ (by rfl) (by kst_p) (by decide) (by decide)) (@zac _ _ _ _ _) (by intro _ _ ; rfl)) (@zac _ _ _ _ _)) (@zah _ _) (by rfl)) (by rfl)) (by rfl)) (by rfl) (by decide) (by rfl) (by rfl)) (by rfl) (by kd_p1) (by rfl) (by kst_p1)) (@zai _ _ _ _ _ _ _ (@zcm _ _ _ _ _ _ _ _ _ _ _ _ (@zaw _ _ _ _ _ _ _ _ _ (@zei _ _ _ C) (@zaa _ _ 4 _ _ (by rfl) (by kst_p) (by decide) (by decide)) (@zaa _ _ 3 _ _ (by rfl) (by kst_p) (by decide) (by decide)) (by first | exact zak _ (by decide) (by decide) | rfl)) (@zai _ _ _ _ _ _ _ (@zan _ _ _ _ _ _ _ _ 4 nd (@zcP _ _ _ _ _ _ (@zab _ _ _ _ _ _ (@zac _ _ _ _ _) (@zab _ _ _ _ _ _ (@zac _ _ _ _ _) (@zab _ _ _ _ _ _ (@zac _ _ _ _ _) (@zah _ _) (by rfl)) (by rfl)) (by rfl))) (by rfl) (by kd_p1) (by rfl) (by kst_p1))) (@zaM _ _ _ _)))) (@zaM _ _ _ _)) (@zaf _ _ _ _ _ _ _ _ _ _ (@zpU _ _ _ _ _ _ _ _ _ _ _ _ _ _ _ _ _ _ _ _ _ 5 C.calm nd (LC.of (k := 1) (NY := ["_law_k", "_law_script", "_law_cell", "_law_some", "_law_one", "_law_other_here", "_law_pairs", "_law_places", "_law_on", "_law_rows", "_law_there"]) (N := ["_law_script", "_law_cell", "_law_some", "_law_one", "_law_other_here", "_law_pairs", "_law_places", "_law_on", "_law_rows", "_law_there"]) (sc0 := (zae zfo)) rfl rfl (by decide +kernel)) rfl (@zdS _ _ _ _ _ _ _ n_range (@zab _ _ _ _ _ _ (@zac _ _ _ _ _) (@zah _ _) (by rfl)) (by rfl) (by rfl)) (fun _ _ _ _ nd2 => ⟨(@za1 _ _ 0 _ nd2 (by rfl) (by kd_p1) (by kst_p1)), (@zdT _ _), (@zam _ _ _ _ _ _ _ _ _ _ (C.lc _ _ _ _ _ _) F__law_pair (@zab _ _ _ _ _ _ (@zaj _ _ _ _ _ _ _ (@zaa _ _ 3 _ _ (by rfl) (by kst_p) (by decide) (by decide)) (@zbr _ _ _ _ _ _ _ (@zac _ _ _ _ _) (@zar _ _ _ _ _ _ _ (@zac _ _ _ _ _) (@zaa _ _ 0 _ _ (by rfl) (by kst_p) (by decide) (by decide)))) (by intro _ _ ; rfl)) (@zab _ _ _ _ _ _ (@zaj _ _ _ _ _ _ _ (@zaa _ _ 3 _ _ (by rfl) (by kst_p) (by decide) (by decide)) (@zbr _ _ _ _ _ _ _ (@zac _ _ _ _ _) (@zar _ _ _ _ _ _ _ (@zac _ _ _ _ _) (@zaa _ _ 0 _ _ (by rfl) (by kst_p) (by decide) (by decide)))) (by intro _ _ ; rfl)) (@zah _ _) (by rfl)) (by rfl)) (by rfl) (by decide) (by rfl) (by rfl))⟩) (by rfl) (by rfl) (by rfl) (by rfl) (by intro _ ; rfl)) (@zaf _ _ _ _ _ _ _ _ _ _ (@zi2 _ _ _ _ _ _ _ _ _ _ _ _ _ _ _ _ _ _ _ _ _ 6 C.calm nd (LC.of (k := 1) (NY := ["_law_pair_here", "_law_script", "_law_cell", "_law_some", "_law_one", "_law_other_here", "_law_pairs", "_law_places", "_law_on", "_law_rows", "_law_there"]) (N := ["_law_script", "_law_cell", "_law_some", "_law_one", "_law_other_here", "_law_pairs", "_law_places", "_law_on", "_law_rows", "_law_there"]) (sc0 := (zae zfo)) rfl rfl (by decide +kernel)) rfl (@zcE _ _ _ _ _ (@zaa _ _ 5 _ _ (by rfl) (by kst_p) (by decide) (by decide))) (fun _ _ _ _ nd2 => ⟨(@za1 _ _ 0 _ nd2 (by rfl) (by kd_p1) (by kst_p1)), (@zdT _ _), (@zam _ _ _ _ _ _ _ _ _ _ (C.lc _ _ _ _ _ _) F__law_sum (@zab _ _ _ _ _ _ (@zaa _ _ 4 _ _ (by rfl) (by kst_p) (by decide) (by decide)) (@zab _ _ _ _ _ _ (@zaa _ _ 5 _ _ (by rfl) (by kst_p) (by decide) (by decide)) (@zab _ _ _ _ _ _ (@zaa _ _ 0 _ _ (by rfl) (by kst_p) (by decide) (by decide)) (@zah _ _) (by rfl)) (by rfl)) (by rfl)) (by rfl) (by decide) (by rfl) (by rfl))⟩) (by rfl) (by rfl) (by rfl) (by rfl) (by intro _ ; rfl)) (@zaf _ _ _ _ _ _ _ _ _ _ (@zcm _ _ _ _ _ _ _ _ _ _ _ _ (@zaw _ _ _ _ _ _ _ _ _ (@zei _ _ _ C) (@zbs _ _ _ _ _ _ _ (@zaj _ _ _ _ _ _ _ (@zaa _ _ 2 _ _ (by rfl) (by kst_p) (by decide) (by decide)) (@zac _ _ _ _ _) (by intro _ _ ; rfl)) (@zac _ _ _ _ _)) (@zac _ _ _ _ _) (by first | exact zak _ (by decide) (by decide) | rfl)) (@zaf _ _ _ _ _ _ _ _ _ _ (@zuL _ _ _ _ _ _ _ _ _ _ _ _ 6 (@zbs _ _ _ _ _ _ _ (@zaj _ _ _ _ _ _ _ (@zaa _ _ 2 _ _ (by rfl) (by kst_p) (by decide) (by decide)) (@zac _ _ _ _ _) (by intro _ _ ; rfl)) (@zac _ _ _ _ _)) (@zam _ _ _ _ _ _ _ _ _ _ C F__law_place (@zab _ _ _ _ _ _ (@zmx _ _ _ _ _ _ _ _ _ _ (@zaa _ _ 2 _ _ (by rfl) (by kst_p) (by decide) (by decide)) (@zdq _ _ _ _ (@zac _ _ _ _ _)) (@zdq _ _ _ _ (@zac _ _ _ _ _))) (@zah _ _) (by rfl)) (by rfl) (by decide) (by rfl) (by rfl)) (by rfl) (by rfl) (by kst_p) (by decide) (by decide) (by intro _ ; rfl) (by rfl) (by rfl) (by rfl)) (@zaf _ _ _ _ _ _ _ _ _ _ (@zi2 _ _ _ _ _ _ _ _ _ _ _ _ _ _ _ _ _ _ _ _ _ 7 C.calm nd (LC.of (k := 1) (NY := ["_law_place_here", "_law_script", "_law_cell", "_law_some", "_law_one", "_law_other_here", "_law_pairs", "_law_places", "_law_on", "_law_rows", "_law_there"]) (N := ["_law_script", "_law_cell", "_law_some", "_law_one", "_law_other_here", "_law_pairs", "_law_places", "_law_on", "_law_rows", "_law_there"]) (sc0 := (zae zfo)) rfl rfl (by decide +kernel)) rfl (@zcE _ _ _ _ _ (@zaa _ _ 6 _ _ (by rfl) (by kst_p) (by decide) (by decide))) (fun _ _ _ _ nd2 => ⟨(@za1 _ _ 0 _ nd2 (by rfl) (by kd_p1) (by kst_p1)), (@zeG _ _ _ _ (@zaw _ _ _ _ _ _ _ _ _ (@zeQ _ _ _ (C.lc _ _ _ _ _ _)) (@zam _ _ _ _ _ _ _ _ _ _ (C.lc _ _ _ _ _ _) F__law_det (@zab _ _ _ _ _ _ (@zaa _ _ 4 _ _ (by rfl) (by kst_p) (by decide) (by decide)) (@zab _ _ _ _ _ _ (@zaa _ _ 5 _ _ (by rfl) (by kst_p) (by decide) (by decide)) (@zab _ _ _ _ _ _ (@zaa _ _ 0 _ _ (by rfl) (by kst_p) (by decide) (by decide)) (@zah _ _) (by rfl)) (by rfl)) (by rfl)) (by rfl) (by decide) (by rfl) (by rfl)) (@zac _ _ _ _ _) (by first | exact zak _ (by decide) (by decide) | rfl))), (@zaa _ _ 0 _ _ (by rfl) (by kst_p) (by decide) (by decide))⟩) (by rfl) (by rfl) (by rfl) (by rfl) (by intro _ ; rfl)) (@zc7 _ _ _ _ _ _ _ _ 7 (by rfl) (by rfl) (@zai _ _ _ _ _ _ _ (@zcm _ _ _ _ _ _ _ _ _ _ _ _ (@zaw _ _ _ _ _ _ _ _ _ (@zei _ _ _ C) (@zaa _ _ 7 _ _ (by rfl) (by kst_p) (by decide) (by decide)) (@DF.val _ _ _ _ (@zbP _ _ _ _ _ (@zah _ _))) (by first | exact zak _ (by decide) (by decide) | rfl)) (@zaf _ _ _ _ _ _ _ _ _ _ (@zh3 _ _ _ _ _ _ _ _ _ _ _ _ 6 (@zac _ _ _ _ _) (@zaj _ _ _ _ _ _ _ (@zaa _ _ 6 _ _ (by rfl) (by kst_p) (by decide) (by decide)) (@zac _ _ _ _ _) (by intro _ _ ; rfl)) (by rfl) (by rfl) (by kst_p) (by decide) (by decide) (by intro _ ; rfl) (by rfl) (by rfl) (by rfl)) (@zaf _ _ _ _ _ _ _ _ _ _ (@zh3 _ _ _ _ _ _ _ _ _ _ _ _ 5 (@zac _ _ _ _ _) (@zaj _ _ _ _ _ _ _ (@zaa _ _ 5 _ _ (by rfl) (by kst_p) (by decide) (by decide)) (@zac _ _ _ _ _) (by intro _ _ ; rfl)) (by rfl) (by rfl) (by kst_p) (by decide) (by decide) (by intro _ ; rfl) (by rfl) (by rfl) (by rfl)) (@zaf _ _ _ _ _ _ _ _ _ _ (@zh3 _ _ _ _ _ _ _ _ _ _ _ _ 6 (@zac _ _ _ _ _) (@zaj _ _ _ _ _ _ _ (@zaa _ _ 6 _ _ (by rfl) (by kst_p) (by decide) (by decide)) (@zac _ _ _ _ _) (by intro _ _ ; rfl)) (by rfl) (by rfl) (by kst_p) (by decide) (by decide) (by intro _ ; rfl) (by rfl) (by rfl) (by rfl)) (@zc7 _ _ _ _ _ _ _ _ 6 (by rfl) (by rfl) (@zaf _ _ _ _ _ _ _ _ _ _ (@zh3 _ _ _ _ _ _ _ _ _ _ _ _ 5 (@zac _ _ _ _ _) (@zaj _ _ _ _ _ _ _ (@zaa _ _ 5 _ _ (by rfl) (by kst_p) (by decide) (by decide)) (@zac _ _ _ _ _) (by intro _ _ ; rfl)) (by rfl) (by rfl) (by kst_p) (by decide) (by decide) (by intro _ ; rfl) (by rfl) (by rfl) (by rfl)) (@zc7 _ _ _ _ _ _ _ _ 5 (by rfl) (by rfl) (@zaM _ _ _ _))))))) (@zc7 _ _ _ _ _ _ _ _ 6 (by rfl) (by rfl) (@zc7 _ _ _ _ _ _ _ _ 5 (by rfl) (by rfl) (@zaM _ _ _ _)))))))) (@zc7 _ _ _ _ _ _ _ _ 6 (by rfl) (by rfl) (@zc7 _ _ _ _ _ _ _ _ 5 (by rfl) (by rfl) (@zaM _ _ _ _)))) (@zaf _ _ _ _ _ _ _ _ _ _ (@zan _ _ _ _ _ _ _ _ 8 nd (@zam _ _ _ _ _ _ _ _ _ _ C F__law_change (@zab _ _ _ _ _ _ (@zmx _ _ _ _ _ _ _ _ _ _ (@zaa _ _ 2 _ _ (by rfl) (by kst_p) (by decide) (by decide)) (@zdq _ _ _ _ (@zac _ _ _ _ _)) (@zdq _ _ _ _ (@zac _ _ _ _ _))) (@zah _ _) (by rfl)) (by rfl) (by decide) (by rfl) (by rfl)) (by rfl) (by kd_p1) (by rfl) (by kst_p1)) (@zaf _ _ _ _ _ _ _ _ _ _ (@zfX _ _ _ _ _ _ _ _ _ _ _ _ _ _ _ _ _ _ _ _ 9 C.calm nd (LC.of (k := 1) (NY := ["_law_place_here", "_law_script", "_law_cell", "_law_some", "_law_one", "_law_other_here", "_law_pairs", "_law_places", "_law_on", "_law_rows", "_law_there"]) (N := ["_law_script", "_law_cell", "_law_some", "_law_one", "_law_other_here", "_law_pairs", "_law_places", "_law_on", "_law_rows", "_law_there"]) (sc0 := (zae zfo)) rfl rfl (by decide +kernel)) rfl (@zcE _ _ _ _ _ (@zaa _ _ 6 _ _ (by rfl) (by kst_p) (by decide) (by decide))) (fun _ _ _ _ nd2 => ⟨(@za1 _ _ 0 _ nd2 (by rfl) (by kd_p1) (by kst_p1)), (@zdT _ _), (@zam _ _ _ _ _ _ _ _ _ _ (C.lc _ _ _ _ _ _) F__law_led (@zab _ _ _ _ _ _ (@zaa _ _ 9 _ _ (by rfl) (by kst_p) (by decide) (by decide)) (@zab _ _ _ _ _ _ (@zaa _ _ 0 _ _ (by rfl) (by kst_p) (by decide) (by decide)) (@zah _ _) (by rfl)) (by rfl)) (by rfl) (by decide) (by rfl) (by rfl))⟩) (by rfl) (by rfl) (by rfl) (by rfl) (by intro _ ; rfl)) (@zai _ _ _ _ _ _ _ (@zcm _ _ _ _ _ _ _ _ _ _ _ _ (@DW.dt _ _ _ _ (@zke _ _ _ _ _ _ _ _ (@zfq _ _ _ _ _ (@zem _ _ _ _ (@zam _ _ _ _ _ _ _ _ _ _ C F__law_right (@zab _ _ _ _ _ _ (@zaa _ _ 6 _ _ (by rfl) (by kst_p) (by decide) (by decide)) (@zab _ _ _ _ _ _ (@zaa _ _ 5 _ _ (by rfl) (by kst_p) (by decide) (by decide)) (@zah _ _) (by rfl)) (by rfl)) (by rfl) (by decide) (by rfl) (by rfl)) (by intro _ ; rfl))) (@zhk _ _ _ _ _ (@zfq _ _ _ _ _ (@zem _ _ _ _ (@zam _ _ _ _ _ _ _ _ _ _ C F__law_right (@zab _ _ _ _ _ _ (@zaa _ _ 9 _ _ (by rfl) (by kst_p) (by decide) (by decide)) (@zab _ _ _ _ _ _ (@zaa _ _ 5 _ _ (by rfl) (by kst_p) (by decide) (by decide)) (@zah _ _) (by rfl)) (by rfl)) (by rfl) (by decide) (by rfl) (by rfl)) (by intro _ ; rfl)))))) (@zai _ _ _ _ _ _ _ (@zaA _ _ _ _ _ _ _ _ (@ziU _ _ _ _ _))) (@zaM _ _ _ _)))))))))))) (by rfl) (by intro _ ; rfl)) (@zai _ _ _ _ _ _ _ (@zaA _ _ _ _ _ _ _ _ (@ziU _ _ _ _ _))))
set_option maxHeartbeats 4000000 in
theorem all_mk {l : PySem.W.OpenLaw} {w : World} {K : xFg} {h : Heap} {mg : Str -> Option Value} {fa f0 f1 f2 f3 f4 f5 f6 f7 f8 f9 f10 f11 f12 f13 f14 f15 f16 f17 f18 f19 f20 f21 f22 f23 f24 f25 f26 f27 f28 f29 f30 f31 : Addr} (X : K.In h) (G : h.Ns mainGlobals mg) (hfa : mg "law" = some (.ref fa))
  {od0 an0 od1 an1 od2 an2 od3 an3 od4 an4 od5 an5 od6 an6 od7 an7 od8 an8 od9 an9 od10 an10 od11 an11 od12 an12 od13 an13 od14 an14 od15 an15 od16 an16 od17 an17 od18 an18 od19 an19 od20 an20 od21 an21 od22 an22 od23 an23 od24 an24 od25 an25 od26 an26 od27 an27 od28 an28 od29 an29 od30 an30 od31 an31 : Option Addr} {sl0 sl1 sl2 sl3 sl4 sl5 sl6 sl7 sl8 sl9 sl10 sl11 sl12 sl13 sl14 sl15 sl16 sl17 sl18 sl19 sl20 sl21 sl22 sl23 sl24 sl25 sl26 sl27 sl28 sl29 sl30 sl31 : Array (Option Value)} {oc0 kV0 dc0 pm0 cd0 ct0 oc1 kV1 dc1 pm1 cd1 ct1 oc2 kV2 dc2 pm2 cd2 ct2 oc3 kV3 dc3 pm3 cd3 ct3 oc4 kV4 dc4 pm4 cd4 ct4 oc5 kV5 dc5 pm5 cd5 ct5 oc6 kV6 dc6 pm6 cd6 ct6 oc7 kV7 dc7 pm7 cd7 ct7 oc8 kV8 dc8 pm8 cd8 ct8 oc9 kV9 dc9 pm9 cd9 ct9 oc10 kV10 dc10 pm10 cd10 ct10 oc11 kV11 dc11 pm11 cd11 ct11 oc12 kV12 dc12 pm12 cd12 ct12 oc13 kV13 dc13 pm13 cd13 ct13 oc14 kV14 dc14 pm14 cd14 ct14 oc15 kV15 dc15 pm15 cd15 ct15 oc16 kV16 dc16 pm16 cd16 ct16 oc17 kV17 dc17 pm17 cd17 ct17 oc18 kV18 dc18 pm18 cd18 ct18 oc19 kV19 dc19 pm19 cd19 ct19 oc20 kV20 dc20 pm20 cd20 ct20 oc21 kV21 dc21 pm21 cd21 ct21 oc22 kV22 dc22 pm22 cd22 ct22 oc23 kV23 dc23 pm23 cd23 ct23 oc24 kV24 dc24 pm24 cd24 ct24 oc25 kV25 dc25 pm25 cd25 ct25 oc26 kV26 dc26 pm26 cd26 ct26 oc27 kV27 dc27 pm27 cd27 ct27 oc28 kV28 dc28 pm28 cd28 ct28 oc29 kV29 dc29 pm29 cd29 ct29 oc30 kV30 dc30 pm30 cd30 ct30 oc31 kV31 dc31 pm31 cd31 ct31 : Value}
  {C_ChalkError C_NoPlace C_Same C_NoFloor C_Endless C_NoDeed C_NoText C_NoName C_TooMany C_NoChange C_NoFrame C_NoValue C_Unlike C_NoRatio C_NoBow C_NoRow : Addr}
  (a0 : PySem.W.nsIn K mainGlobals "_law_numbers" = some (some (.ref f0))) (l0 : K.lookup f0 = some ⟨oc0, od0, .func (PySem.W.fnOf "_law_numbers" "_law_numbers" (zat zbb) (zaq zbb) (zae zbb) .none kV0 dc0 pm0 an0 cd0 ct0), sl0⟩) (c0 : PySem.W.codeIn K cd0 "_law_numbers" = true) (k0 : PySem.W.keepIn K (.ref f0) = true)
  (a1 : PySem.W.nsIn K mainGlobals "_law_lowest" = some (some (.ref f1))) (l1 : K.lookup f1 = some ⟨oc1, od1, .func (PySem.W.fnOf "_law_lowest" "_law_lowest" (zat za8) (zaq za8) (zae za8) .none kV1 dc1 pm1 an1 cd1 ct1), sl1⟩) (c1 : PySem.W.codeIn K cd1 "_law_lowest" = true) (k1 : PySem.W.keepIn K (.ref f1) = true)
  (a2 : PySem.W.nsIn K mainGlobals "_law_place" = some (some (.ref f2))) (l2 : K.lookup f2 = some ⟨oc2, od2, .func (PySem.W.fnOf "_law_place" "_law_place" (zat zbF) (zaq zbF) (zae zbF) .none kV2 dc2 pm2 an2 cd2 ct2), sl2⟩) (c2 : PySem.W.codeIn K cd2 "_law_place" = true) (k2 : PySem.W.keepIn K (.ref f2) = true)
  (a3 : PySem.W.nsIn K mainGlobals "_law_det" = some (some (.ref f3))) (l3 : K.lookup f3 = some ⟨oc3, od3, .func (PySem.W.fnOf "_law_det" "_law_det" (zat zcs) (zaq zcs) (zae zcs) .none kV3 dc3 pm3 an3 cd3 ct3), sl3⟩) (c3 : PySem.W.codeIn K cd3 "_law_det" = true) (k3 : PySem.W.keepIn K (.ref f3) = true)
  (a4 : PySem.W.nsIn K mainGlobals "_law_change" = some (some (.ref f4))) (l4 : K.lookup f4 = some ⟨oc4, od4, .func (PySem.W.fnOf "_law_change" "_law_change" (zat zaX) (zaq zaX) (zae zaX) .none kV4 dc4 pm4 an4 cd4 ct4), sl4⟩) (c4 : PySem.W.codeIn K cd4 "_law_change" = true) (k4 : PySem.W.keepIn K (.ref f4) = true)
  (a5 : PySem.W.nsIn K mainGlobals "_law_pair" = some (some (.ref f5))) (l5 : K.lookup f5 = some ⟨oc5, od5, .func (PySem.W.fnOf "_law_pair" "_law_pair" (zat zb3) (zaq zb3) (zae zb3) .none kV5 dc5 pm5 an5 cd5 ct5), sl5⟩) (c5 : PySem.W.codeIn K cd5 "_law_pair" = true) (k5 : PySem.W.keepIn K (.ref f5) = true)
  (a6 : PySem.W.nsIn K mainGlobals "_law_sum" = some (some (.ref f6))) (l6 : K.lookup f6 = some ⟨oc6, od6, .func (PySem.W.fnOf "_law_sum" "_law_sum" (zat zct) (zaq zct) (zae zct) .none kV6 dc6 pm6 an6 cd6 ct6), sl6⟩) (c6 : PySem.W.codeIn K cd6 "_law_sum" = true) (k6 : PySem.W.keepIn K (.ref f6) = true)
  (a7 : PySem.W.nsIn K mainGlobals "_law_dot" = some (some (.ref f7))) (l7 : K.lookup f7 = some ⟨oc7, od7, .func (PySem.W.fnOf "_law_dot" "_law_dot" (zat zcu) (zaq zcu) (zae zcu) .none kV7 dc7 pm7 an7 cd7 ct7), sl7⟩) (c7 : PySem.W.codeIn K cd7 "_law_dot" = true) (k7 : PySem.W.keepIn K (.ref f7) = true)
  (a8 : PySem.W.nsIn K mainGlobals "_law_led" = some (some (.ref f8))) (l8 : K.lookup f8 = some ⟨oc8, od8, .func (PySem.W.fnOf "_law_led" "_law_led" (zat zcv) (zaq zcv) (zae zcv) .none kV8 dc8 pm8 an8 cd8 ct8), sl8⟩) (c8 : PySem.W.codeIn K cd8 "_law_led" = true) (k8 : PySem.W.keepIn K (.ref f8) = true)
  (a9 : PySem.W.nsIn K mainGlobals "index_off" = some (some (.ref f9))) (l9 : K.lookup f9 = some ⟨oc9, od9, .func (PySem.W.fnOf "index_off" "index_off" (zat zby) (zaq zby) (zae zby) .none kV9 dc9 pm9 an9 cd9 ct9), sl9⟩) (c9 : PySem.W.codeIn K cd9 "index_off" = true) (k9 : PySem.W.keepIn K (.ref f9) = true)
  (a10 : PySem.W.nsIn K mainGlobals "divisor" = some (some (.ref f10))) (l10 : K.lookup f10 = some ⟨oc10, od10, .func (PySem.W.fnOf "divisor" "divisor" (zat zdk) (zaq zdk) (zae zdk) .none kV10 dc10 pm10 an10 cd10 ct10), sl10⟩) (c10 : PySem.W.codeIn K cd10 "divisor" = true) (k10 : PySem.W.keepIn K (.ref f10) = true)
  (a11 : PySem.W.nsIn K mainGlobals "fraction" = some (some (.ref f11))) (l11 : K.lookup f11 = some ⟨oc11, od11, .func (PySem.W.fnOf "fraction" "fraction" (zat zcw) (zaq zcw) (zae zcw) .none kV11 dc11 pm11 an11 cd11 ct11), sl11⟩) (c11 : PySem.W.codeIn K cd11 "fraction" = true) (k11 : PySem.W.keepIn K (.ref f11) = true)
  (a12 : PySem.W.nsIn K mainGlobals "in_form" = some (some (.ref f12))) (l12 : K.lookup f12 = some ⟨oc12, od12, .func (PySem.W.fnOf "in_form" "in_form" (zat zcM) (zaq zcM) (zae zcM) .none kV12 dc12 pm12 an12 cd12 ct12), sl12⟩) (c12 : PySem.W.codeIn K cd12 "in_form" = true) (k12 : PySem.W.keepIn K (.ref f12) = true)
  (a13 : PySem.W.nsIn K mainGlobals "cross" = some (some (.ref f13))) (l13 : K.lookup f13 = some ⟨oc13, od13, .func (PySem.W.fnOf "cross" "cross" (zat zfm) (zaq zfm) (zae zfm) .none kV13 dc13 pm13 an13 cd13 ct13), sl13⟩) (c13 : PySem.W.codeIn K cd13 "cross" = true) (k13 : PySem.W.keepIn K (.ref f13) = true)
  (a14 : PySem.W.nsIn K mainGlobals "between_two" = some (some (.ref f14))) (l14 : K.lookup f14 = some ⟨oc14, od14, .func (PySem.W.fnOf "between_two" "between_two" (zat zbq) (zaq zbq) (zae zbq) .none kV14 dc14 pm14 an14 cd14 ct14), sl14⟩) (c14 : PySem.W.codeIn K cd14 "between_two" = true) (k14 : PySem.W.keepIn K (.ref f14) = true)
  (a15 : PySem.W.nsIn K mainGlobals "through" = some (some (.ref f15))) (l15 : K.lookup f15 = some ⟨oc15, od15, .func (PySem.W.fnOf "through" "through" (zat zdl) (zaq zdl) (zae zdl) .none kV15 dc15 pm15 an15 cd15 ct15), sl15⟩) (c15 : PySem.W.codeIn K cd15 "through" = true) (k15 : PySem.W.keepIn K (.ref f15) = true)
  (a16 : PySem.W.nsIn K mainGlobals "dot" = some (some (.ref f16))) (l16 : K.lookup f16 = some ⟨oc16, od16, .func (PySem.W.fnOf "dot" "dot" (zat zmU) (zaq zmU) (zae zmU) .none kV16 dc16 pm16 an16 cd16 ct16), sl16⟩) (c16 : PySem.W.codeIn K cd16 "dot" = true) (k16 : PySem.W.keepIn K (.ref f16) = true)
  (a17 : PySem.W.nsIn K mainGlobals "lies" = some (some (.ref f17))) (l17 : K.lookup f17 = some ⟨oc17, od17, .func (PySem.W.fnOf "lies" "lies" (zat zhD) (zaq zhD) (zae zhD) .none kV17 dc17 pm17 an17 cd17 ct17), sl17⟩) (c17 : PySem.W.codeIn K cd17 "lies" = true) (k17 : PySem.W.keepIn K (.ref f17) = true)
  (a18 : PySem.W.nsIn K mainGlobals "on_one" = some (some (.ref f18))) (l18 : K.lookup f18 = some ⟨oc18, od18, .func (PySem.W.fnOf "on_one" "on_one" (zat zc6) (zaq zc6) (zae zc6) .none kV18 dc18 pm18 an18 cd18 ct18), sl18⟩) (c18 : PySem.W.codeIn K cd18 "on_one" = true) (k18 : PySem.W.keepIn K (.ref f18) = true)
  (a19 : PySem.W.nsIn K mainGlobals "is_whole" = some (some (.ref f19))) (l19 : K.lookup f19 = some ⟨oc19, od19, .func (PySem.W.fnOf "is_whole" "is_whole" (zat zcx) (zaq zcx) (zae zcx) .none kV19 dc19 pm19 an19 cd19 ct19), sl19⟩) (c19 : PySem.W.codeIn K cd19 "is_whole" = true) (k19 : PySem.W.keepIn K (.ref f19) = true)
  (a20 : PySem.W.nsIn K mainGlobals "makes_place" = some (some (.ref f20))) (l20 : K.lookup f20 = some ⟨oc20, od20, .func (PySem.W.fnOf "makes_place" "makes_place" (zat za9) (zaq za9) (zae za9) .none kV20 dc20 pm20 an20 cd20 ct20), sl20⟩) (c20 : PySem.W.codeIn K cd20 "makes_place" = true) (k20 : PySem.W.keepIn K (.ref f20) = true)
  (a21 : PySem.W.nsIn K mainGlobals "is_place" = some (some (.ref f21))) (l21 : K.lookup f21 = some ⟨oc21, od21, .func (PySem.W.fnOf "is_place" "is_place" (zat zcy) (zaq zcy) (zae zcy) .none kV21 dc21 pm21 an21 cd21 ct21), sl21⟩) (c21 : PySem.W.codeIn K cd21 "is_place" = true) (k21 : PySem.W.keepIn K (.ref f21) = true)
  (a22 : PySem.W.nsIn K mainGlobals "has_ratio" = some (some (.ref f22))) (l22 : K.lookup f22 = some ⟨oc22, od22, .func (PySem.W.fnOf "has_ratio" "has_ratio" (zat zbz) (zaq zbz) (zae zbz) .none kV22 dc22 pm22 an22 cd22 ct22), sl22⟩) (c22 : PySem.W.codeIn K cd22 "has_ratio" = true) (k22 : PySem.W.keepIn K (.ref f22) = true)
  (a23 : PySem.W.nsIn K mainGlobals "ratio" = some (some (.ref f23))) (l23 : K.lookup f23 = some ⟨oc23, od23, .func (PySem.W.fnOf "ratio" "ratio" (zat zfn) (zaq zfn) (zae zfn) .none kV23 dc23 pm23 an23 cd23 ct23), sl23⟩) (c23 : PySem.W.codeIn K cd23 "ratio" = true) (k23 : PySem.W.keepIn K (.ref f23) = true)
  (a24 : PySem.W.nsIn K mainGlobals "_law_whole" = some (some (.ref f24))) (l24 : K.lookup f24 = some ⟨oc24, od24, .func (PySem.W.fnOf "_law_whole" "_law_whole" (zat zbG) (zaq zbG) (zae zbG) .none kV24 dc24 pm24 an24 cd24 ct24), sl24⟩) (c24 : PySem.W.codeIn K cd24 "_law_whole" = true) (k24 : PySem.W.keepIn K (.ref f24) = true)
  (a25 : PySem.W.nsIn K mainGlobals "_law_told" = some (some (.ref f25))) (l25 : K.lookup f25 = some ⟨oc25, od25, .func (PySem.W.fnOf "_law_told" "_law_told" (zat zbA) (zaq zbA) (zae zbA) .none kV25 dc25 pm25 an25 cd25 ct25), sl25⟩) (c25 : PySem.W.codeIn K cd25 "_law_told" = true) (k25 : PySem.W.keepIn K (.ref f25) = true)
  (a26 : PySem.W.nsIn K mainGlobals "_law_other" = some (some (.ref f26))) (l26 : K.lookup f26 = some ⟨oc26, od26, .func (PySem.W.fnOf "_law_other" "_law_other" (zat zbH) (zaq zbH) (zae zbH) .none kV26 dc26 pm26 an26 cd26 ct26), sl26⟩) (c26 : PySem.W.codeIn K cd26 "_law_other" = true) (k26 : PySem.W.keepIn K (.ref f26) = true)
  (a27 : PySem.W.nsIn K mainGlobals "_law_refused" = some (some (.ref f27))) (l27 : K.lookup f27 = some ⟨oc27, od27, .func (PySem.W.fnOf "_law_refused" "_law_refused" (zat zbc) (zaq zbc) (zae zbc) .none kV27 dc27 pm27 an27 cd27 ct27), sl27⟩) (c27 : PySem.W.codeIn K cd27 "_law_refused" = true) (k27 : PySem.W.keepIn K (.ref f27) = true)
  (a28 : PySem.W.nsIn K mainGlobals "_law_fraction" = some (some (.ref f28))) (l28 : K.lookup f28 = some ⟨oc28, od28, .func (PySem.W.fnOf "_law_fraction" "_law_fraction" (zat za2) (zaq za2) (zae za2) .none kV28 dc28 pm28 an28 cd28 ct28), sl28⟩) (c28 : PySem.W.codeIn K cd28 "_law_fraction" = true) (k28 : PySem.W.keepIn K (.ref f28) = true)
  (a29 : PySem.W.nsIn K mainGlobals "_law_due" = some (some (.ref f29))) (l29 : K.lookup f29 = some ⟨oc29, od29, .func (PySem.W.fnOf "_law_due" "_law_due" (zat zcz) (zaq zcz) (zae zcz) .none kV29 dc29 pm29 an29 cd29 ct29), sl29⟩) (c29 : PySem.W.codeIn K cd29 "_law_due" = true) (k29 : PySem.W.keepIn K (.ref f29) = true)
  (a30 : PySem.W.nsIn K mainGlobals "_law_right" = some (some (.ref f30))) (l30 : K.lookup f30 = some ⟨oc30, od30, .func (PySem.W.fnOf "_law_right" "_law_right" (zat zbl) (zaq zbl) (zae zbl) .none kV30 dc30 pm30 an30 cd30 ct30), sl30⟩) (c30 : PySem.W.codeIn K cd30 "_law_right" = true) (k30 : PySem.W.keepIn K (.ref f30) = true)
  (a31 : PySem.W.nsIn K mainGlobals "law" = some (some (.ref f31))) (l31 : K.lookup f31 = some ⟨oc31, od31, .func (PySem.W.fnOf "law" "law" (zat zfo) (zaq zfo) (zae zfo) .none kV31 dc31 pm31 an31 cd31 ct31), sl31⟩) (c31 : PySem.W.codeIn K cd31 "law" = true) (k31 : PySem.W.keepIn K (.ref f31) = true)
  (z_max : PySem.W.nsIn K mainGlobals "max" = some none)
  (z_range : PySem.W.nsIn K mainGlobals "range" = some none)
  (z_abs : PySem.W.nsIn K mainGlobals "abs" = some none)
  (z_min : PySem.W.nsIn K mainGlobals "min" = some none)
  (z_len : PySem.W.nsIn K mainGlobals "len" = some none)
  (z_all : PySem.W.nsIn K mainGlobals "all" = some none)
  (z_isinstance : PySem.W.nsIn K mainGlobals "isinstance" = some none)
  (z_int : PySem.W.nsIn K mainGlobals "int" = some none)
  (z_bool : PySem.W.nsIn K mainGlobals "bool" = some none)
  (z_tuple : PySem.W.nsIn K mainGlobals "tuple" = some none)
  (z_set : PySem.W.nsIn K mainGlobals "set" = some none)
  (z_sorted : PySem.W.nsIn K mainGlobals "sorted" = some none)
  (z_ValueError : PySem.W.nsIn K mainGlobals "ValueError" = some none)
  (e_ChalkError : PySem.W.nsIn K mainGlobals "ChalkError" = some (some (.ref C_ChalkError)))
  (e_NoPlace : PySem.W.nsIn K mainGlobals "NoPlace" = some (some (.ref C_NoPlace)))
  (e_Same : PySem.W.nsIn K mainGlobals "Same" = some (some (.ref C_Same)))
  (e_NoFloor : PySem.W.nsIn K mainGlobals "NoFloor" = some (some (.ref C_NoFloor)))
  (e_Endless : PySem.W.nsIn K mainGlobals "Endless" = some (some (.ref C_Endless)))
  (e_NoDeed : PySem.W.nsIn K mainGlobals "NoDeed" = some (some (.ref C_NoDeed)))
  (e_NoText : PySem.W.nsIn K mainGlobals "NoText" = some (some (.ref C_NoText)))
  (e_NoName : PySem.W.nsIn K mainGlobals "NoName" = some (some (.ref C_NoName)))
  (e_TooMany : PySem.W.nsIn K mainGlobals "TooMany" = some (some (.ref C_TooMany)))
  (e_NoChange : PySem.W.nsIn K mainGlobals "NoChange" = some (some (.ref C_NoChange)))
  (e_NoFrame : PySem.W.nsIn K mainGlobals "NoFrame" = some (some (.ref C_NoFrame)))
  (e_NoValue : PySem.W.nsIn K mainGlobals "NoValue" = some (some (.ref C_NoValue)))
  (e_Unlike : PySem.W.nsIn K mainGlobals "Unlike" = some (some (.ref C_Unlike)))
  (e_NoRatio : PySem.W.nsIn K mainGlobals "NoRatio" = some (some (.ref C_NoRatio)))
  (e_NoBow : PySem.W.nsIn K mainGlobals "NoBow" = some (some (.ref C_NoBow)))
  (e_NoRow : PySem.W.nsIn K mainGlobals "NoRow" = some (some (.ref C_NoRow)))
  (y_NoRatio : PySem.W.excIn K C_NoRatio [.type "ValueError", .type "Exception", .type "BaseException", .type "object"] "ValueError.__new__" = true)
  (xga_NoRatio : PySem.W.findIn K (.ref C_NoRatio) "__getattribute__" = some (some (.builtin "BaseException.__getattribute__")))
  (xgh_NoRatio : PySem.W.findIn K (.ref C_NoRatio) "__getattr__" = some none)
  (xbs_NoRatio : PySem.W.mroIn K C_NoRatio (.type "BaseException") = some true)
  (xob_NoRatio : PySem.W.mroIn K C_NoRatio (.type "object") = some true)
  (xca_NoRatio : PySem.W.findIn K (.ref C_NoRatio) "__class__" = some (some (.builtin "object.__class__")))
  (xvv_NoRatio : PySem.W.kitOne K (.ref C_NoRatio) (.type "ValueError") = some true)
  (t_NoRatio_ChalkError : PySem.W.kitOne K (.ref C_NoRatio) (.ref C_ChalkError) = some true)
  (u_NoRatio_ChalkError : PySem.W.exmOne K (.ref C_NoRatio) (.ref C_ChalkError) = some true)
  (t_NoRatio_NoPlace : PySem.W.kitOne K (.ref C_NoRatio) (.ref C_NoPlace) = some false)
  (t_NoRatio_Same : PySem.W.kitOne K (.ref C_NoRatio) (.ref C_Same) = some false)
  (t_NoRatio_NoFloor : PySem.W.kitOne K (.ref C_NoRatio) (.ref C_NoFloor) = some false)
  (t_NoRatio_Endless : PySem.W.kitOne K (.ref C_NoRatio) (.ref C_Endless) = some false)
  (t_NoRatio_NoDeed : PySem.W.kitOne K (.ref C_NoRatio) (.ref C_NoDeed) = some false)
  (t_NoRatio_NoText : PySem.W.kitOne K (.ref C_NoRatio) (.ref C_NoText) = some false)
  (t_NoRatio_NoName : PySem.W.kitOne K (.ref C_NoRatio) (.ref C_NoName) = some false)
  (t_NoRatio_TooMany : PySem.W.kitOne K (.ref C_NoRatio) (.ref C_TooMany) = some false)
  (t_NoRatio_NoChange : PySem.W.kitOne K (.ref C_NoRatio) (.ref C_NoChange) = some false)
  (t_NoRatio_NoFrame : PySem.W.kitOne K (.ref C_NoRatio) (.ref C_NoFrame) = some false)
  (t_NoRatio_NoValue : PySem.W.kitOne K (.ref C_NoRatio) (.ref C_NoValue) = some false)
  (t_NoRatio_Unlike : PySem.W.kitOne K (.ref C_NoRatio) (.ref C_Unlike) = some false)
  (t_NoRatio_NoRatio : PySem.W.kitOne K (.ref C_NoRatio) (.ref C_NoRatio) = some true)
  (u_NoRatio_NoRatio : PySem.W.exmOne K (.ref C_NoRatio) (.ref C_NoRatio) = some true)
  (t_NoRatio_NoBow : PySem.W.kitOne K (.ref C_NoRatio) (.ref C_NoBow) = some false)
  (t_NoRatio_NoRow : PySem.W.kitOne K (.ref C_NoRatio) (.ref C_NoRow) = some false)
  (xcg : PySem.W.specialIn K (.builtin "object.__class__") "__get__" = some (some (.builtin "getset_descriptor.__get__"))) (xct : PySem.W.takesIn K (.builtin "object.__class__") = some true)
  (hlaw : ∀ ns : List Int, ns.length <= 63 -> ze7 [.lst (ns.map .int)] = .ok (.bl true))
  : ∃ fd : FuncData, (∀ (s : Shared) (v : Value), BindsTo s fd ⟨[v], []⟩ [("_law_script", v)]) /\ ∀ base : Heap, K.In base -> base.Ns mainGlobals mg -> zhe l.prog w K mg base (CXe l.prog w) 10 fa fd ["_law_script"] (zp2 K) := by
 have e := hfa.symm.trans (xad X G a31)
 cases e
 have F0 := zaN (st := zbb) l0 c0 k0
 have b0 := F0.binds (ps := ["_law_cell", "_law_many"]) fun _ _ _ _ _ _ us hl => match us, hl with | [_, _], _ => rfl
 have m0 := xad X G a0
 have F1 := zaN (st := za8) l1 c1 k1
 have b1 := F1.binds (ps := ["_law_x", "_law_y", "_law_z"]) fun _ _ _ _ _ _ us hl => match us, hl with | [_, _, _], _ => rfl
 have m1 := xad X G a1
 have F2 := zaN (st := zbF) l2 c2 k2
 have b2 := F2.binds (ps := ["_law_some"]) fun _ _ _ _ _ _ us hl => match us, hl with | [_], _ => rfl
 have m2 := xad X G a2
 have F3 := zaN (st := zcs) l3 c3 k3
 have b3 := F3.binds (ps := ["_law_one", "_law_other_here", "_law_third"]) fun _ _ _ _ _ _ us hl => match us, hl with | [_, _, _], _ => rfl
 have m3 := xad X G a3
 have F4 := zaN (st := zaX) l4 c4 k4
 have b4 := F4.binds (ps := ["_law_some"]) fun _ _ _ _ _ _ us hl => match us, hl with | [_], _ => rfl
 have m4 := xad X G a4
 have F5 := zaN (st := zb3) l5 c5 k5
 have b5 := F5.binds (ps := ["_law_one", "_law_other_here"]) fun _ _ _ _ _ _ us hl => match us, hl with | [_, _], _ => rfl
 have m5 := xad X G a5
 have F6 := zaN (st := zct) l6 c6 k6
 have b6 := F6.binds (ps := ["_law_one", "_law_other_here", "_law_pair_here"]) fun _ _ _ _ _ _ us hl => match us, hl with | [_, _, _], _ => rfl
 have m6 := xad X G a6
 have F7 := zaN (st := zcu) l7 c7 k7
 have b7 := F7.binds (ps := ["_law_one", "_law_other_here"]) fun _ _ _ _ _ _ us hl => match us, hl with | [_, _], _ => rfl
 have m7 := xad X G a7
 have F8 := zaN (st := zcv) l8 c8 k8
 have b8 := F8.binds (ps := ["_law_rows", "_law_place_here"]) fun _ _ _ _ _ _ us hl => match us, hl with | [_, _], _ => rfl
 have m8 := xad X G a8
 have F9 := zaN (st := zby) l9 c9 k9
 have b9 := F9.binds (ps := ["line"]) fun _ _ _ _ _ _ us hl => match us, hl with | [_], _ => rfl
 have m9 := xad X G a9
 have F10 := zaN (st := zdk) l10 c10 k10
 have b10 := F10.binds (ps := ["one", "other"]) fun _ _ _ _ _ _ us hl => match us, hl with | [_, _], _ => rfl
 have m10 := xad X G a10
 have F11 := zaN (st := zcw) l11 c11 k11
 have b11 := F11.binds (ps := ["top", "bottom"]) fun _ _ _ _ _ _ us hl => match us, hl with | [_, _], _ => rfl
 have m11 := xad X G a11
 have F12 := zaN (st := zcM) l12 c12 k12
 have b12 := F12.binds (ps := ["numbers"]) fun _ _ _ _ _ _ us hl => match us, hl with | [_], _ => rfl
 have m12 := xad X G a12
 have F13 := zaN (st := zfm) l13 c13 k13
 have b13 := F13.binds (ps := ["one", "other"]) fun _ _ _ _ _ _ us hl => match us, hl with | [_, _], _ => rfl
 have m13 := xad X G a13
 have F14 := zaN (st := zbq) l14 c14 k14
 have b14 := F14.binds (ps := ["one", "other"]) fun _ _ _ _ _ _ us hl => match us, hl with | [_, _], _ => rfl
 have m14 := xad X G a14
 have F15 := zaN (st := zdl) l15 c15 k15
 have b15 := F15.binds (ps := ["one", "other"]) fun _ _ _ _ _ _ us hl => match us, hl with | [_, _], _ => rfl
 have m15 := xad X G a15
 have F16 := zaN (st := zmU) l16 c16 k16
 have b16 := F16.binds (ps := ["one", "other"]) fun _ _ _ _ _ _ us hl => match us, hl with | [_, _], _ => rfl
 have m16 := xad X G a16
 have F17 := zaN (st := zhD) l17 c17 k17
 have b17 := F17.binds (ps := ["place", "line"]) fun _ _ _ _ _ _ us hl => match us, hl with | [_, _], _ => rfl
 have m17 := xad X G a17
 have F18 := zaN (st := zc6) l18 c18 k18
 have b18 := F18.binds (ps := ["places"]) fun _ _ _ _ _ _ us hl => match us, hl with | [_], _ => rfl
 have m18 := xad X G a18
 have F19 := zaN (st := zcx) l19 c19 k19
 have b19 := F19.binds (ps := ["thing"]) fun _ _ _ _ _ _ us hl => match us, hl with | [_], _ => rfl
 have m19 := xad X G a19
 have F20 := zaN (st := za9) l20 c20 k20
 have b20 := F20.binds (ps := ["three"]) fun _ _ _ _ _ _ us hl => match us, hl with | [_], _ => rfl
 have m20 := xad X G a20
 have F21 := zaN (st := zcy) l21 c21 k21
 have b21 := F21.binds (ps := ["thing"]) fun _ _ _ _ _ _ us hl => match us, hl with | [_], _ => rfl
 have m21 := xad X G a21
 have F22 := zaN (st := zbz) l22 c22 k22
 have b22 := F22.binds (ps := ["four"]) fun _ _ _ _ _ _ us hl => match us, hl with | [_], _ => rfl
 have m22 := xad X G a22
 have F23 := zaN (st := zfn) l23 c23 k23
 have b23 := F23.binds (ps := ["a", "b", "c", "d"]) fun _ _ _ _ _ _ us hl => match us, hl with | [_, _, _, _], _ => rfl
 have m23 := xad X G a23
 have F24 := zaN (st := zbG) l24 c24 k24
 have b24 := F24.binds (ps := ["_law_found"]) fun _ _ _ _ _ _ us hl => match us, hl with | [_], _ => rfl
 have m24 := xad X G a24
 have F25 := zaN (st := zbA) l25 c25 k25
 have b25 := F25.binds (ps := ["_law_places", "_law_due_here"]) fun _ _ _ _ _ _ us hl => match us, hl with | [_, _], _ => rfl
 have m25 := xad X G a25
 have F26 := zaN (st := zbH) l26 c26 k26
 have b26 := F26.binds (ps := ["_law_e"]) fun _ _ _ _ _ _ us hl => match us, hl with | [_], _ => rfl
 have m26 := xad X G a26
 have F27 := zaN (st := zbc) l27 c27 k27
 have b27 := F27.binds (ps := ["_law_places"]) fun _ _ _ _ _ _ us hl => match us, hl with | [_], _ => rfl
 have m27 := xad X G a27
 have F28 := zaN (st := za2) l28 c28 k28
 have b28 := F28.binds (ps := ["_law_top", "_law_bottom"]) fun _ _ _ _ _ _ us hl => match us, hl with | [_, _], _ => rfl
 have m28 := xad X G a28
 have F29 := zaN (st := zcz) l29 c29 k29
 have b29 := F29.binds (ps := ["_law_pairs"]) fun _ _ _ _ _ _ us hl => match us, hl with | [_], _ => rfl
 have m29 := xad X G a29
 have F30 := zaN (st := zbl) l30 c30 k30
 have b30 := F30.binds (ps := ["_law_places", "_law_pairs"]) fun _ _ _ _ _ _ us hl => match us, hl with | [_, _], _ => rfl
 have m30 := xad X G a30
 have F31 := zaN (st := zfo) l31 c31 k31
 have m31 := xad X G a31
 have n_max := xa8 X G z_max
 have n_range := xa8 X G z_range
 have n_abs := xa8 X G z_abs
 have n_min := xa8 X G z_min
 have n_len := xa8 X G z_len
 have n_all := xa8 X G z_all
 have n_isinstance := xa8 X G z_isinstance
 have n_int := xa8 X G z_int
 have n_bool := xa8 X G z_bool
 have n_tuple := xa8 X G z_tuple
 have n_set := xa8 X G z_set
 have n_sorted := xa8 X G z_sorted
 have n_ValueError := xa8 X G z_ValueError
 have c_ChalkError := xad X G e_ChalkError
 have c_NoPlace := xad X G e_NoPlace
 have c_Same := xad X G e_Same
 have c_NoFloor := xad X G e_NoFloor
 have c_Endless := xad X G e_Endless
 have c_NoDeed := xad X G e_NoDeed
 have c_NoText := xad X G e_NoText
 have c_NoName := xad X G e_NoName
 have c_TooMany := xad X G e_TooMany
 have c_NoChange := xad X G e_NoChange
 have c_NoFrame := xad X G e_NoFrame
 have c_NoValue := xad X G e_NoValue
 have c_Unlike := xad X G e_Unlike
 have c_NoRatio := xad X G e_NoRatio
 have c_NoBow := xad X G e_NoBow
 have c_NoRow := xad X G e_NoRow
 have x_NoRatio : znJ K mg "NoRatio" C_NoRatio := znJ.mk' c_NoRatio ⟨by (obtain ⟨_, hc, _⟩ := PySem.W.kw_along xga_NoRatio; rw [hc]; rfl), xga_NoRatio, xgh_NoRatio, xbs_NoRatio, xob_NoRatio, xca_NoRatio, xcg, xct⟩ xvv_NoRatio (zuw (zbe.of (b := true) c_ChalkError t_NoRatio_ChalkError (fun _ => u_NoRatio_ChalkError)) (zbe.of (b := false) c_NoPlace t_NoRatio_NoPlace (fun z => nomatch z)) (zbe.of (b := false) c_Same t_NoRatio_Same (fun z => nomatch z)) (zbe.of (b := false) c_NoFloor t_NoRatio_NoFloor (fun z => nomatch z)) (zbe.of (b := false) c_Endless t_NoRatio_Endless (fun z => nomatch z)) (zbe.of (b := false) c_NoDeed t_NoRatio_NoDeed (fun z => nomatch z)) (zbe.of (b := false) c_NoText t_NoRatio_NoText (fun z => nomatch z)) (zbe.of (b := false) c_NoName t_NoRatio_NoName (fun z => nomatch z)) (zbe.of (b := false) c_TooMany t_NoRatio_TooMany (fun z => nomatch z)) (zbe.of (b := false) c_NoChange t_NoRatio_NoChange (fun z => nomatch z)) (zbe.of (b := false) c_NoFrame t_NoRatio_NoFrame (fun z => nomatch z)) (zbe.of (b := false) c_NoValue t_NoRatio_NoValue (fun z => nomatch z)) (zbe.of (b := false) c_Unlike t_NoRatio_Unlike (fun z => nomatch z)) (zbe.of (b := true) c_NoRatio t_NoRatio_NoRatio (fun _ => u_NoRatio_NoRatio)) (zbe.of (b := false) c_NoBow t_NoRatio_NoBow (fun z => nomatch z)) (zbe.of (b := false) c_NoRow t_NoRatio_NoRow (fun z => nomatch z)))
 refine ⟨PySem.W.fnOf "law" "law" (zat zfo) (zaq zfo) (zae zfo) .none kV31 dc31 pm31 an31 cd31 ct31, fun s v => .of_eq rfl, fun base _ _ => ?_⟩
 have G0 : zax l.prog w K mg base 1 "_law_numbers" zaK := zgQ (k := 0) F0 m0 b0 n_max n_range
 have G1 : zax l.prog w K mg base 1 "_law_lowest" zao := zha (k := 0) F1 m1 b1 n_abs
 have G2 : zax l.prog w K mg base 2 "_law_place" zaB := zio (k := 1) F2 m2 b2 G1
 have G3 : zax l.prog w K mg base 1 "_law_det" zaP := zkz (k := 0) F3 m3 b3
 have G4 : zax l.prog w K mg base 2 "_law_change" za4 := zhb (k := 1) F4 m4 b4 n_range G3
 have G5 : zax l.prog w K mg base 1 "_law_pair" zb2 := zjW (k := 0) F5 m5 b5
 have G6 : zax l.prog w K mg base 2 "_law_sum" zbE := zkA (k := 1) F6 m6 b6 G1
 have G7 : zax l.prog w K mg base 1 "_law_dot" zca := zkB (k := 0) F7 m7 b7
 have G8 : zax l.prog w K mg base 2 "_law_led" zbD := zkC (k := 1) F8 m8 b8 G1 G7
 have G9 : zax l.prog w K mg base 1 "index_off" zbV := zjX (k := 0) F9 m9 b9 n_min n_range
 have G10 : zax l.prog w K mg base 1 "divisor" zbM := zmR (k := 0) F10 m10 b10 n_abs
 have G11 : zax l.prog w K mg base 2 "fraction" zcq := zkD (k := 1) F11 m11 b11 G10
 have G12 : zax l.prog w K mg base 2 "in_form" zbN := zmS (k := 1) F12 m12 b12 G10
 have G13 : zax l.prog w K mg base 1 "cross" zcH := zqr (k := 0) F13 m13 b13
 have G14 : zax l.prog w K mg base 3 "between_two" zaW := zhc (k := 2) F14 m14 b14 G12 (G13.mono (by decide : 1 <= 2))
 have G15 : zax l.prog w K mg base 4 "through" za3 := zmT (k := 3) F15 m15 b15 G14
 have G16 : zax l.prog w K mg base 1 "dot" zmJ := zu8 (k := 0) F16 m16 b16
 have G17 : zax l.prog w K mg base 2 "lies" zdf := zs2 (k := 1) F17 m17 b17 G16
 have G18 : zax l.prog w K mg base 5 "on_one" zbU := zpf (k := 4) F18 m18 b18 n_len n_all G15 (G17.mono (by decide : 2 <= 4))
 have G19 : zax l.prog w K mg base 1 "is_whole" zcp := zkE (k := 0) F19 m19 b19 n_isinstance n_int n_bool
 have G20 : zax l.prog w K mg base 2 "makes_place" zbm := zhd (k := 1) F20 m20 b20 n_all G19
 have G21 : zax l.prog w K mg base 3 "is_place" zbT := zkF (k := 2) F21 m21 b21 n_isinstance n_tuple n_len G20 G12
 have G22 : zax l.prog w K mg base 6 "has_ratio" zbW := zjZ (k := 5) F22 m22 b22 n_all n_len n_set (G21.mono (by decide : 3 <= 5)) G18
 have G23 : zax l.prog w K mg base 7 "ratio" zcd := zqs (k := 6) F23 m23 b23 c_NoRatio y_NoRatio x_NoRatio n_sorted n_set G22 (G9.mono (by decide : 1 <= 6)) (G15.mono (by decide : 4 <= 6)) (G13.mono (by decide : 1 <= 6)) (G11.mono (by decide : 2 <= 6))
 have G24 : zax l.prog w K mg base 1 "_law_whole" zbX := ziq (k := 0) F24 m24 b24 n_isinstance n_int n_bool
 have G25 : zax l.prog w K mg base 8 "_law_told" zb1 := zj0 (k := 7) F25 m25 b25 n_isinstance n_tuple n_len G23 (G24.mono (by decide : 1 <= 7))
 have G26 : zax l.prog w K mg base 1 "_law_other" zb0 := zir (k := 0) F26 m26 b26 c_NoFloor c_NoDeed c_NoChange c_NoBow c_Endless c_NoRow c_NoPlace c_NoName c_NoFrame c_Unlike c_TooMany c_Same c_NoValue c_NoText n_isinstance
 have G27 : zax l.prog w K mg base 8 "_law_refused" zaQ := zgY (k := 7) F27 m27 b27 c_ChalkError c_NoRatio n_isinstance n_ValueError G23 (G26.mono (by decide : 1 <= 7))
 have G28 : zax l.prog w K mg base 1 "_law_fraction" zaZ := zfU (k := 0) F28 m28 b28 n_abs
 have G29 : zax l.prog w K mg base 2 "_law_due" zbk := zkG (k := 1) F29 m29 b29 G28
 have G30 : zax l.prog w K mg base 9 "_law_right" zaH := zis (k := 8) F30 m30 b30 n_len (G3.mono (by decide : 1 <= 8)) G27 G25 (G29.mono (by decide : 2 <= 8))
 exact zux (zu9 (P := l.prog) (w := w) (base := base) (k := 9) F31 n_range (G0.mono (by decide : 1 <= 9)) (G2.mono (by decide : 2 <= 9)) (G1.mono (by decide : 1 <= 9)) (G5.mono (by decide : 1 <= 9)) (G6.mono (by decide : 2 <= 9)) (G3.mono (by decide : 1 <= 9)) (G4.mono (by decide : 2 <= 9)) (G8.mono (by decide : 2 <= 9)) G30) hlaw
end Kx
def PySem.W.Fast.tw14212329482165902658 := 0
def PySem.W.Fast.tw16942768397124476773 := 0
def PySem.W.Fast.tw11580008626872945894 := 0
def PySem.W.Fast.tw14091123416796897542 := 0
def PySem.W.Fast.tw17428235022549266407 := 0
def PySem.W.Fast.tw3958835499442876391 := 0
def PySem.W.Fast.tw16259701221625251272 := 0
def PySem.W.Fast.tw577951909228889544 := 0
def PySem.W.Fast.tw16071854705226951433 := 0
def PySem.W.Fast.tw14901699713891966602 := 0
def PySem.W.Fast.tw3240816381359146027 := 0
def PySem.W.Fast.tw8005628819227337835 := 0
def PySem.W.Fast.tw2495584871766328299 := 0
def PySem.W.Fast.tw14904236373288649996 := 0
def PySem.W.Fast.tw15166756659141430477 := 0
def PySem.W.Fast.tw15513777483002728045 := 0
def PySem.W.Fast.tw10595040727557510093 := 0
def PySem.W.Fast.tw16639337758066813933 := 0
def PySem.W.Fast.tw3596219250629350926 := 0
def PySem.W.Fast.tw8095619121750152303 := 0
def PySem.W.Fast.tw13460777670118458319 := 0
def PySem.W.Fast.tw18246038746041534415 := 0
def PySem.W.Fast.tw2039518102691569456 := 0
def PySem.W.Fast.tw15230921408741854513 := 0
def PySem.W.Fast.tw8690344648955464625 := 0
def PySem.W.Fast.tw10657352174959649554 := 0
def PySem.W.Fast.tw8042753271155437490 := 0
def PySem.W.Fast.tw4963606804371220819 := 0
def PySem.W.Fast.tw14143333138231799350 := 0
def PySem.W.Fast.tw4716704523052159671 := 0
def PySem.W.Fast.tw6787804922186409751 := 0
def PySem.W.Fast.tw4211827874791012215 := 0
def PySem.W.Fast.tw15599167114292684952 := 0
def PySem.W.Fast.tw16072421982612208888 := 0
def PySem.W.Fast.tw7353580763926951480 := 0
def PySem.W.Fast.tw11419430371536969368 := 0
def PySem.W.Fast.tw17111180937497458713 := 0
def PySem.W.Fast.tw10029647892263611193 := 0
def PySem.W.Fast.tw17562408410379533786 := 0
def PySem.W.Fast.tw3629099017882138876 := 0
def PySem.W.Fast.tw5555884920967004956 := 0
def PySem.W.Fast.tw12498085064122118942 := 0
def PySem.W.Fast.tw4108243548003492831 := 0
open PySem.W PyProof.Rows
set_option maxRecDepth 100000 in
set_option maxHeartbeats 0 in
theorem PySem.Challenge.cw_chalkline_k75_ratios_holds : PySem.Challenge.rw_chalkline_k75_ratios.Holds := by
 w_on; o_law; k_head; (case hw => w_witness2)
 k_fill
 refine DL.walkD (l := PySem.Challenge.rw_chalkline_k75_ratios) 10 ⟨rfl, by decide, by decide⟩ rfl rfl (fun w h Y => PySem.W.kIn_of Y) ?F
 case F =>
  intro w mg fa h KX G hmg
  refine' Kx.all_mk KX G hmg ?a0 ?l0 ?c0 ?k0 ?a1 ?l1 ?c1 ?k1 ?a2 ?l2 ?c2 ?k2 ?a3 ?l3 ?c3 ?k3 ?a4 ?l4 ?c4 ?k4 ?a5 ?l5 ?c5 ?k5 ?a6 ?l6 ?c6 ?k6 ?a7 ?l7 ?c7 ?k7 ?a8 ?l8 ?c8 ?k8 ?a9 ?l9 ?c9 ?k9 ?a10 ?l10 ?c10 ?k10 ?a11 ?l11 ?c11 ?k11 ?a12 ?l12 ?c12 ?k12 ?a13 ?l13 ?c13 ?k13 ?a14 ?l14 ?c14 ?k14 ?a15 ?l15 ?c15 ?k15 ?a16 ?l16 ?c16 ?k16 ?a17 ?l17 ?c17 ?k17 ?a18 ?l18 ?c18 ?k18 ?a19 ?l19 ?c19 ?k19 ?a20 ?l20 ?c20 ?k20 ?a21 ?l21 ?c21 ?k21 ?a22 ?l22 ?c22 ?k22 ?a23 ?l23 ?c23 ?k23 ?a24 ?l24 ?c24 ?k24 ?a25 ?l25 ?c25 ?k25 ?a26 ?l26 ?c26 ?k26 ?a27 ?l27 ?c27 ?k27 ?a28 ?l28 ?c28 ?k28 ?a29 ?l29 ?c29 ?k29 ?a30 ?l30 ?c30 ?k30 ?a31 ?l31 ?c31 ?k31 ?z_max ?z_range ?z_abs ?z_min ?z_len ?z_all ?z_isinstance ?z_int ?z_bool ?z_tuple ?z_set ?z_sorted ?z_ValueError ?e_ChalkError ?e_NoPlace ?e_Same ?e_NoFloor ?e_Endless ?e_NoDeed ?e_NoText ?e_NoName ?e_TooMany ?e_NoChange ?e_NoFrame ?e_NoValue ?e_Unlike ?e_NoRatio ?e_NoBow ?e_NoRow ?y_NoRatio ?xga_NoRatio ?xgh_NoRatio ?xbs_NoRatio ?xob_NoRatio ?xca_NoRatio ?xvv_NoRatio ?t_NoRatio_ChalkError ?u_NoRatio_ChalkError ?t_NoRatio_NoPlace ?t_NoRatio_Same ?t_NoRatio_NoFloor ?t_NoRatio_Endless ?t_NoRatio_NoDeed ?t_NoRatio_NoText ?t_NoRatio_NoName ?t_NoRatio_TooMany ?t_NoRatio_NoChange ?t_NoRatio_NoFrame ?t_NoRatio_NoValue ?t_NoRatio_Unlike ?t_NoRatio_NoRatio ?u_NoRatio_NoRatio ?t_NoRatio_NoBow ?t_NoRatio_NoRow ?xcg ?xct ?hlaw
  (case a0 => k_is)
  (case l0 => k_is)
  (case c0 => k_is)
  (case k0 => k_is)
  (case a1 => k_is)
  (case l1 => k_is)
  (case c1 => k_is)
  (case k1 => k_is)
  (case a2 => k_is)
  (case l2 => k_is)
  (case c2 => k_is)
  (case k2 => k_is)
  (case a3 => k_is)
  (case l3 => k_is)
  (case c3 => k_is)
  (case k3 => k_is)
  (case a4 => k_is)
  (case l4 => k_is)
  (case c4 => k_is)
  (case k4 => k_is)
  (case a5 => k_is)
  (case l5 => k_is)
  (case c5 => k_is)
  (case k5 => k_is)
  (case a6 => k_is)
  (case l6 => k_is)
  (case c6 => k_is)
  (case k6 => k_is)
  (case a7 => k_is)
  (case l7 => k_is)
  (case c7 => k_is)
  (case k7 => k_is)
  (case a8 => k_is)
  (case l8 => k_is)
  (case c8 => k_is)
  (case k8 => k_is)
  (case a9 => k_is)
  (case l9 => k_is)
  (case c9 => k_is)
  (case k9 => k_is)
  (case a10 => k_is)
  (case l10 => k_is)
  (case c10 => k_is)
  (case k10 => k_is)
  (case a11 => k_is)
  (case l11 => k_is)
  (case c11 => k_is)
  (case k11 => k_is)
  (case a12 => k_is)
  (case l12 => k_is)
  (case c12 => k_is)
  (case k12 => k_is)
  (case a13 => k_is)
  (case l13 => k_is)
  (case c13 => k_is)
  (case k13 => k_is)
  (case a14 => k_is)
  (case l14 => k_is)
  (case c14 => k_is)
  (case k14 => k_is)
  (case a15 => k_is)
  (case l15 => k_is)
  (case c15 => k_is)
  (case k15 => k_is)
  (case a16 => k_is)
  (case l16 => k_is)
  (case c16 => k_is)
  (case k16 => k_is)
  (case a17 => k_is)
  (case l17 => k_is)
  (case c17 => k_is)
  (case k17 => k_is)
  (case a18 => k_is)
  (case l18 => k_is)
  (case c18 => k_is)
  (case k18 => k_is)
  (case a19 => k_is)
  (case l19 => k_is)
  (case c19 => k_is)
  (case k19 => k_is)
  (case a20 => k_is)
  (case l20 => k_is)
  (case c20 => k_is)
  (case k20 => k_is)
  (case a21 => k_is)
  (case l21 => k_is)
  (case c21 => k_is)
  (case k21 => k_is)
  (case a22 => k_is)
  (case l22 => k_is)
  (case c22 => k_is)
  (case k22 => k_is)
  (case a23 => k_is)
  (case l23 => k_is)
  (case c23 => k_is)
  (case k23 => k_is)
  (case a24 => k_is)
  (case l24 => k_is)
  (case c24 => k_is)
  (case k24 => k_is)
  (case a25 => k_is)
  (case l25 => k_is)
  (case c25 => k_is)
  (case k25 => k_is)
  (case a26 => k_is)
  (case l26 => k_is)
  (case c26 => k_is)
  (case k26 => k_is)
  (case a27 => k_is)
  (case l27 => k_is)
  (case c27 => k_is)
  (case k27 => k_is)
  (case a28 => k_is)
  (case l28 => k_is)
  (case c28 => k_is)
  (case k28 => k_is)
  (case a29 => k_is)
  (case l29 => k_is)
  (case c29 => k_is)
  (case k29 => k_is)
  (case a30 => k_is)
  (case l30 => k_is)
  (case c30 => k_is)
  (case k30 => k_is)
  (case a31 => k_is)
  (case l31 => k_is)
  (case c31 => k_is)
  (case k31 => k_is)
  (case z_max => k_is)
  (case z_range => k_is)
  (case z_abs => k_is)
  (case z_min => k_is)
  (case z_len => k_is)
  (case z_all => k_is)
  (case z_isinstance => k_is)
  (case z_int => k_is)
  (case z_bool => k_is)
  (case z_tuple => k_is)
  (case z_set => k_is)
  (case z_sorted => k_is)
  (case z_ValueError => k_is)
  (case e_ChalkError => k_is)
  (case e_NoPlace => k_is)
  (case e_Same => k_is)
  (case e_NoFloor => k_is)
  (case e_Endless => k_is)
  (case e_NoDeed => k_is)
  (case e_NoText => k_is)
  (case e_NoName => k_is)
  (case e_TooMany => k_is)
  (case e_NoChange => k_is)
  (case e_NoFrame => k_is)
  (case e_NoValue => k_is)
  (case e_Unlike => k_is)
  (case e_NoRatio => k_is)
  (case e_NoBow => k_is)
  (case e_NoRow => k_is)
  (case y_NoRatio => k_exc)
  (case xga_NoRatio => k_is)
  (case xgh_NoRatio => k_is)
  (case xbs_NoRatio => k_is)
  (case xob_NoRatio => k_is)
  (case xca_NoRatio => k_is)
  (case xvv_NoRatio => kit_is)
  (case t_NoRatio_ChalkError => kit_is)
  (case u_NoRatio_ChalkError => kts_exm)
  (case t_NoRatio_NoPlace => kit_is)
  (case t_NoRatio_Same => kit_is)
  (case t_NoRatio_NoFloor => kit_is)
  (case t_NoRatio_Endless => kit_is)
  (case t_NoRatio_NoDeed => kit_is)
  (case t_NoRatio_NoText => kit_is)
  (case t_NoRatio_NoName => kit_is)
  (case t_NoRatio_TooMany => kit_is)
  (case t_NoRatio_NoChange => kit_is)
  (case t_NoRatio_NoFrame => kit_is)
  (case t_NoRatio_NoValue => kit_is)
  (case t_NoRatio_Unlike => kit_is)
  (case t_NoRatio_NoRatio => kit_is)
  (case u_NoRatio_NoRatio => kts_exm)
  (case t_NoRatio_NoBow => kit_is)
  (case t_NoRatio_NoRow => kit_is)
  (case xcg => k_is)
  (case xct => k_is)
  (case hlaw => exact Lk75.law_ok)
end