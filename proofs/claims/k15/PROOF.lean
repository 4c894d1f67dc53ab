import PyProof.Rows.All
import Wide.All
import OpenK.AllK
import Wide.FinOn
import Lean
import PyProof.EqAt
import PyProof.EqKinds
import PyProof.TupleCall
import PyProof.NeKinds
import KE.KTryMore
import PyProof.NsDelKeeps
import PySem.SetTable
import PyProof.StrLawsChain
import PyProof.StrBlockL
import KE.KIntText
import PyProof.DictTable
import PyProof.SliceStr2
import PyProof.MeetsStr
import PyProof.StrWalks
import PyProof.TupleKey
import PyProof.SetKind
import PyProof.Rows.SetFrom
import PyProof.ZipIter
import PyProof.Rows.ZipGen
import PyProof.LayNew
import PyProof.ExcInit
import PyProof.ExcClass3
import PyProof.EnumFor
import PyProof.EnumMake
import PyProof.EnumStmt
import PyProof.Rows.StrNews
import KE.KDictSum
import KE.KSortTup
import PyProof.DictWalks
import PyProof.DictRoadsH
import PyProof.DictKeyH
import PySem.Challenge.RW_chalkline_k15_whole_new_places_or_none
set_option Elab.async false
set_option linter.all false
set_option maxRecDepth 100000
set_option maxHeartbeats 1000000
section
open PySem PyProof.Rows
abbrev xFg := PySem.W.Frag
abbrev xaa := @Heap.get?_push_of_some
abbrev xab := @List.mem_cons_self
abbrev xad := @List.mem_cons_of_mem
abbrev xae := @List.length_map
abbrev xaf := @Heap.lt_size
abbrev xag := @List.size_toArray
abbrev xah := @List.getElem?_eq_some_iff
abbrev xai := @Nat.le_refl
abbrev xaj := @Array.length_toList
abbrev xak := @List.mem_cons
abbrev xal := @Heap.get?_push_size
abbrev xam := @List.length_cons
abbrev xan := @Prod.ext
abbrev xao := @PySem.W.mg_none_of
abbrev xap := @List.getElem?_eq_getElem
abbrev xaq := @Nat.lt_of_lt_of_le
abbrev xar := @Classical.byContradiction
abbrev xas := @Array.getElem?_toList
abbrev xat := @Nat.ne_of_lt
abbrev xau := @List.getElem?_set_ne
abbrev xav := @List.mem_map
abbrev xaw := @Bool.false_ne_true
abbrev xax := @Bool.and_eq_true
abbrev xay := @List.all_eq_true
abbrev xaz := @List.mem_range
abbrev xa0 := @List.map_cons
abbrev xa1 := @Array.getElem?_eq_getElem
abbrev xa2 := @Array.getD_eq_getD_getElem?
abbrev xa3 := @Array.getElem?_eq_some_iff
abbrev xa4 := @Nat.le_trans
abbrev xa5 := @List.exists_of_findSome?_eq_some
abbrev xa6 := @List.getElem?_map
abbrev xa7 := @List.getElem?_set_self
abbrev xa8 := @List.filterMap_cons_some
abbrev xa9 := @List.mem_singleton
abbrev xba := @Ne.symm
abbrev xbb := @List.mem_append_right
abbrev xbc := @List.length_append
abbrev xbd := @Int.mul_eq_zero
abbrev xbe := @List.getElem_of_mem
abbrev xbf := @List.not_mem_nil
abbrev xbg := @List.mem_reverse
abbrev xbh := @List.nodup_cons
abbrev xbi := @Option.isSome_iff_exists
abbrev xbj := @List.length_take
abbrev xbk := @Nat.zero_add
abbrev xbl := @List.filterMap_cons_none
abbrev xbm := @List.mem_filter
abbrev xbn := @List.mem_of_getElem?
abbrev xbo := @Bool.false_eq_true
abbrev xbp := @Heap.get?_update_other
abbrev xbq := @Heap.size_push
abbrev xbr := @List.mem_append
abbrev xbt := @List.pairwise_cons
abbrev xbu := @Nat.lt_irrefl
abbrev xbv := @List.getD_eq_getElem?_getD
abbrev xbw := @List.findSome?_eq_none_iff
abbrev xbx := @List.eraseIdx
abbrev xby := @List.mem_filterMap
abbrev xbz := @List.getElem_mem
abbrev xb0 := @Nat.zero_le
abbrev xb1 := @List.map_map
abbrev xb2 := @Heap.get?_update_self
abbrev xb3 := @Nat.lt_of_le_of_lt
abbrev xb4 := @List.drop_eq_getElem_cons
abbrev xb5 := @List.foldl_cons
abbrev xb6 := @Int.toNat_natCast
abbrev xb7 := @List.getElem?_range
abbrev xb8 := @List.lookup_cons
abbrev xb9 := @Array.toList_filterMap
abbrev xcb := @List.getElem?_toArray
abbrev xcc := @PySem.W.mg_of
abbrev xcd := @List.flatMap_cons
abbrev xce := @List.getElem?_append_left
abbrev xcf := @List.pairwise_iff_getElem
abbrev xch := @List.getElem?_eq_none_iff
abbrev xci := @Nat.ne_of_gt
abbrev xcj := @List.filterMap_cons
abbrev xck := @List.map_congr_left
abbrev xcl := @List.eraseIdx_eq_take_drop_succ
abbrev xcm := @Bool.eq_iff_iff
abbrev xcn := @List.map_append
abbrev xco := @List.mem_eraseIdx_iff_getElem?
abbrev xcp := @Array.getElem?_eq_none
abbrev xcq := @List.reverse_cons
abbrev xcr := @Int.natAbs_mul
abbrev xcs := @List.length_drop
abbrev xcu := @Nat.lt_succ_self
abbrev xcv := @Nat.mod_lt
abbrev xcw := @Bool.and_eq_true_iff
abbrev xcx := @Int.fdiv_eq_ediv_of_nonneg
abbrev xcy := @List.getElem?_append_right
abbrev xcz := @List.toList_toArray
abbrev xc0 := @List.length_reverse
abbrev xc1 := @Heap.get?_update_ne
abbrev xc2 := @List.findSome?_cons
abbrev xc3 := @List.append_nil
abbrev xc4 := @List.of_mem_zip
abbrev xc5 := @Int.eq_of_mul_eq_mul_left
abbrev xc6 := @List.length_nil
abbrev xc7 := @Nat.le_of_lt
abbrev xc8 := @Int.natAbs_natCast
abbrev xc9 := @List.length_erase_of_mem
abbrev xda := @List.mem_of_mem_eraseIdx
abbrev xdb := @Bool.not_false
abbrev xdc := @List.getElem?_replicate
abbrev xdd := @Nat.eq_zero_of_zero_dvd
abbrev xde := @List.getElem?_cons_succ
abbrev xdf := @List.ext_getElem?
abbrev xdg := @Nat.lt_succ_of_lt
abbrev xdh := @Heap.get?_push_at
abbrev xdi := @List.length_pos_of_mem
abbrev xdj := @Option.map_eq_some_iff
abbrev xdk := @Bool.not_true
abbrev xdl := @Nat.gcd_dvd_left
abbrev xdm := @Nat.le_add_right
abbrev xdn := @List.length_replicate
abbrev xdo := @Int.natAbs_dvd_natAbs
abbrev xdp := @List.take_append_drop
abbrev xdq := @List.contains_iff_mem
abbrev xdr := @List.eraseIdx_sublist
abbrev xds := @List.map_nil
abbrev xdt := @List.mem_erase_of_ne
abbrev xdu := @Array.getElem_toList
abbrev xdv := @List.length_zip
abbrev xdw := @Array.toList_filter
abbrev xdx := @List.mem_map_of_mem
end
open PySem
section
namespace L2
open PySem.Spec PyProof.Rows
abbrev Key := Sum Int Str
def ztP : Key -> Value -> Bool
 | .inl k, v => Value.isInt k v
 | .inr x, v => Value.isStrOf x v
def keyH (w : World) : Key -> Int
 | .inl k => hashInt k
 | .inr x => hashStr w x
theorem zaH : ∀ {k : Key} {v : Value}, ztP k v = true -> (∃ i t, k = Sum.inl i /\ v = Value.int i t) \/ (∃ x t, k = Sum.inr x /\ v = Value.str x t)
 | .inl i, v, h => by
  obtain ⟨t, e⟩ := Value.isInt_shape (k := i) (v := v) h
  exact .inl ⟨i, t, rfl, e⟩
 | .inr x, v, h => by
  obtain ⟨t, e⟩ := Value.isStrOf_shape (x := x) (v := v) h
  exact .inr ⟨x, t, rfl, e⟩
theorem ztQ (a b : Int) : decide ((Sum.inl a : Key) = Sum.inl b) = (a == b) := by
 by_cases e : a = b
 ·subst e; simp
 ·have h : ¬ (Sum.inl a : Key) = Sum.inl b := fun q => e (Sum.inl.inj q)
  rw [decide_eq_false h]
  exact (beq_eq_false_iff_ne.mpr e).symm
theorem ztR (a b : Str) : decide ((Sum.inr a : Key) = Sum.inr b) = decide (a = b) := by
 by_cases e : a = b
 ·subst e; simp
 ·have h : ¬ (Sum.inr a : Key) = Sum.inr b := fun q => e (Sum.inr.inj q)
  rw [decide_eq_false h, decide_eq_false e]
theorem ztS (a : Int) (b : Str) : decide ((Sum.inl a : Key) = Sum.inr b) = false := decide_eq_false (fun q => nomatch q)
theorem ztT (a : Str) (b : Int) : decide ((Sum.inr a : Key) = Sum.inl b) = false := decide_eq_false (fun q => nomatch q)
def zmk (prog : Program) (w : World) : PySem.KeyKind prog w Key where
 is := ztP
 hash := keyH w
 inj := fun v a b ha hb => by
  rcases zaH ha with ⟨i, t, rfl, rfl⟩ | ⟨x, t, rfl, rfl⟩
  ·rcases zaH hb with ⟨j, u, rfl, e⟩ | ⟨y, u, rfl, e⟩
   ·injection e with e1 _; rw [e1]
   ·exact nomatch e
  ·rcases zaH hb with ⟨j, u, rfl, e⟩ | ⟨y, u, rfl, e⟩
   ·exact nomatch e
   ·injection e with e1 _; rw [e1]
 byValue := fun k v h => by
  rcases zaH h with ⟨i, t, rfl, rfl⟩ | ⟨x, t, rfl, rfl⟩ <;> rfl
 pyHash := fun hv h => by
  rcases zaH hv with ⟨i, t, rfl, rfl⟩ | ⟨x, t, rfl, rfl⟩
  ·exact wpAny_pyHash_int h
  ·exact wpAny_pyHash_str h
 eqBool := fun hu hv h => by
  rcases zaH hu with ⟨i, t, rfl, rfl⟩ | ⟨x, t, rfl, rfl⟩
  ·rcases zaH hv with ⟨j, u, rfl, rfl⟩ | ⟨y, u, rfl, rfl⟩
   ·rw [ztQ] at h; exact wpAny_eqBool_int h
   ·rw [ztS] at h; exact SeqAt.EqAt.int_str i t y u _ _ _ _ h
  ·rcases zaH hv with ⟨j, u, rfl, rfl⟩ | ⟨y, u, rfl, rfl⟩
   ·rw [ztT] at h; exact SeqAt.EqAt.str_int x t j u _ _ _ _ h
   ·rw [ztR] at h; exact wpAny_eqBool_str h
 «strs» := fun k x t v h => by
  rcases zaH h with ⟨i, u, rfl, e⟩ | ⟨y, u, rfl, e⟩
  ·exact nomatch e
  ·injection e with e1 _
   subst e1
   cases v <;> rfl
end L2
namespace L2
open PySem.Spec PyProof.Rows
inductive V where
 | non | bl (b : Bool) | int (i : Int) | str (x : Str) | byt (b : Array UInt8) | flt (b : UInt64) | ref (a : Addr) | ty (n : String)
 deriving DecidableEq
def RelV : V -> Value -> Prop
 | .non, u => u = Value.none
 | .bl b, u => u = Value.bool b
 | .int i, u => ∃ t, u = Value.int i t
 | .str x, u => ∃ t, u = Value.str x t
 | .byt b, u => ∃ t, u = Value.bytes b t
 | .flt b, u => ∃ t, u = Value.float b t
 | .ref a, u => u = Value.ref a
 | .ty n, u => u = Value.type n
abbrev zaP : List V -> List Value -> Prop := Paired RelV
theorem zaP.length {xs : List V} {us : List Value} (r : zaP xs us) : xs.length = us.length := Paired.length r
theorem zaP.get : ∀ {xs : List V} {us : List Value} {i : Nat} {x : V}, zaP xs us -> xs[i]? = some x -> ∃ u, us[i]? = some u /\ RelV x u
 | _, _, _, _, .nil, e => by simp at e
 | _, _, 0, _, .cons r _, e => by simp at e; subst e; exact ⟨_, rfl, r⟩
 | _, _, i + 1, x, .cons _ t, e => by
  obtain ⟨u, h1, h2⟩ := zaP.get (i := i) (x := x) t (by simpa using e)
  exact ⟨u, by simpa using h1, h2⟩
theorem zaP.set {x : V} {u : Value} (r : RelV x u) : ∀ {xs : List V} {us : List Value} (i : Nat), zaP xs us -> zaP (xs.set i x) (us.set i u)
 | _, _, _, .nil => .nil
 | _, _, 0, .cons _ t => .cons r t
 | _, _, i + 1, .cons q t => .cons q (zaP.set r i t)
theorem zaP.append : ∀ {xs ys : List V} {us ws : List Value}, zaP xs us -> zaP ys ws -> zaP (xs ++ ys) (us ++ ws)
 | _, _, _, _, .nil, s => s
 | _, _, _, _, .cons r t, s => .cons r (zaP.append t s)
theorem zaP.take : ∀ {xs : List V} {us : List Value} (n : Nat), zaP xs us -> zaP (xs.take n) (us.take n)
 | _, _, 0, _ => .nil
 | _, _, _ + 1, .nil => .nil
 | _, _, n + 1, .cons r t => .cons r (zaP.take n t)
theorem zaP.drop : ∀ {xs : List V} {us : List Value} (n : Nat), zaP xs us -> zaP (xs.drop n) (us.drop n)
 | _, _, 0, r => r
 | _, _, _ + 1, .nil => .nil
 | _, _, n + 1, .cons _ t => zaP.drop n t
def RelO : Option V -> Option Value -> Prop
 | some v, some u => RelV v u
 | none, none => True
 | _, _ => False
def KV {κ : Type} : List (κ × V) -> List (κ × Value) -> Prop := Paired fun (p : κ × V) (q : κ × Value) => p.1 = q.1 /\ RelV p.2 q.2
def kV : Key -> V
 | .inl i => .int i
 | .inr x => .str x
inductive HO where
 | lst (xs : List V)
 | tup (xs : List V)
 | dK (kvs : List (Key × V)) | dT (kvs : List (List Key × V))
 | set (S : Int -> Bool) (n : Nat)
 | ins (C dx : Addr) (fs : List (Str × V))
 | own (x : Addr)
 | xd (fs : List (Str × V))
 | met (f x : Addr)
 | rng (lo hi : Int)
 | frz (o : Obj) (u : HO)
 | tbl (ps : Array Value)
 | ext (φ : Heap -> Prop)
abbrev Hp := Addr -> Option HO
def upd (H : Hp) (a : Addr) (o : HO) : Hp := fun b => if b = a then some o else H b
theorem zae {H : Hp} {a : Addr} {o : HO} : upd H a o a = some o := by unfold upd; rw [if_pos rfl]
theorem zah {H : Hp} {a b : Addr} {o : HO} (h : b ≠ a) : upd H a o b = H b := by unfold upd; rw [if_neg h]
theorem zad {H : Hp} {a b : Addr} {o : HO} (h : H a = some o) (h' : H b = none) : a ≠ b := by
 intro e; subst e; rw [h] at h'; cases h'
section
variable (P : Program) (w : World)
def zbv (H : Hp) (h : Heap) (a : Addr) : HO -> Prop
 | .lst xs => xs.length <= sizeLine /\ ∃ (its : List Value) (n : Nat), zaP xs its /\ h.get? a = some { cls := .type "list", data := .seq its.toArray n }
 | .tup xs => xs.length <= sizeLine /\ ∃ its : List Value, zaP xs its /\ IsTup h a its.toArray
 | .dK kvs => kvs.length <= sizeLine /\ (a == sysModules) = false /\ ∃ vs, KV kvs vs /\ h.DictOf (zmk P w) a vs
 | .dT kvs => kvs.length <= sizeLine /\ (a == sysModules) = false /\ ∃ xs : List (List Key × Addr × Value),
   Paired (fun (p : List Key × V) (q : List Key × Addr × Value) => p.1 = q.1 /\ H q.2.1 = some (.tup (p.1.map kV)) /\ RelV p.2 q.2.2) kvs xs /\
   ∃ o es ep, h.get? a = some o /\ o.ExactDict /\ o.data = .dict es ep /\ es.toList = xs.map (entryOfKey (tupleKind (zmk P w))) /\ (xs.map (·.1)).Nodup
 | .set S n => h.SetOf (intKind P w) a S n
 | .ins C dx fs => H dx = some (.own a) /\ fs.length <= 1000 /\ dx ≠ a /\ h.get? a = some (PySem.W.instObj C dx) /\
   ∃ mA, h.Ns1 dx mA /\ (∀ f, RelO (fs.lookup f) (mA f)) /\ PySem.Within mA (fs.map (·.1))
 | .own _ => ∃ o, h.get? a = some o
 | .xd fs => ∃ mA, h.Ns1 a mA /\ ∀ f, RelO (fs.lookup f) (mA f)
 | .rng lo hi => ∃ t u v, h.get? a = some { cls := .type "range", data := .fields #[.int lo t, .int hi u, .int 1 v] }
 | .frz o u => h.get? a = some o /\ zbv H h a u
 | .tbl ps => h.get? a = some { cls := .none, data := .fields ps }
 | .met f x => h.get? a = some (PySem.W.methodObj (.ref f) (.ref x))
 | .ext φ => φ h /\ (∃ o, h.get? a = some o) /\ ∀ h1 h2 : Heap, φ h1 -> (∀ o, h1.get? a = some o -> h2.get? a = some o) -> φ h2
def HOk (H : Hp) (h : Heap) : Prop := ∀ a o, H a = some o -> zbv P w H h a o
end
section
variable {P : Program} {w : World} {H H' : Hp} {h h' : Heap} {a : Addr} {o : HO}
theorem zbv.lt (x : zbv P w H h a o) : a < h.objs.size := by
 cases o with
 | lst xs => obtain ⟨_, _, _, _, e⟩ := x; exact xaf e
 | tup xs => obtain ⟨_, _, _, p⟩ := x; exact p.lt
 | dK kvs => obtain ⟨_, _, _, _, o, _, _, e, _⟩ := x; exact xaf e
 | dT kvs => obtain ⟨_, _, _, _, o, _, _, e, _⟩ := x; exact xaf e
 | set S n => obtain ⟨o, _, _, _, e, _⟩ := x; exact xaf e
 | ins C dx fs => obtain ⟨_, _, _, e, _⟩ := x; exact xaf e
 | own y => obtain ⟨_, e⟩ := x; exact xaf e
 | xd fs => obtain ⟨_, ⟨_, _, _, e, _⟩, _⟩ := x; exact xaf e
 | rng lo hi => obtain ⟨_, _, _, e⟩ := x; exact xaf e
 | frz ob u => obtain ⟨e, _⟩ := x; exact xaf e
 | tbl ps => exact xaf (show h.get? a = some _ from x)
 | met f y => exact xaf (show h.get? a = some _ from x)
 | ext φ => obtain ⟨_, ⟨_, e⟩, _⟩ := x; exact xaf e
theorem Paired.mapP {α β : Type} {F G : α -> β -> Prop} : ∀ {l₁ : List α} {l₂ : List β}, Paired F l₁ l₂ -> (∀ a b, F a b -> G a b) -> Paired G l₁ l₂
 | _, _, .nil, _ => .nil
 | _, _, .cons r t, f => .cons (f _ _ r) (Paired.mapP t f)
theorem zbv.stay (x : zbv P w H h a o) (k : ∀ b u, (b = a \/ H b = some (.own a)) -> h.get? b = some u -> h'.get? b = some u)
  (ho : ∀ b, H b = some (.own a) -> H' b = some (.own a)) (ht : ∀ b xs, H b = some (.tup xs) -> H' b = some (.tup xs)) : zbv P w H' h' a o := by
 induction o with
 | lst xs => obtain ⟨z, its, n, r, e⟩ := x; exact ⟨z, its, n, r, k _ _ (.inl rfl) e⟩
 | tup xs => obtain ⟨z, its, r, ob, e, c⟩ := x; exact ⟨z, its, r, ob, k _ _ (.inl rfl) e, c⟩
 | dK kvs => obtain ⟨z, y, vs, r, ob, es, ep, e, c⟩ := x; exact ⟨z, y, vs, r, ob, es, ep, k _ _ (.inl rfl) e, c⟩
 | dT kvs =>
  obtain ⟨z, y, xs, r, ob, es, ep, e, c⟩ := x
  exact ⟨z, y, xs, Paired.mapP r fun p q z => ⟨z.1, ht _ _ z.2.1, z.2.2⟩, ob, es, ep, k _ _ (.inl rfl) e, c⟩
 | set S n => obtain ⟨ob, es, ep, t, e, c⟩ := x; exact ⟨ob, es, ep, t, k _ _ (.inl rfl) e, c⟩
 | ins C dx fs =>
  obtain ⟨d, z, ne, e, mA, ⟨od, es, ep, e2, c⟩, r⟩ := x
  exact ⟨ho _ d, z, ne, k _ _ (.inl rfl) e, mA, ⟨od, es, ep, k _ _ (.inr d) e2, c⟩, r⟩
 | own y => obtain ⟨ob, e⟩ := x; exact ⟨ob, k _ _ (.inl rfl) e⟩
 | xd fs => obtain ⟨mA, ⟨od, es, ep, e, c⟩, r⟩ := x; exact ⟨mA, ⟨od, es, ep, k _ _ (.inl rfl) e, c⟩, r⟩
 | rng lo hi => obtain ⟨t, u, v, e⟩ := x; exact ⟨t, u, v, k _ _ (.inl rfl) e⟩
 | frz ob u ih => obtain ⟨e, q⟩ := x; exact ⟨k _ _ (.inl rfl) e, ih q⟩
 | tbl ps =>
  have e : h.get? a = some { cls := .none, data := .fields ps } := x
  show h'.get? a = some { cls := .none, data := .fields ps }
  exact k a _ (.inl rfl) e
 | met f y =>
  have e : h.get? a = some (PySem.W.methodObj (.ref f) (.ref y)) := x
  show h'.get? a = some (PySem.W.methodObj (.ref f) (.ref y))
  exact k a _ (.inl rfl) e
 | ext φ => obtain ⟨p, ⟨o, e⟩, st⟩ := x; exact ⟨st _ _ p fun o q => k _ _ (.inl rfl) q, ⟨o, k _ _ (.inl rfl) e⟩, st⟩
theorem HOk.lt (x : HOk P w H h) (e : H a = some o) : a < h.objs.size := (x a o e).lt
theorem HOk.fresh (x : HOk P w H h) (e : h.objs.size <= a) : H a = none := by
 cases q : H a with
 | none => rfl
 | some u => exact absurd (xaq (x.lt q) e) (xbu _)
theorem HOk.kept (x : HOk P w H h) (k : ∀ b u, h.get? b = some u -> h'.get? b = some u) : HOk P w H h' := fun a o e =>
 (x a o e).stay (fun b u _ q => k b u q) (fun _ q => q) fun _ _ q => q
theorem HOk.laid (x : HOk P w H h) (k : ∀ b u, h.get? b = some u -> h'.get? b = some u) (hp : h.objs.size <= a) (new : zbv P w (upd H a o) h' a o) : HOk P w (upd H a o) h' := fun b u e => by
 have hn := x.fresh hp
 by_cases hb : b = a
 ·subst hb; rw [zae] at e; cases e; exact new
 ·rw [zah hb] at e
  exact (x b u e).stay (fun c v _ q => k c v q) (fun c q => by rw [zah (zad q hn)]; exact q) fun c xs q => by rw [zah (zad q hn)]; exact q
end
def Rd (H : Hp) (a : Addr) (u : HO) : Prop := H a = some u \/ ∃ o, H a = some (.frz o u)
theorem Rd.ok {P : Program} {w : World} {H : Hp} {h : Heap} {a : Addr} {u : HO} (r : Rd H a u) (x : HOk P w H h) : zbv P w H h a u := by
 rcases r with r | ⟨o, r⟩
 ·exact x a u r
 ·obtain ⟨_, q⟩ := x a _ r
  exact q
def Mut : Option HO -> Prop
 | some (.lst _) => True
 | some (.dK _) => True
 | some (.dT _) => True
 | some (.set _ _) => True
 | some (.ins _ _ _) => True
 | some (.ext _) => True
 | _ => False
section
variable {P : Program} {w : World} {H : Hp} {h h' : Heap} {x e : Addr} {o' : HO}
theorem HOk.write (ok : HOk P w H h) (mu : Mut (H x)) (he : e = x \/ H e = some (.own x)) (k : ∀ b u, b ≠ e -> h.get? b = some u -> h'.get? b = some u) (heo : ∃ u, h'.get? e = some u)
  (new : zbv P w (upd H x o') h' x o') : HOk P w (upd H x o') h' := fun b u q => by
 have nown : ∀ c y, H c = some (.own y) -> c ≠ x := fun c y r z => by subst z; rw [r] at mu; exact mu
 have ntup : ∀ c xs, H c = some (.tup xs) -> c ≠ x := fun c xs r z => by subst z; rw [r] at mu; exact mu
 by_cases hb : b = x
 ·subst hb; rw [zae] at q; cases q; exact new
 ·rw [zah hb] at q
  by_cases hbe : b = e
  ·have q' : H b = some (.own x) := by
    rcases he with z | z
    ·exact absurd (hbe.trans z) hb
    ·rw [hbe]; exact z
   rw [q] at q'; cases q'
   obtain ⟨v, hv⟩ := heo
   exact ⟨v, by rw [hbe]; exact hv⟩
  ·refine (ok b u q).stay (fun c v hc r => k c v ?_ r) (fun c r => by rw [zah (nown c b r)]; exact r) fun c xs r => by rw [zah (ntup c xs r)]; exact r
   rcases hc with rfl | hc
   ·exact hbe
   ·rintro rfl
    rcases he with z | z
    ·exact nown c b hc z
    ·rw [hc] at z; cases z; exact hb rfl
end
structure Un (fs ex : List Addr) (H H' : Hp) (h h' : Heap) : Prop where
 keep : ∀ b o, h.get? b = some o -> H b = none -> b ∉ fs -> b ∉ ex -> h'.get? b = some o
 slot : ∀ b o, h.get? b = some o -> H b = none -> b ∈ fs -> b ∉ ex -> ∃ sl, h'.get? b = some { o with slots := sl }
 free : ∀ b o, h.get? b = some o -> H b = none -> b ∉ ex -> H' b = none
 there : ∀ b o, h.get? b = some o -> b ∉ ex -> ∃ o', h'.get? b = some o'
 tups : ∀ b xs, H b = some (.tup xs) -> H' b = some (.tup xs)
 frzs : ∀ b o u, H b = some (.frz o u) -> H' b = some (.frz o u)
 tbls : ∀ b ps, H b = some (.tbl ps) -> ∃ more, H' b = some (.tbl (ps ++ more))
section
variable {fs fs' ex ex' : List Addr} {H H1 H2 : Hp} {h h1 h2 h' : Heap} {a x e : Addr} {o : HO}
theorem Un.any (u : Un fs ex H H1 h h1) {b : Addr} {ob : Obj} (q : h.get? b = some ob) (n : H b = none) (hx : b ∉ ex) : ∃ sl, h1.get? b = some { ob with slots := sl } := by
 by_cases hb : b ∈ fs
 ·exact u.slot b ob q n hb hx
 ·exact ⟨ob.slots, u.keep b ob q n hb hx⟩
theorem Un.kept (k : ∀ b u, h.get? b = some u -> h'.get? b = some u) : Un fs ex H H h h' :=
 ⟨fun b ob q _ _ _ => k b ob q, fun b ob q _ _ _ => ⟨ob.slots, k b ob q⟩, fun _ _ _ n _ => n, fun b ob q _ => ⟨ob, k b ob q⟩, fun _ _ q => q, fun _ _ _ q => q, fun _ ps q => ⟨#[], by rw [q]; simp⟩⟩
theorem Un.refl : Un fs ex H H h h := Un.kept fun _ _ q => q
theorem Un.laid (k : ∀ b u, h.get? b = some u -> h'.get? b = some u) (hp : h.objs.size <= a) (hn : H a = none) : Un fs ex H (upd H a o) h h' where
 keep := fun b u q _ _ _ => k b u q
 slot := fun b u q _ _ _ => ⟨u.slots, k b u q⟩
 free := fun b u q n _ => by rw [zah (xat (xaq (xaf q) hp))]; exact n
 there := fun b u q _ => ⟨u, k b u q⟩
 tups := fun b xs q => by rw [zah (zad q hn)]; exact q
 frzs := fun b u xs q => by rw [zah (zad q hn)]; exact q
 tbls := fun b ps q => ⟨#[], by rw [zah (zad q hn), q]; simp⟩
theorem Un.write (mu : Mut (H x)) (he : e = x \/ H e = some (.own x)) (k : ∀ b u, b ≠ e -> h.get? b = some u -> h'.get? b = some u) (heo : ∃ u, h'.get? e = some u) : Un fs ex H (upd H x o) h h' := by
 have hx : ∀ b, H b = none -> b ≠ x := fun b n z => by subst z; rw [n] at mu; exact mu
 have hb : ∀ b, H b = none -> b ≠ e := fun b n z => by
  subst z
  rcases he with r | r
  ·exact hx b n r
  ·rw [n] at r; cases r
 have hm : ∀ b u, H b = some u -> ¬ Mut (some u) -> b ≠ x := fun b u q nm z => by subst z; rw [q] at mu; exact nm mu
 refine ⟨fun b u q n _ _ => k b u (hb b n) q, fun b u q n _ _ => ⟨u.slots, k b u (hb b n) q⟩, fun b u q n _ => by rw [zah (hx b n)]; exact n, fun b u q _ => ?_,
  fun b xs q => by rw [zah (hm b _ q fun z => z)]; exact q, fun b u xs q => by rw [zah (hm b _ q fun z => z)]; exact q, fun b ps q => ⟨#[], by rw [zah (hm b _ q fun z => z), q]; simp⟩⟩
 by_cases hbe : b = e
 ·subst hbe; exact heo
 ·exact ⟨u, k b u hbe q⟩
end
def trk (h : Heap) (H : Hp) : List Addr := (List.range h.objs.size).filter fun a => (H a).isSome
def zo9 (h : Heap) (H : Hp) : Heap := PySem.W.hideAll h (trk h H)
theorem zml (h : Heap) (H : Hp) : (zo9 h H).objs.size = h.objs.size := PySem.W.hideAll_size _ _
theorem zpa {h : Heap} {H : Hp} {b : Addr} {o : Obj} (e : h.get? b = some o) (n : H b = none) : (zo9 h H).get? b = some o :=
 PySem.W.hideAll_get _ e fun hm => by
  have q : (H b).isSome = true := (xbm.mp hm).2
  rw [n] at q; simp at q
theorem zrV {h : Heap} {H : Hp} {b : Addr} {o : Obj} (e : (zo9 h H).get? b = some o) : h.get? b = some o /\ H b = none := by
 have e' : h.get? b = some o := PySem.W.of_hideAll (trk h H) e
 refine ⟨e', ?_⟩
 cases q : H b with
 | none => rfl
 | some x =>
  have hm : b ∈ trk h H := xbm.mpr ⟨xaz.mpr (xaf e'), by simp [q]⟩
  have z : (zo9 h H).get? b = none := PySem.W.hideAll_none (trk h H) hm
  rw [z] at e; cases e
def zrW (g h : Heap) (L : Addr) : List (Addr × Obj) := (List.range h.objs.size).filterMap fun a => if a = L \/ (g.get? a).isSome = true then none else (h.get? a).map fun o => (a, o)
def zaD (g h : Heap) (L d : Addr) : List (Addr × Obj) := (zrW g h L).filter fun p => decide (p.1 ≠ d)
end L2
namespace L2
open PySem.Spec PyProof.Rows
structure Mod (K : xFg) (mg : Str -> Option Value) (base : Heap) : Prop where
 kin : K.In base
 glob : base.Ns mainGlobals mg
 blt : ∃ mb, base.Ns builtinsNs mb /\ ∀ x : Str, x ≠ "__name__" -> mb x = bootBuiltins x
 nolimit : base.NoLimit
structure Cx where
 prog : Program
 w : World
 K : xFg
 mg : Str -> Option Value
 base : Heap
 A : Around
 N : List Str
 s₀ : Shared
 H₀ : Hp
 env : Env
 outer : List Env
 stack : List Env
 ex : List Addr
 fn : Str -> Bool
 calm : Bool
 pn : List (Addr × Obj)
 xe : Value -> Shared -> Prop
def frs (l : List Env) : List Addr := l.filterMap (·.frame)
abbrev Cx.fs (X : Cx) : List Addr := frs X.outer
def Vis (sc : Scope) (x : Str) : Prop := sc.names.lookup x = some .local \/ sc.names.lookup x = some .cell \/ sc.names.lookup x = some .free
def Loc (sc : Scope) (x : Str) : Prop := sc.names.lookup x = some .local \/ sc.names.lookup x = some .cell
def Look (env : Env) (h : Heap) (m : Str -> Option Value) (x : Str) (u : Value) : Prop :=
 (env.kindOf x = some .local /\ m x = some u) \/ ((env.kindOf x = some .cell \/ env.kindOf x = some .free) /\ ∃ c, env.cells.lookup x = some c /\ h.IsCell c (some u))
structure Cx.Ok (X : Cx) : Prop where
 mod : Mod X.K X.mg X.base
 kind : X.env.scope.kind = .function
 glob : X.env.globals = mainGlobals
 blt : X.env.builtins = builtinsNs
 above : X.s₀.heap.objs.size <= X.env.locals
 inj : ∀ x y c, X.env.cells.lookup x = some c -> X.env.cells.lookup y = some c -> x = y
 has : ∀ x, (X.env.kindOf x = some .cell \/ X.env.kindOf x = some .free) -> ∃ c, X.env.cells.lookup x = some c
 cab : ∀ x c, X.fn x = true -> X.env.cells.lookup x = some c -> X.s₀.heap.objs.size <= c
 hd : X.calm = true -> X.A.handled = none
 frames : X.A.frames = some X.stack
 stk : X.stack = X.outer \/ (X.stack = X.env :: X.outer /\ X.env.frame = some X.env.locals)
 exf : ∀ b ∈ X.ex, b ≠ X.env.locals /\ ∀ x c, X.env.cells.lookup x = some c -> c ≠ b
 bs : ∀ b o, X.base.get? b = some o -> X.s₀.heap.get? b = some o /\ X.H₀ b = none
 bsz : X.base.objs.size <= X.s₀.heap.objs.size
 noex : ∀ b o, X.base.get? b = some o -> b ∉ X.ex
 exfs : ∀ b ∈ X.ex, b ∉ X.fs
 funs : X.s₀.heap.FunFrames X.base X.outer
 frf : ∀ b ∈ X.fs, X.H₀ b = none
structure Inv (X : Cx) (pins : List (Addr × Obj)) (U : List (Option V)) (H : Hp) (s : Shared) : Prop where
 ok : X.Ok
 os : s.os = X.s₀.os
 bare : AllBare s.gens
 base : Un X.fs X.ex X.H₀ H X.s₀.heap s.heap
 loc : ∃ m, s.heap.Ns X.env.locals m /\ ∀ (i : Nat) (x : Str) (v : V), X.N[i]? = some x -> U[i]? = some (some v) -> Vis X.env.scope x -> ∃ u, RelV v u /\ Look X.env s.heap m x u
 cell : ∀ x c, X.env.cells.lookup x = some c -> ∃ v, s.heap.IsCell c v
 free : H X.env.locals = none
 freeC : ∀ x c, X.env.cells.lookup x = some c -> H c = none
 pin : ∀ p ∈ X.pn ++ pins, s.heap.get? p.1 = some p.2 /\ H p.1 = none /\ p.1 ≠ X.env.locals /\ p.1 ∉ X.fs /\ ∀ v, p.2.data ≠ .cell v
 hok : HOk X.prog X.w H s.heap
 len : U.length = X.N.length
section
variable {X : Cx} {pins : List (Addr × Obj)} {U : List (Option V)} {H H' : Hp} {s : Shared} {h' : Heap}
theorem Cx.Ok.nofr (ok : X.Ok) {b : Addr} {o : Obj} (e : X.base.get? b = some o) : b ∉ X.fs := fun hb => by
 have := (ok.funs.mem hb).1
 rw [e] at this; cases this
theorem Inv.bs (I : Inv X pins U H s) : ∀ b o, X.base.get? b = some o -> s.heap.get? b = some o /\ H b = none := fun b o e =>
 ⟨I.base.keep b o (I.ok.bs b o e).1 (I.ok.bs b o e).2 (I.ok.nofr e) (I.ok.noex b o e), I.base.free b o (I.ok.bs b o e).1 (I.ok.bs b o e).2 (I.ok.noex b o e)⟩
theorem Inv.bk (I : Inv X pins U H s) : ∀ b o, X.base.get? b = some o -> s.heap.get? b = some o := fun b o e => (I.bs b o e).1
theorem Inv.mod (I : Inv X pins U H s) : Mod X.K X.mg X.base := I.ok.mod
theorem Inv.kIn (I : Inv X pins U H s) : X.K.In s.heap := I.ok.mod.kin.keeps I.bk
theorem Inv.fr (I : Inv X pins U H s) : ∃ m, Fr X.base X.env.locals s.heap m :=
 let ⟨m, hn, _⟩ := I.loc
 ⟨m, hn, I.bk, xa4 I.ok.bsz I.ok.above⟩
theorem Inv.lt (I : Inv X pins U H s) : X.env.locals < s.heap.objs.size := let ⟨_, hn, _⟩ := I.loc; hn.lt
theorem Inv.sz (I : Inv X pins U H s) : X.s₀.heap.objs.size <= s.heap.objs.size := xa4 I.ok.above (xc7 I.lt)
theorem Inv.nofs (I : Inv X pins U H s) {a : Addr} (h : s.heap.objs.size <= a) : a ∉ X.fs := fun hb => by
 obtain ⟨_, o, ho, _⟩ := I.ok.funs.mem hb
 exact absurd (xaq (xaf ho) (xa4 I.sz h)) (xbu _)
theorem Inv.cne (I : Inv X pins U H s) : ∀ x c, X.env.cells.lookup x = some c -> c ≠ X.env.locals := fun x c e z => by
 obtain ⟨v, o, ho, hd⟩ := I.cell x c e
 obtain ⟨m, ⟨o', es, ep, ho', hd', _⟩, _⟩ := I.loc
 rw [z, ho'] at ho; cases ho; rw [hd'] at hd; cases hd
theorem Inv.funs (I : Inv X pins U H s) : s.heap.FunFrames X.base X.outer := by
 have all : ∀ (l : List Env), (∀ b ∈ frs l, b ∈ X.fs) -> X.s₀.heap.FunFrames X.base l -> s.heap.FunFrames X.base l := by
  intro l
  induction l with
  | nil => intro _ _; trivial
  | cons env r ih =>
   intro hs hl
   obtain ⟨hk, ⟨L, o, hf, hn, ho, hd⟩, hr⟩ := hl
   have hL : L ∈ X.fs := hs L (by unfold frs; rw [xcj, hf]; exact xab)
   obtain ⟨sl, e⟩ := I.base.slot L o ho (I.ok.frf L hL) hL fun z => I.ok.exfs L z hL
   exact ⟨hk, ⟨L, _, hf, hn, e, hd⟩, ih (fun b hb => hs b (by unfold frs; rw [xcj, hf]; exact xad _ hb)) hr⟩
 exact all X.outer (fun _ hb => hb) I.ok.funs
theorem Inv.stack (I : Inv X pins U H s) : s.heap.FunFrames X.base X.stack := by
 rcases I.ok.stk with e | ⟨e, hf⟩
 ·rw [e]; exact I.funs
 ·rw [e]
  obtain ⟨m, hn, _⟩ := I.loc
  refine .cons (by rw [I.ok.kind]; decide) hf hn ?_ I.funs
  exact Heap.get?_none_of_le (xa4 I.ok.bsz I.ok.above)
theorem Inv.stkSub (I : Inv X pins U H s) : ∀ b ∈ frs X.stack, b ∈ X.env.locals :: X.fs := fun b hb => by
 rcases I.ok.stk with e | ⟨e, hf⟩
 ·rw [e] at hb; exact xad _ hb
 ·rw [e] at hb
  unfold frs at hb
  rw [xcj, hf] at hb
  exact hb
theorem Inv.stkFree (I : Inv X pins U H s) : ∀ b ∈ frs X.stack, H b = none := fun b hb => by
 rcases xak.mp (I.stkSub b hb) with e | hb
 ·rw [e]; exact I.free
 ·obtain ⟨_, o, ho, _⟩ := I.ok.funs.mem hb
  exact I.base.free b o ho (I.ok.frf b hb) fun z => I.ok.exfs b z hb
theorem Inv.step {g' : Array GenState} {t' : Nat} {d' : Drawn} {ch : List Addr} (I : Inv X pins U H s)
  (hch : ∀ b ∈ ch, (b ∈ X.ex \/ X.s₀.heap.objs.size <= b) /\ b ≠ X.env.locals /\ (∀ x c, X.env.cells.lookup x = some c -> c ≠ b) /\ ∀ p ∈ X.pn ++ pins, p.1 ≠ b)
  (keep : ∀ b o, b ≠ X.env.locals -> b ∉ X.fs -> b ∉ ch -> s.heap.get? b = some o -> H b = none -> h'.get? b = some o)
  (slot : ∀ b o, b ≠ X.env.locals -> b ∈ X.fs -> b ∉ ch -> s.heap.get? b = some o -> H b = none -> ∃ sl, h'.get? b = some { o with slots := sl }) (free : ∀ b o, b ∉ ch -> s.heap.get? b = some o -> H b = none -> H' b = none)
  (there : ∀ b o, b ∉ ch -> s.heap.get? b = some o -> ∃ o', h'.get? b = some o')
  (tups : ∀ b xs, H b = some (.tup xs) -> H' b = some (.tup xs)) (frzs : ∀ b o u, H b = some (.frz o u) -> H' b = some (.frz o u)) (tbls : ∀ b ps, H b = some (.tbl ps) -> ∃ more, H' b = some (.tbl (ps ++ more)))
  (ns : ∀ m, s.heap.Ns X.env.locals m -> h'.Ns X.env.locals m) (hok : HOk X.prog X.w H' h') (hg : AllBare g') :
  Inv X pins U H' { s with heap := h', gens := g', drawn := d', toks := t' } := by
 have neL : ∀ b o, X.s₀.heap.get? b = some o -> b ≠ X.env.locals := fun b o e => xat (xaq (xaf e) I.ok.above)
 have neC : ∀ b o, X.s₀.heap.get? b = some o -> b ∉ X.ex -> b ∉ ch := fun b o e hx hb => by
  rcases (hch b hb).1 with z | z
  ·exact hx z
  ·exact absurd (xaq (xaf e) z) (xbu _)
 have cellK : ∀ x c, X.env.cells.lookup x = some c -> ∀ v, s.heap.IsCell c v -> h'.IsCell c v := fun x c e v ⟨o, ho, hd⟩ => by
  have nch : c ∉ ch := fun z => (hch c z).2.2.1 x c e rfl
  by_cases hc : c ∈ X.fs
  ·obtain ⟨sl, q⟩ := slot c o (I.cne x c e) hc nch ho (I.freeC x c e)
   exact ⟨_, q, hd⟩
  ·exact ⟨o, keep c o (I.cne x c e) hc nch ho (I.freeC x c e), hd⟩
 refine ⟨I.ok, I.os, hg, ⟨fun b o e n hb hx => ?_, fun b o e n hb hx => ?_, fun b o e n hx => ?_, fun b o e hx => ?_, fun b xs e => tups b xs (I.base.tups b xs e), fun b o xs e => frzs b o xs (I.base.frzs b o xs e), fun b ps e => ?_⟩, ?_, fun x c e => ?_, ?_, fun x c e => ?_, fun p hp => ?_, hok, I.len⟩
 ·exact keep b o (neL b o e) hb (neC b o e hx) (I.base.keep b o e n hb hx) (I.base.free b o e n hx)
 ·obtain ⟨sl, e1⟩ := I.base.slot b o e n hb hx
  obtain ⟨sl', e2⟩ := slot b _ (neL b o e) hb (neC b o e hx) e1 (I.base.free b o e n hx)
  exact ⟨sl', e2⟩
 ·obtain ⟨o', e1⟩ := I.base.there b o e hx
  exact free b o' (neC b o e hx) e1 (I.base.free b o e n hx)
 ·obtain ⟨o', e1⟩ := I.base.there b o e hx
  exact there b o' (neC b o e hx) e1
 ·obtain ⟨m1, e1⟩ := I.base.tbls b ps e
  obtain ⟨m2, e2⟩ := tbls b _ e1
  exact ⟨m1 ++ m2, by rw [e2, Array.append_assoc]⟩
 ·obtain ⟨m, hn, hl⟩ := I.loc
  refine ⟨m, ns m hn, fun i x v e1 e2 e3 => ?_⟩
  obtain ⟨u, r, l⟩ := hl i x v e1 e2 e3
  refine ⟨u, r, ?_⟩
  rcases l with l | ⟨k, c, e, z⟩
  ·exact .inl l
  ·exact .inr ⟨k, c, e, cellK x c e _ z⟩
 ·obtain ⟨v, z⟩ := I.cell x c e
  exact ⟨v, cellK x c e v z⟩
 ·obtain ⟨m, ⟨o, _, _, ho, _⟩, _⟩ := I.loc
  exact free _ o (fun z => (hch _ z).2.1 rfl) ho I.free
 ·obtain ⟨v, o, ho, hd⟩ := I.cell x c e
  exact free c o (fun z => (hch c z).2.2.1 x c e rfl) ho (I.freeC x c e)
 ·obtain ⟨e, n, ne, nf, d⟩ := I.pin p hp
  have nch : p.1 ∉ ch := fun z => (hch p.1 z).2.2.2 p hp rfl
  exact ⟨keep p.1 p.2 ne nf nch e n, free p.1 p.2 nch e n, ne, nf, d⟩
theorem Inv.un {t' : Nat} (I : Inv X pins U H s) (u : Un X.fs [] H H' s.heap h') (hok : HOk X.prog X.w H' h') : Inv X pins U H' { s with heap := h', toks := t' } := by
 obtain ⟨m, ⟨o, es, ep, ho, r⟩, _⟩ := id I.loc
 obtain ⟨sl, hL⟩ := u.any ho I.free (by simp)
 exact I.step (g' := s.gens) (d' := s.drawn) (ch := []) (fun _ z => nomatch z) (fun b o _ hb _ e n => u.keep b o e n hb (by simp)) (fun b o _ hb _ e n => u.slot b o e n hb (by simp)) (fun b o _ e n => u.free b o e n (by simp)) (fun b o _ e => u.there b o e (by simp)) u.tups u.frzs u.tbls (fun m' hm => by
  obtain ⟨o', es', ep', ho', r'⟩ := hm
  rw [ho] at ho'; cases ho'
  exact ⟨_, es', ep', hL, r'⟩) hok I.bare
theorem Inv.call {g' : Array GenState} {t' : Nat} {d' : Drawn} {ch : List Addr} (I : Inv X pins U H s) (u : Un (frs X.stack) ch H H' s.heap h') (hok : HOk X.prog X.w H' h') (hg : AllBare g')
  (hch : ∀ b ∈ ch, (b ∈ X.ex \/ X.s₀.heap.objs.size <= b) /\ b ≠ X.env.locals /\ (∀ x c, X.env.cells.lookup x = some c -> c ≠ b) /\ ∀ p ∈ X.pn ++ pins, p.1 ≠ b) :
  Inv X pins U H' { s with heap := h', gens := g', drawn := d', toks := t' } := by
 obtain ⟨m, ⟨o, es, ep, ho, r⟩, _⟩ := id I.loc
 obtain ⟨sl, hL⟩ := u.any ho I.free fun z => (hch _ z).2.1 rfl
 exact I.step (ch := ch) hch (fun b o hL hb hc e n => u.keep b o e n (fun z => (xak.mp (I.stkSub b z)).elim hL hb) hc) (fun b o _ _ hc e n => u.any e n hc) (fun b o hc e n => u.free b o e n hc) (fun b o hc e => u.there b o e hc) u.tups u.frzs u.tbls (fun m' hm => by
  obtain ⟨o', es', ep', ho', r'⟩ := hm
  rw [ho] at ho'; cases ho'
  exact ⟨_, es', ep', hL, r'⟩) hok hg
theorem Inv.turned {t' : Nat} {it : Addr} (I : Inv X pins U H s) (k : ∀ b o, b ≠ it -> s.heap.get? b = some o -> h'.get? b = some o) (hn : H it = none) (hL : it ≠ X.env.locals)
  (h1 : it ∈ X.ex \/ X.s₀.heap.objs.size <= it) (h2 : ∀ x c, X.env.cells.lookup x = some c -> c ≠ it) (h3 : ∀ p ∈ X.pn ++ pins, p.1 ≠ it) : Inv X pins U H { s with heap := h', toks := t' } := by
 have nit : ∀ b u, H b = some u -> b ≠ it := fun b u e z => by rw [z, hn] at e; cases e
 refine I.step (g' := s.gens) (d' := s.drawn) (ch := [it]) (fun b hb => ?_) (fun b o _ _ hc e _ => k b o (fun z => hc (by simp [z])) e) (fun b o _ _ hc e _ => ⟨o.slots, k b o (fun z => hc (by simp [z])) e⟩) (fun _ _ _ _ n => n)
  (fun b o hc e => ⟨o, k b o (fun z => hc (by simp [z])) e⟩) (fun _ _ e => e) (fun _ _ _ e => e) (fun b ps e => ⟨#[], by rw [e]; simp⟩) (fun m hm => ?_) (fun b u e => ?_) I.bare
 ·have e : b = it := by simpa using hb
  subst e
  exact ⟨h1, hL, h2, h3⟩
 ·obtain ⟨o, es, ep, ho, r⟩ := hm
  exact ⟨o, es, ep, k _ o (xba hL) ho, r⟩
 ·refine (I.hok b u e).stay (fun c v hc q => k c v ?_ q) (fun _ q => q) fun _ _ q => q
  rcases hc with z | z
  ·rw [z]; exact nit b u e
  ·exact nit c _ z
theorem Inv.tok (I : Inv X pins U H s) (t : Nat) : Inv X pins U H { s with toks := t } := I.un (h' := s.heap) (t' := t) Un.refl I.hok
theorem Inv.kept {t' : Nat} (I : Inv X pins U H s) (k : ∀ b u, s.heap.get? b = some u -> h'.get? b = some u) : Inv X pins U H { s with heap := h', toks := t' } := I.un (Un.kept k) (I.hok.kept k)
theorem Inv.laid {a : Addr} {o : HO} {t' : Nat} (I : Inv X pins U H s) (k : ∀ b u, s.heap.get? b = some u -> h'.get? b = some u) (hp : s.heap.objs.size <= a) (new : zbv X.prog X.w (upd H a o) h' a o) :
  Inv X pins U (upd H a o) { s with heap := h', toks := t' } := I.un (Un.laid k hp (I.hok.fresh hp)) (I.hok.laid k hp new)
theorem Inv.write {x e : Addr} {o : HO} {t' : Nat} (I : Inv X pins U H s) (mu : Mut (H x)) (he : e = x \/ H e = some (.own x)) (k : ∀ b u, b ≠ e -> s.heap.get? b = some u -> h'.get? b = some u) (heo : ∃ u, h'.get? e = some u)
  (new : zbv X.prog X.w (upd H x o) h' x o) : Inv X pins U (upd H x o) { s with heap := h', toks := t' } := I.un (Un.write mu he k heo) (I.hok.write mu he k heo new)
theorem Inv.weak {U' : List (Option V)} (I : Inv X pins U H s) (hl : U'.length = U.length) (w : ∀ (i : Nat) v, U'[i]? = some (some v) -> U[i]? = some (some v)) : Inv X pins U' H s :=
 ⟨I.ok, I.os, I.bare, I.base, let ⟨m, hn, hl'⟩ := I.loc; ⟨m, hn, fun i x v e1 e2 e3 => hl' i x v e1 (w i v e2) e3⟩, I.cell, I.free, I.freeC, I.pin, I.hok, hl.trans I.len⟩
theorem Inv.pins_of {pins' : List (Addr × Obj)} (I : Inv X pins U H s) (h : ∀ p ∈ pins', s.heap.get? p.1 = some p.2 /\ H p.1 = none /\ p.1 ≠ X.env.locals /\ p.1 ∉ X.fs /\ ∀ v, p.2.data ≠ .cell v) : Inv X pins' U H s :=
 ⟨I.ok, I.os, I.bare, I.base, I.loc, I.cell, I.free, I.freeC, fun p hp => (xbr.mp hp).elim (fun z => I.pin p (List.mem_append_left _ z)) (h p), I.hok, I.len⟩
theorem zjR {N : List Str} (hN : N.Nodup) {i j : Nat} {x : Str} (a : N[i]? = some x) (b : N[j]? = some x) : i = j := by
 obtain ⟨h1, e1⟩ := xah.mp a
 obtain ⟨h2, e2⟩ := xah.mp b
 exact (List.getElem_inj hN).mp (e1.trans e2.symm)
theorem zmm {M : Model} {A : Around} {E : Value -> Shared -> Prop} {i : Nat} {x : Str} {v : V} {u : Value} {Q : Unit -> Shared -> Prop} (I : Inv X pins U H s) (hN : X.N.Nodup) (hi : X.N[i]? = some x) (hx : Loc X.env.scope x) (r : RelV v u)
  (h : ∀ s', Inv X pins (U.set i (some v)) H s' -> (∃ a, Heap.SameBut a s.heap s'.heap /\ (a = X.env.locals \/ X.env.cells.lookup x = some a)) -> Q () s') (hf : X.fn x = true \/ X.env.scope.names.lookup x = some .local := by first | exact .inl rfl | exact .inr rfl | assumption) : wpAny M A (storeName X.env x u) Q E s := by
 obtain ⟨m, hn, hl⟩ := id I.loc
 have hcls : (X.env.scope.kind == .class || (X.env.scope.kind == .module && X.env.locals != X.env.globals)) = false := by rw [I.ok.kind]; rfl
 have hiU : i < U.length := by rw [I.len]; exact (xah.mp hi).1
 have cne := I.cne
 have tracked : ∀ {a : Addr} {h' : Heap}, (∃ o, s.heap.get? a = some o /\ H a = none) -> Heap.SameBut a s.heap h' -> HOk X.prog X.w H h' := fun {a h'} ha hs b ob e => by
  obtain ⟨_, _, hfree⟩ := ha
  refine (I.hok b ob e).stay (fun c w' hc q => (hs.2 c ?_).trans q) (fun _ q => q) fun _ _ q => q
  rintro rfl
  rcases hc with rfl | hc
  ·rw [hfree] at e; cases e
  ·rw [hfree] at hc; cases hc
 rcases hx with hk | hk
 ·refine wpAny_storeName_local hk hn (fun h' hn' hs => ?_) hcls
  obtain ⟨oL, _, _, hoL, _⟩ := id hn
  refine h _ ⟨I.ok, I.os, I.bare, ⟨fun b o e n hb hx => ?_, fun b o e n hb hx => ?_, I.base.free, fun b o e hx => ?_, I.base.tups, I.base.frzs, I.base.tbls⟩, ⟨_, hn', fun j y v' e1 e2 e3 => ?_⟩, fun y c e => ?_, I.free, I.freeC, fun p hp => ?_, tracked ⟨oL, hoL, I.free⟩ hs, by simpa using I.len⟩ ⟨_, hs, .inl rfl⟩
  ·exact (hs.2 b (xat (xaq (xaf e) I.ok.above))).trans (I.base.keep b o e n hb hx)
  ·obtain ⟨sl, e1⟩ := I.base.slot b o e n hb hx
   exact ⟨sl, (hs.2 b (xat (xaq (xaf e) I.ok.above))).trans e1⟩
  ·obtain ⟨o', e1⟩ := I.base.there b o e hx
   exact ⟨o', (hs.2 b (xat (xaq (xaf e) I.ok.above))).trans e1⟩
  ·by_cases hj : j = i
   ·subst hj
    rw [hi] at e1; cases e1
    rw [xa7 hiU] at e2
    cases e2
    exact ⟨u, r, .inl ⟨hk, by simp⟩⟩
   ·rw [xau (xba hj)] at e2
    obtain ⟨u', r', q⟩ := hl j y v' e1 e2 e3
    refine ⟨u', r', ?_⟩
    rcases q with ⟨k, e⟩ | ⟨k, c, e, z⟩
    ·refine .inl ⟨k, ?_⟩
     have : y ≠ x := fun e => hj (zjR hN e1 (e ▸ hi))
     simp [this, e]
    ·exact .inr ⟨k, c, e, z.sameBut hs (cne y c e)⟩
  ·obtain ⟨w', z⟩ := I.cell y c e
   exact ⟨w', z.sameBut hs (cne y c e)⟩
  ·obtain ⟨e, n, ne, nf, d⟩ := I.pin p hp
   exact ⟨(hs.2 p.1 ne).trans e, n, ne, nf, d⟩
 ·have hfn : X.fn x = true := by
   rcases hf with z | z
   ·exact z
   ·rw [z] at hk; cases hk
  obtain ⟨c, hc⟩ := I.ok.has x (.inl hk)
  obtain ⟨w', z⟩ := I.cell x c hc
  refine wpAny_storeName_cell I.ok.kind hk hc z (fun h' hc' hs => ?_)
  obtain ⟨oc, hoc, hocd⟩ := id z
  refine h { s with heap := h' } ⟨I.ok, I.os, I.bare, ⟨fun b o e n hb hx => ?_, fun b o e n hb hx => ?_, I.base.free, fun b o e hx => ?_, I.base.tups, I.base.frzs, I.base.tbls⟩, ⟨m, hn.sameBut hs (xba (cne x c hc)), fun j y v' e1 e2 e3 => ?_⟩, fun y c' e => ?_, I.free, I.freeC, fun p hp => ?_, tracked ⟨oc, hoc, I.freeC x c hc⟩ hs, by simpa using I.len⟩ ⟨c, hs, .inr hc⟩
  ·exact (hs.2 b (xat (xaq (xaf e) (I.ok.cab x c hfn hc)))).trans (I.base.keep b o e n hb hx)
  ·obtain ⟨sl, e1⟩ := I.base.slot b o e n hb hx
   exact ⟨sl, (hs.2 b (xat (xaq (xaf e) (I.ok.cab x c hfn hc)))).trans e1⟩
  ·obtain ⟨o', e1⟩ := I.base.there b o e hx
   exact ⟨o', (hs.2 b (xat (xaq (xaf e) (I.ok.cab x c hfn hc)))).trans e1⟩
  ·by_cases hj : j = i
   ·subst hj
    rw [hi] at e1; cases e1
    rw [xa7 hiU] at e2
    cases e2
    exact ⟨u, r, .inr ⟨.inl hk, c, hc, hc'⟩⟩
   ·rw [xau (xba hj)] at e2
    obtain ⟨u', r', q⟩ := hl j y v' e1 e2 e3
    refine ⟨u', r', ?_⟩
    rcases q with q | ⟨k, c', e, z'⟩
    ·exact .inl q
    ·refine .inr ⟨k, c', e, z'.sameBut hs ?_⟩
     rintro rfl
     exact hj (zjR hN e1 (I.ok.inj _ _ _ e hc ▸ hi))
  ·by_cases hcc : c' = c
   ·subst hcc; exact ⟨_, hc'⟩
   ·obtain ⟨w2, z2⟩ := I.cell y c' e
    exact ⟨w2, z2.sameBut hs hcc⟩
  ·obtain ⟨e, n, ne, nf, d⟩ := I.pin p hp
   refine ⟨(hs.2 p.1 ?_).trans e, n, ne, nf, d⟩
   intro q
   rw [q, hoc] at e
   have q' : oc = p.2 := Option.some.inj e
   exact d w' (by rw [<- q']; exact hocd)
theorem zg0 {M : Model} {A : Around} {E : Value -> Shared -> Prop} {i : Nat} {x : Str} {v : V} {u : Value} {Q : Unit -> Shared -> Prop} (I : Inv X pins U H s) (hN : X.N.Nodup) (hi : X.N[i]? = some x) (hx : Loc X.env.scope x) (r : RelV v u)
  (h : ∀ s', Inv X pins (U.set i (some v)) H s' -> Q () s') (hf : X.fn x = true \/ X.env.scope.names.lookup x = some .local := by first | exact .inl rfl | exact .inr rfl | assumption) : wpAny M A (storeName X.env x u) Q E s :=
 zmm I hN hi hx r (fun s' I' _ => h s' I') hf
theorem Inv.call' {s' : Shared} {ch : List Addr} (I : Inv X pins U H s) (ho : s'.os = s.os) (u : Un (frs X.stack) ch H H' s.heap s'.heap) (hok : HOk X.prog X.w H' s'.heap) (hg : AllBare s'.gens)
  (hch : ∀ b ∈ ch, (b ∈ X.ex \/ X.s₀.heap.objs.size <= b) /\ b ≠ X.env.locals /\ (∀ x c, X.env.cells.lookup x = some c -> c ≠ b) /\ ∀ p ∈ X.pn ++ pins, p.1 ≠ b) : Inv X pins U H' s' := by
 obtain ⟨h', g', d', t', o'⟩ := s'
 have e : o' = s.os := ho
 subst e
 exact I.call (g' := g') (t' := t') (d' := d') u hok hg hch
end
abbrev XK := Value -> Option Addr -> Hp -> Prop
abbrev St := List (Option V)
abbrev VK := V -> Hp -> Prop
abbrev TE := St -> Hp -> VK -> Prop
abbrev TT := St -> Hp -> (Bool -> Hp -> Prop) -> Prop
abbrev TA := St -> Hp -> (List V -> Hp -> Prop) -> Prop
structure zmn where
 nx : St -> Hp -> Prop
 rt : VK
 bk : St -> Hp -> Prop := fun _ _ => False
 ct : St -> Hp -> Prop := fun _ _ => False
abbrev TS := zmn -> St -> Hp -> Prop
def EP (X : Cx) (pins : List (Addr × Obj)) (U : St) (Q : VK) (u : Value) (s' : Shared) : Prop := ∃ v H', Inv X pins U H' s' /\ RelV v u /\ Q v H'
def TP (X : Cx) (pins : List (Addr × Obj)) (U : St) (Q : Bool -> Hp -> Prop) (b : Bool) (s' : Shared) : Prop := ∃ H', Inv X pins U H' s' /\ Q b H'
def AP (X : Cx) (pins : List (Addr × Obj)) (U : St) (Q : List V -> Hp -> Prop) (us : List Value) (s' : Shared) : Prop := ∃ vs H', Inv X pins U H' s' /\ zaP vs us /\ Q vs H'
def SP (X : Cx) (pins : List (Addr × Obj)) (D : zmn) (f : Flow) (s' : Shared) : Prop :=
 match f with
 | .next => ∃ U' H', Inv X pins U' H' s' /\ D.nx U' H'
 | .brk => ∃ U' H', Inv X pins U' H' s' /\ D.bk U' H'
 | .cont => ∃ U' H', Inv X pins U' H' s' /\ D.ct U' H'
 | .ret u => ∃ v U' H', Inv X pins U' H' s' /\ RelV v u /\ D.rt v H'
def PE (X : Cx) (e : Expr) (t : TE) : Prop :=
 ∀ (pins : List (Addr × Obj)) (s : Shared) (U : St) (H : Hp) (Q : VK), Inv X pins U H s -> t U H Q -> wpAny (model X.prog X.w) X.A (eval e X.env) (EP X pins U Q) X.xe s
def PT (X : Cx) (e : Expr) (t : TT) : Prop :=
 ∀ (pins : List (Addr × Obj)) (s : Shared) (U : St) (H : Hp) (Q : Bool -> Hp -> Prop), Inv X pins U H s -> t U H Q -> wpAny (model X.prog X.w) X.A (isTrue e X.env (eval e X.env)) (TP X pins U Q) X.xe s
def PW (X : Cx) (e : Expr) (t : TT) : Prop :=
 ∀ (whole : Sem Value) (pins : List (Addr × Obj)) (s : Shared) (U : St) (H : Hp) (Q : Bool -> Hp -> Prop), Inv X pins U H s -> t U H Q -> wpAny (model X.prog X.w) X.A (isTrue e X.env whole) (TP X pins U Q) X.xe s
def PA (X : Cx) (es : List Expr) (t : TA) : Prop :=
 ∀ (pos : Pos) (pins : List (Addr × Obj)) (s : Shared) (U : St) (H : Hp) (Q : List V -> Hp -> Prop), Inv X pins U H s -> t U H Q -> wpAny (model X.prog X.w) X.A (spliced (backTo pos (starEach es X.env))) (AP X pins U Q) X.xe s
def PS (X : Cx) (st : Stmt) (t : TS) : Prop :=
 ∀ (pins : List (Addr × Obj)) (s : Shared) (U : St) (H : Hp) (D : zmn), Inv X pins U H s -> t D U H -> wpAny (model X.prog X.w) X.A (exec st X.env) (SP X pins D) X.xe s
def PSs (X : Cx) (st : List Stmt) (t : TS) : Prop :=
 ∀ (pins : List (Addr × Obj)) (s : Shared) (U : St) (H : Hp) (D : zmn), Inv X pins U H s -> t D U H -> wpAny (model X.prog X.w) X.A (execs st X.env) (SP X pins D) X.xe s
theorem thn {α : Type} {t : Sem α} {Q Q' : α -> Shared -> Prop} {M : Model} {A : Around} {E : Value -> Shared -> Prop} {s : Shared} (h : wpAny M A t Q E s) (hQ : ∀ a s, Q a s -> Q' a s) : wpAny M A t Q' E s := wpAny_mono h hQ fun _ _ x => x
end L2
namespace L2
open PySem.Spec PyProof.Rows
section
variable {X : Cx}
theorem bin {a b : Expr} {ta tb : TE} (ha : PE X a ta) (hb : PE X b tb) {pins : List (Addr × Obj)} {s : Shared} {U : St} {H : Hp} {R : V -> V -> Hp -> Prop} (I : Inv X pins U H s) (h : ta U H fun x H1 => tb U H1 fun y H2 => R x y H2)
  {α : Type} {Q : α -> Shared -> Prop} {f : Value -> Value -> Sem α}
  (hf : ∀ v u s2 x y H2, Inv X pins U H2 s2 -> RelV x v -> RelV y u -> R x y H2 -> wpAny (model X.prog X.w) X.A (f v u) Q X.xe s2) :
  wpAny (model X.prog X.w) X.A (eval a X.env) (fun v s₁ => wpAny (model X.prog X.w) X.A (eval b X.env) (fun u s₂ => wpAny (model X.prog X.w) X.A (f v u) Q X.xe s₂) X.xe s₁) X.xe s := by
 refine thn (ha pins s U H _ I h) fun v s1 ⟨x, H1, I1, r1, q1⟩ => ?_
 refine thn (hb pins s1 U H1 _ I1 q1) fun u s2 ⟨y, H2, I2, r2, q2⟩ => ?_
 exact hf v u s2 x y H2 I2 r1 r2 q2
def tVar (i : Nat) : TE := fun U H Q => ∃ v, U[i]? = some (some v) /\ Q v H
def tC (v : V) : TE := fun _ H Q => Q v H
theorem ztU {i : Nat} {x : Str} {pos : Pos} (hN : X.N[i]? = some x) (hv : Vis X.env.scope x) (hd : (x == ("__debug__" : Str)) = false := by decide) (hcd : (x == ("__classdict__" : Str)) = false := by decide) : PE X (.Name x pos) (tVar i) := by
 intro pins s U H Q I h
 obtain ⟨v, e, h⟩ := h
 obtain ⟨m, hn, hl⟩ := I.loc
 obtain ⟨u, r, l⟩ := hl i x v hN e hv
 have fin : EP X pins U Q u s := ⟨v, H, I, r, h⟩
 rcases l with ⟨hk, hm⟩ | ⟨hk, c, hc, hcell⟩
 ·exact wpAny_Name (wpAny_loadName_local I.ok.kind hk hn hm fin) hd
 ·rcases hk with hk | hk
  ·exact wpAny_Name (wpAny_loadName_cell I.ok.kind hk hc hcell fin) hd
  ·exact wpAny_Name (wpAny_loadName_free I.ok.kind hk hc hcell fin hcd) hd
theorem zqF {i j pos} : PE X (.Constant (.int i) j pos) (tC (.int i)) := fun _ _ _ H _ I h => wpAny_Constant_int ⟨.int i, H, I.tok _, ⟨_, rfl⟩, h⟩
theorem zwy {b j pos} : PE X (.Constant (.bool b) j pos) (tC (.bl b)) := fun _ _ _ H _ I h => Constant_bool ⟨.bl b, H, I, rfl, h⟩
theorem ztV {j pos} : PE X (.Constant .none j pos) (tC .non) := fun _ _ _ H _ I h => Constant_none ⟨.non, H, I, rfl, h⟩
theorem ztW {x j pos} : PE X (.Constant (.str x) j pos) (tC (.str x)) := fun _ _ _ H _ I h => Calls.Constant_str ⟨.str x, H, I.tok _, ⟨_, rfl⟩, h⟩
def Gl (X : Cx) (x : Str) : Prop := X.env.kindOf x = some .globalImplicit
theorem zjj {E : Value -> Shared -> Prop} {pins : List (Addr × Obj)} {s : Shared} {U : St} {H : Hp} {x : Str} {u : Value} {pos : Pos} {Q : Value -> Shared -> Prop} (I : Inv X pins U H s) (hg : Gl X x) (hm : X.mg x = some u) (h : Q u s)
  (hd : (x == ("__debug__" : Str)) = false := by decide) : wpAny (model X.prog X.w) X.A (eval (.Name x pos) X.env) Q E s :=
 Calls.Name_function_global I.ok.kind hg (Calls.loadGlobal_global (by rw [I.ok.glob]; exact I.mod.glob.keeps I.bk) hm h) hd
theorem zgy {E : Value -> Shared -> Prop} {pins : List (Addr × Obj)} {s : Shared} {U : St} {H : Hp} {x : Str} {u : Value} {pos : Pos} {Q : Value -> Shared -> Prop} (I : Inv X pins U H s) (hg : Gl X x) (hm : X.mg x = none) (hv : bootBuiltins x = some u) (h : Q u s)
  (hn : x ≠ "__name__" := by decide) (hd : (x == ("__debug__" : Str)) = false := by decide) : wpAny (model X.prog X.w) X.A (eval (.Name x pos) X.env) Q E s := by
 obtain ⟨mb, h1, h2⟩ := I.mod.blt
 exact Calls.Name_function_global I.ok.kind hg (Calls.loadGlobal_builtin (by rw [I.ok.glob]; exact I.mod.glob.keeps I.bk) hm (by rw [I.ok.blt]; exact h1.keeps I.bk) ((h2 x hn).trans hv) h) hd
theorem zrX {x : Str} {v : V} {u : Value} {pos : Pos} (hg : Gl X x) (hm : X.mg x = some u) (r : RelV v u) (hd : (x == ("__debug__" : Str)) = false := by decide) : PE X (.Name x pos) (tC v) :=
 fun _ _ _ H _ I h => zjj I hg hm ⟨v, H, I, r, h⟩ hd
theorem zrY {x : Str} {v : V} {u : Value} {pos : Pos} (hg : Gl X x) (hm : X.mg x = none) (hv : bootBuiltins x = some u) (r : RelV v u) (hn : x ≠ "__name__" := by decide) (hd : (x == ("__debug__" : Str)) = false := by decide) : PE X (.Name x pos) (tC v) :=
 fun _ _ _ H _ I h => zgy I hg hm hv ⟨v, H, I, r, h⟩ hn hd
variable {a b : Expr} {ta tb : TE} {pos : Pos}
def PC (X : Cx) (op : CmpOp) (a b : Expr) (t : TE) : Prop :=
 ∀ (pins : List (Addr × Obj)) (s : Shared) (U : St) (H : Hp) (Q : VK), Inv X pins U H s -> t U H Q ->
  wpAny (model X.prog X.w) X.A (eval a X.env) (fun v s₁ => wpAny (model X.prog X.w) X.A (eval b X.env) (fun u s₂ => wpAny (model X.prog X.w) X.A (compareOp op v u) (EP X pins U Q) X.xe s₂) X.xe s₁) X.xe s
theorem zaz (b : Expr) {op : CmpOp} (h : op ≠ .In) (h2 : op ≠ .NotIn) : behindInMarks op b = false := by
 have e1 : (op == CmpOp.In) = false := by cases op <;> first | rfl | exact absurd rfl h
 have e2 : (op == CmpOp.NotIn) = false := by cases op <;> first | rfl | exact absurd rfl h2
 cases b <;> simp [behindInMarks, e1, e2]
def tB (t : TE) : TT := fun U H Q => t U H fun x H1 => ∃ c, x = .bl c /\ Q c H1
theorem pt_cmp {op : CmpOp} {t : TE} (h : PC X op a b t) (h1 : behindInMarks op b = false := by first | exact zaz _ (by decide) (by decide) | rfl) : PT X (.Compare a [op] [b] pos) (tB t) := by
 intro pins s U H Q I hw
 refine wpAny_isTrue_Compare1 (thn (h pins s U H _ I hw) fun v s1 h1 => thn h1 fun u s2 h2 => thn h2 fun c s3 ⟨x, H1, I1, r1, q1⟩ => ?_) h1
 obtain ⟨d, rfl, q⟩ := q1
 cases r1
 exact wpAny_truthy_bool ⟨H1, I1, q⟩
theorem ztX {e : Expr} {t : TE} (h : PE X e t) (he : ∀ whole, isTrue e X.env whole = (do let v <- whole; standAt e.pos; holding [v] (truthy v)) := by intro _; rfl) : PT X e (tB t) := by
 intro pins s U H Q I hw
 refine isTrue_plain (thn (h pins s U H _ I hw) fun v s1 ⟨x, H1, I1, r1, q1⟩ => ?_) (he _)
 obtain ⟨d, rfl, q⟩ := q1
 cases r1
 exact wpAny_truthy_bool ⟨H1, I1, q⟩
variable {tA tB' : TT} {zaD : List Expr}
def tAnd (t u : TT) : TT := fun U H Q => t U H fun c H1 => if c = true then u U H1 Q else Q false H1
def tOr (t u : TT) : TT := fun U H Q => t U H fun c H1 => if c = true then Q true H1 else u U H1 Q
def tNot (t : TT) : TT := fun U H Q => t U H fun c H1 => Q (!c) H1
theorem zrZ (ha : PT X a tA) : PW X (.BoolOp .And [a] pos) tA := by
 intro wh pins s U H Q I h
 refine isTrue_and (thn (ha pins s U H Q I h) fun c s1 e => ?_)
 cases c with
 | true => exact isTrue_and_nil e
 | false => exact e
theorem ztY (ha : PT X a tA) : PW X (.BoolOp .Or [a] pos) tA := by
 intro wh pins s U H Q I h
 refine isTrue_or (thn (ha pins s U H Q I h) fun c s1 e => ?_)
 cases c with
 | false => exact isTrue_or_nil e
 | true => exact e
theorem ztZ (ha : PT X a tA) (hb : PW X (.BoolOp .And (b :: zaD) pos) tB') : PW X (.BoolOp .And (a :: b :: zaD) pos) (tAnd tA tB') := by
 intro wh pins s U H Q I h
 refine isTrue_and (thn (ha pins s U H _ I h) fun c s1 ⟨H1, I1, q1⟩ => ?_)
 cases c with
 | true => exact hb wh pins s1 U H1 Q I1 q1
 | false => exact ⟨H1, I1, q1⟩
theorem zwz (ha : PT X a tA) (hb : PW X (.BoolOp .Or (b :: zaD) pos) tB') : PW X (.BoolOp .Or (a :: b :: zaD) pos) (tOr tA tB') := by
 intro wh pins s U H Q I h
 refine isTrue_or (thn (ha pins s U H _ I h) fun c s1 ⟨H1, I1, q1⟩ => ?_)
 cases c with
 | true => exact ⟨H1, I1, q1⟩
 | false => exact hb wh pins s1 U H1 Q I1 q1
theorem zt0 (ha : PT X a tA) : PT X (.UnaryOp .Not a pos) (tNot tA) := by
 intro pins s U H Q I h
 exact isTrue_not (ha pins s U H (fun c H1 => Q (!c) H1) I h)
def zwA (ta tb : TE) : TE := fun U H Q => ta U H fun x H1 => ∃ c, x = .bl c /\ if c = true then tb U H1 Q else Q (.bl false) H1
def zwB (ta : TE) : TE := fun U H Q => ta U H fun x H1 => ∃ c, x = .bl c /\ Q (.bl (!c)) H1
theorem zt1 {op} {t : TE} (h : PE X a t) : PE X (.BoolOp op [a] pos) t := fun pins s U H Q I hw => BoolOp_one (h pins s U H Q I hw)
theorem zt2 (ha : PE X a ta) (hb : PE X (.BoolOp .And (b :: zaD) pos) tb) : PE X (.BoolOp .And (a :: b :: zaD) pos) (zwA ta tb) := by
 intro pins s U H Q I h
 refine BoolOp_and (thn (ha pins s U H _ I h) fun v s1 ⟨x, H1, I1, r1, q1⟩ => ?_)
 obtain ⟨c, rfl, q1⟩ := q1
 cases r1
 refine wpAny_truthy_bool ?_
 cases c with
 | true => exact hb pins s1 U H1 Q I1 q1
 | false => exact ⟨.bl false, H1, I1, rfl, q1⟩
theorem zt3 (ha : PE X a ta) : PE X (.UnaryOp .Not a pos) (zwB ta) := by
 intro pins s U H Q I h
 refine UnaryOp_ (thn (ha pins s U H _ I h) fun v s1 ⟨x, H1, I1, r1, q1⟩ => ?_)
 obtain ⟨c, rfl, q1⟩ := q1
 cases r1
 exact not_of (wpAny_truthy_bool ⟨.bl (!c), H1, I1, rfl, q1⟩)
end
end L2
namespace L2
open PySem.Spec PyProof.Rows
def SqL (K : xFg) (H : Hp) (a : Addr) (xs : List V) : Prop :=
 Rd H a (.lst xs) \/
  ∃ (o : Obj) (its : Array Value) (n : Nat), K.lookup a = some o /\ o.cls = .type "list" /\ o.dict = none /\ o.data = .seq its n /\ its.size <= sizeLine /\ zaP xs its.toList
def SqT (K : xFg) (H : Hp) (a : Addr) (xs : List V) : Prop :=
 Rd H a (.tup xs) \/
  ∃ (o : Obj) (its : Array Value) (n : Nat), K.lookup a = some o /\ o.cls = .type "tuple" /\ o.data = .seq its n /\ its.size <= sizeLine /\ zaP xs its.toList
def absV : Value -> Option V
 | .none => some .non
 | .bool b => some (.bl b)
 | .int i _ => some (.int i)
 | .str x _ => some (.str x)
 | .bytes b _ => some (.byt b)
 | .float b _ => some (.flt b)
 | .ref a => some (.ref a)
 | .type n => some (.ty n)
 | _ => none
theorem RelV.abs {x : V} {u : Value} (r : RelV x u) : absV u = some x := by
 cases x with
 | non => cases r; rfl
 | bl _ => cases r; rfl
 | int _ => obtain ⟨t, rfl⟩ := r; rfl
 | str _ => obtain ⟨t, rfl⟩ := r; rfl
 | byt _ => obtain ⟨t, rfl⟩ := r; rfl
 | flt _ => obtain ⟨t, rfl⟩ := r; rfl
 | ref _ => cases r; rfl
 | ty _ => cases r; rfl
theorem RelV.inj {x y : V} {u : Value} (r : RelV x u) (q : RelV y u) : x = y := Option.some.inj (r.abs.symm.trans q.abs)
theorem zaP.inj : ∀ {xs ys : List V} {us : List Value}, zaP xs us -> zaP ys us -> xs = ys
 | _, _, _, .nil, .nil => rfl
 | _, _, _, .cons r t, .cons r' t' => by rw [r.inj r', zaP.inj t t']
section
variable {X : Cx} {pins : List (Addr × Obj)} {U : St} {H : Hp} {s : Shared} {a : Addr} {xs ys : List V}
theorem SqL.of {K : xFg} (h : H a = some (.lst xs)) : SqL K H a xs := .inl (.inl h)
theorem SqT.of {K : xFg} (h : H a = some (.tup xs)) : SqT K H a xs := .inl (.inl h)
theorem Inv.list (I : Inv X pins U H s) (h : SqL X.K H a xs) : ∃ its : List Value, zaP xs its /\ PlainL s.heap a its.toArray /\ xs.length <= sizeLine := by
 rcases h with h | ⟨o, its, n, hk, hc, hd, hs, hz, r⟩
 ·obtain ⟨z, its, n, r, e⟩ := h.ok I.hok
  exact ⟨its, r, ⟨_, n, e, rfl, rfl, rfl⟩, z⟩
 ·refine ⟨its.toList, r, ⟨o, n, I.kIn a o hk, hc, hd, by simpa using hs⟩, ?_⟩
  have e := r.length
  simp only [xaj] at e
  omega
theorem Inv.tuple (I : Inv X pins U H s) (h : SqT X.K H a xs) : ∃ its : List Value, zaP xs its /\ IsTup s.heap a its.toArray /\ xs.length <= sizeLine := by
 rcases h with h | ⟨o, its, n, hk, hc, hs, hz, r⟩
 ·obtain ⟨z, its, r, p⟩ := h.ok I.hok
  exact ⟨its, r, p, z⟩
 ·refine ⟨its.toList, r, ⟨o, I.kIn a o hk, hc, n, by simpa using hs⟩, ?_⟩
  have e := r.length
  simp only [xaj] at e
  omega
theorem Inv.list_inj (I : Inv X pins U H s) (h : SqL X.K H a xs) (h' : SqL X.K H a ys) : xs = ys := by
 obtain ⟨its, r, ⟨o, n, e, _, _, d⟩, _⟩ := I.list h
 obtain ⟨its', r', ⟨o', n', e', _, _, d'⟩, _⟩ := I.list h'
 rw [e] at e'; cases e'
 rw [d] at d'
 injection d' with d1 _
 have : its = its' := by simpa using congrArg Array.toList d1
 subst this
 exact r.inj r'
theorem Inv.tuple_inj (I : Inv X pins U H s) (h : SqT X.K H a xs) (h' : SqT X.K H a ys) : xs = ys := by
 obtain ⟨its, r, ⟨o, e, _, n, d⟩, _⟩ := I.tuple h
 obtain ⟨its', r', ⟨o', e', _, n', d'⟩, _⟩ := I.tuple h'
 rw [e] at e'; cases e'
 rw [d] at d'
 injection d' with d1 _
 have : its = its' := by simpa using congrArg Array.toList d1
 subst this
 exact r.inj r'
end
section
variable {X : Cx} {st : Stmt} {zaD : List Stmt} {t u : TS} {e : Expr} {te : TE} {pos : Pos}
def zwC : TS := fun D U H => D.nx U H
def tSeq (t u : TS) : TS := fun D U H => t { D with nx := u D } U H
theorem zmo : PSs X [] zwC := fun _ _ U H _ I h => wpAny_execs_nil ⟨U, H, I, h⟩
theorem zg1 (h1 : PS X st t) (h2 : PSs X zaD u) : PSs X (st :: zaD) (tSeq t u) := by
 intro pins s U H D I h
 refine wpAny_execs_cons (thn (h1 pins s U H { D with nx := u D } I h) fun f s1 q => ?_)
 cases f with
 | next =>
  obtain ⟨U', H', I', q⟩ := q
  exact h2 pins s1 U' H' D I' q
 | ret v => exact q
 | brk => exact q
 | cont => exact q
theorem zmp (h1 : PS X st t) : PSs X [st] t := by
 intro pins s U H D I h
 refine wpAny_execs_cons (thn (h1 pins s U H D I h) fun f s1 q => ?_)
 cases f with
 | next => exact wpAny_execs_nil q
 | ret v => exact q
 | brk => exact q
 | cont => exact q
theorem Inv.quiet {pins : List (Addr × Obj)} {U : St} {H : Hp} {s : Shared} (I : Inv X pins U H s) : interactive X.env = false := by simp [interactive, I.ok.kind]
def zwD (te : TE) : TS := fun D U H => te U H fun _ H1 => D.nx U H1
theorem zmq (he : PE X e te) (hs : swapsWith e none pos.line X.env = pure false := by rfl) : PS X (.Expr e pos) (zwD te) := by
 intro pins s U H D I h
 exact wpAny_Expr_any (thn (he pins s U H _ I h) fun v s1 ⟨x, H1, I1, r1, q1⟩ => ⟨U, H1, I1, q1⟩) I.quiet hs
def tRet (te : TE) : TS := fun D U H => te U H D.rt
theorem zqG (he : PE X e te) : PS X (.Return (some e) pos) (tRet te) := by
 intro pins s U H D I h
 exact wpAny_Return_some (thn (he pins s U H _ I h) fun v s1 ⟨x, H1, I1, r1, q1⟩ => ⟨x, U, H1, I1, r1, q1⟩)
def tIfS (c : TT) (t u : TS) : TS := fun D U H => c U H fun b H1 => if b = true then t D U H1 else u D U H1
theorem zt4 {c : Expr} {a b : List Stmt} {tc : TT} (hc : PT X c tc) (ha : PSs X a t) (hb : PSs X b u) : PS X (.If c a b pos) (tIfS tc t u) := by
 intro pins s U H D I h
 refine wpAny_If (thn (hc pins s U H _ I h) fun d s1 ⟨H1, I1, q1⟩ => ?_)
 cases d with
 | true => exact ha pins s1 U H1 D I1 q1
 | false => exact hb pins s1 U H1 D I1 q1
def zt5 : TS := fun _ _ _ => False
theorem zpb : PS X st zt5 := fun _ _ _ _ _ _ h => h.elim
end
abbrev TG := V -> St -> Hp -> (St -> Hp -> Prop) -> Prop
abbrev TGs := List V -> St -> Hp -> (St -> Hp -> Prop) -> Prop
def PG (X : Cx) (target : Expr) (t : TG) : Prop :=
 ∀ (pins : List (Addr × Obj)) (s : Shared) (U : St) (H : Hp) (v : V) (u : Value) (Q : St -> Hp -> Prop), Inv X pins U H s -> RelV v u -> t v U H Q ->
  wpAny (model X.prog X.w) X.A (assign target X.env u) (fun _ s' => ∃ U' H', Inv X pins U' H' s' /\ Q U' H') X.xe s
def PGs (X : Cx) (ts : List Expr) (t : TGs) : Prop :=
 ∀ (pins : List (Addr × Obj)) (s : Shared) (U : St) (H : Hp) (vs : List V) (us : List Value) (Q : St -> Hp -> Prop), Inv X pins U H s -> zaP vs us -> t vs U H Q ->
  wpAny (model X.prog X.w) X.A (assignInOrder ((assignEach ts X.env).map (·.2)) us) (fun _ s' => ∃ U' H', Inv X pins U' H' s' /\ Q U' H') X.xe s
abbrev TSet := V -> V -> V -> Hp -> (Hp -> Prop) -> Prop
def PSet (X : Cx) (t : TSet) : Prop :=
 ∀ (pins : List (Addr × Obj)) (s : Shared) (U : St) (H : Hp) (o i v : V) (ov iv u : Value) (Q : Hp -> Prop), Inv X pins U H s -> RelV o ov -> RelV i iv -> RelV v u -> t o i v H Q ->
  wpAny (model X.prog X.w) X.A (setItem ov iv u) (fun _ s' => ∃ H', Inv X pins U H' s' /\ Q H') X.xe s
section
variable {X : Cx} {pos : Pos}
def zjk (i : Nat) : TG := fun v U H Q => Q (U.set i (some v)) H
theorem zmr {i : Nat} {x : Str} (hN : X.N.Nodup) (hi : X.N[i]? = some x) (hx : Loc X.env.scope x) (hf : X.fn x = true \/ X.env.scope.names.lookup x = some .local := by first | exact .inl rfl | exact .inr rfl | assumption) : PG X (.Name x pos) (zjk i) := by
 intro pins s U H v u Q I r h
 exact wpAny_assign_Name (zg0 I hN hi hx r (fun s' I' => ⟨_, H, I', h⟩) hf)
def gNil : TGs := fun vs U H Q => vs = [] /\ Q U H
def zt6 (t : TG) (u : TGs) : TGs := fun vs U H Q => ∃ v r, vs = v :: r /\ t v U H fun U' H' => u r U' H' Q
theorem zr0 : PGs X [] gNil := by
 intro pins s U H vs us Q I r h
 obtain ⟨e, h⟩ := h
 subst e
 cases r
 exact assignInOrder_nil ⟨U, H, I, h⟩
theorem zpc {e : Expr} {es : List Expr} {t : TG} {u : TGs} (h1 : PG X e t) (h2 : PGs X es u)
  (hs : (assignEach (e :: es) X.env).map (·.2) = assign e X.env :: (assignEach es X.env).map (·.2) := by rfl) : PGs X (e :: es) (zt6 t u) := by
 intro pins s U H vs us Q I r h
 obtain ⟨v, vr, e1, h⟩ := h
 subst e1
 cases r with
 | cons r rr =>
  rw [hs]
  refine assignInOrder_cons (thn (h1 pins s U H _ _ _ I r h) fun _ s1 ⟨U1, H1, I1, q1⟩ => ?_)
  exact h2 pins s1 U1 H1 _ _ Q I1 rr q1
def gTup (K : xFg) (n : Nat) (t : TGs) : TG := fun v U H Q => ∃ a xs, v = .ref a /\ SqT K H a xs /\ xs.length = n /\ t xs U H Q
theorem zt7 {es : List Expr} {k : Nat} {t : TGs} {n : Nat} (hc : X.calm = true) (h : PGs X es t)
  (hn : (assignEach es X.env).length = n := by rfl) (hst : (assignEach es X.env).findIdx? (·.1) = none := by rfl) : PG X (.Tuple es k pos) (gTup X.K n t) := by
 intro pins s U H v u Q I r hw
 obtain ⟨a, xs, e1, hq, hl, hw⟩ := hw
 subst e1
 cases r
 obtain ⟨its, rv, ht, hz⟩ := I.tuple hq
 refine assign_Tuple_tuple (I.ok.hd hc) ht (by simp [hn, <- hl, rv.length]) hst fun h' hx => ?_
 have I1 : Inv X pins U H { s with heap := h' } := I.kept (t' := s.toks) fun b o e => hx b o (xat (xaf e)) e
 exact h pins _ U H xs _ Q I1 (by simpa using rv) hw
def gSub (to ti : TE) (t : TSet) : TG := fun v U H Q => to U H fun o H1 => ti U H1 fun i H2 => t o i v H2 fun H3 => Q U H3
theorem zt8 {o i : Expr} {to ti : TE} {t : TSet} (ho : PE X o to) (hi : PE X i ti) (hs : PSet X t)
  (ha : ∀ v, assign (.Subscript o i pos) X.env v = (do
   let ov <- holding [v] (eval o X.env)
   let iv <- holding [v, ov] (eval i X.env)
   standAt pos
   holding [v, ov, iv] (setItem ov iv v)
   release [v, ov, iv] []) := by intro _; rfl) : PG X (.Subscript o i pos) (gSub to ti t) := by
 intro pins s U H v u Q I r h
 rw [ha]
 refine wpAny_bind (wpAny_holding (thn (ho pins s U H _ I h) fun ov s1 ⟨x, H1, I1, r1, q1⟩ => ?_))
 refine wpAny_bind (wpAny_holding (thn (hi pins s1 U H1 _ I1 q1) fun iv s2 ⟨y, H2, I2, r2, q2⟩ => ?_))
 refine wpAny_bind (wpAny_standAt (wpAny_bind (wpAny_holding (thn (hs pins s2 U H2 x y v ov iv u _ I2 r1 r2 r q2) fun _ s3 ⟨H3, I3, q3⟩ => ?_))))
 exact wpAny_release ⟨U, H3, I3, q3⟩
def ztC (te : TE) (g : TG) : TS := fun D U H => te U H fun x H1 => g x U H1 D.nx
theorem zqH {tg e : Expr} {te : TE} {g : TG} (he : PE X e te) (hg : PG X tg g) (hs : swapsWithSole [tg] e pos.line X.env = pure false := by rfl) (hw : swappedStores [tg] e X.env = pure none := by rfl)
  (h1 : (assignEach [tg] X.env).map (·.2) = [assign tg X.env] := by rfl) : PS X (.Assign [tg] e pos) (ztC te g) := by
 intro pins s U H D I h
 refine wpAny_Assign_stores (thn (he pins s U H _ I h) fun v s1 ⟨x, H1, I1, r1, q1⟩ => ?_) hs hw
 rw [h1]
 exact thn (hg pins s1 U H1 x v _ I1 r1 q1) fun _ s2 q => q
theorem zhV {i : Nat} {x : Str} {e : Expr} {te : TE} {pos' : Pos} (hN : X.N.Nodup) (hi : X.N[i]? = some x) (hx : Loc X.env.scope x) (he : PE X e te) (hs : swapsWith e (some (.Name x pos')) pos.line X.env = pure false := by rfl) (hf : X.fn x = true \/ X.env.scope.names.lookup x = some .local := by first | exact .inl rfl | exact .inr rfl | assumption) :
  PS X (.Assign [.Name x pos'] e pos) (ztC te (zjk i)) := by
 intro pins s U H D I h
 refine wpAny_Assign_Name (thn (he pins s U H _ I h) fun v s1 ⟨y, H1, I1, r1, q1⟩ => ?_) hs
 exact zg0 I1 hN hi hx r1 (fun s2 I2 => ⟨_, H1, I2, q1⟩) hf
end
section
variable {X : Cx} {pos : Pos}
def zt9 (c : TT) (tb : TS) : TS := fun D U H => ∃ W : Nat -> St -> Hp -> Prop, (∃ m, W m U H) /\ ∀ m U H, W m U H ->
 c U H fun b H1 => if b = true then ∃ N : St -> Hp -> Prop, (∀ U' H', N U' H' -> ∃ m', m' < m /\ W m' U' H') /\ tb { D with nx := N, ct := N, bk := D.nx } U H1 else D.nx U H1
theorem zpd {c : Expr} {body : List Stmt} {tc : TT} {tb : TS} (hp : PassesOwn (model X.prog X.w) X.A X.env X.xe) (hc : PT X c tc) (hb : PSs X body tb) : PS X (.While c body [] pos) (zt9 tc tb) := by
 intro pins s U H D I h
 obtain ⟨W, ⟨m0, w0⟩, turn⟩ := h
 refine wpAny_While (codeAny_whileLoop (fun n s' => ∃ U' H', Inv X pins U' H' s' /\ W n U' H') ?_ m0 ⟨U, H, I, w0⟩)
 rintro n s1 ⟨U1, H1, I1, w1⟩
 refine wpAny_passesOwn hp (thn (hc pins s1 U1 H1 _ I1 (turn n U1 H1 w1)) fun b s2 ⟨H2, I2, q2⟩ => ?_)
 cases b with
 | true =>
  obtain ⟨N, hN, q2⟩ := q2
  rw [if_pos rfl]
  refine wpAny_passesOwn hp (thn (hb pins s2 U1 H2 _ I2 q2) fun f s3 q3 => ?_)
  cases f with
  | next =>
   obtain ⟨U3, H3, I3, n3⟩ := q3
   obtain ⟨m', hm, w3⟩ := hN U3 H3 n3
   exact ⟨m', hm, U3, H3, I3, w3⟩
  | cont =>
   obtain ⟨U3, H3, I3, n3⟩ := q3
   obtain ⟨m', hm, w3⟩ := hN U3 H3 n3
   exact ⟨m', hm, U3, H3, I3, w3⟩
  | brk => exact q3
  | ret v => exact q3
 | false =>
  rw [if_neg xaw]
  exact wpAny_execs_nil ⟨U1, H2, I2, q2⟩
end
structure It where
 go : Nat -> Hp -> Prop
 yld : Nat -> Hp -> V -> Hp -> Prop
 stop : Nat -> Hp -> Prop
def zmg (X : Cx) (pins : List (Addr × Obj)) (H : Hp) (b : Addr) : Prop :=
 H b = none /\ b ≠ X.env.locals /\ b ∉ X.fs /\ (b ∈ X.ex \/ X.s₀.heap.objs.size <= b) /\ (∀ x c, X.env.cells.lookup x = some c -> c ≠ b) /\ ∀ p ∈ X.pn ++ pins, p.1 ≠ b
theorem Inv.fpOk {X : Cx} {pins : List (Addr × Obj)} {U : St} {H H' : Hp} {s : Shared} {b : Addr} (I : Inv X pins U H s) (hb : s.heap.objs.size <= b) (hn : H' b = none) : zmg X pins H' b := by
 refine ⟨hn, xci (xaq I.lt hb), I.nofs hb, .inr (xa4 I.sz hb), fun x c e z => ?_, fun p hp z => ?_⟩
 ·obtain ⟨v, q⟩ := I.cell x c e
  exact absurd (xaq q.lt (by rw [z]; exact hb)) (xbu _)
 ·exact absurd (xaq (xaf (I.pin p hp).1) (by rw [z]; exact hb)) (xbu _)
structure ztD (P : Program) (w : World) (K : xFg) (tg : Expr) (J : It) (fp : List Addr) (it : Addr) (tn : Nat -> Heap -> Prop) : Prop where
 mem : it ∈ fp
 obj : ∀ i h, tn i h -> ∀ b ∈ fp, ∃ o, h.get? b = some o /\ ∀ v, o.data ≠ .cell v
 keep : ∀ i h h', tn i h -> (∀ b ∈ fp, ∀ o, h.get? b = some o -> h'.get? b = some o) -> tn i h'
 item : ∀ (X : Cx), X.prog = P -> X.w = w -> X.K = K -> X.calm = true -> ∀ (i : Nat) (pins : List (Addr × Obj)) (s : Shared) (U : St) (H : Hp) (E : Value -> Shared -> Prop), Inv X pins U H s -> (∀ b ∈ fp, zmg X pins H b) -> tn i s.heap -> J.go i H ->
  wpAny (model P w) X.A (pyNext (.ref it)) (fun r s1 => ∃ u, r = some u /\
   wpAny (model P w) X.A (letOwnedTupleGo tg (.ref it) u) (fun _ s2 => ∃ x H', Inv X pins U H' s2 /\ RelV x u /\ J.yld i H x H' /\ tn (i + 1) s2.heap /\ ∀ b ∈ fp, H' b = none) E s1) E s
 done : ∀ (X : Cx), X.prog = P -> X.w = w -> X.K = K -> X.calm = true -> ∀ (i : Nat) (pins : List (Addr × Obj)) (s : Shared) (U : St) (H : Hp) (E : Value -> Shared -> Prop), Inv X pins U H s -> (∀ b ∈ fp, zmg X pins H b) -> tn i s.heap -> J.stop i H ->
  wpAny (model P w) X.A (pyNext (.ref it)) (fun r s1 => r = none /\ Inv X pins U H s1) E s
 self : ∀ (A : Around) (i : Nat) (s : Shared) (Q : Value -> Shared -> Prop) (E : Value -> Shared -> Prop), tn i s.heap -> Q (.ref it) s -> wpAny (model P w) A (pyIter (.ref it)) Q E s
abbrev TI := St -> Hp -> (It -> Hp -> Prop) -> Prop
def PIE (X : Cx) (pins : List (Addr × Obj)) (U : St) (tg : Expr) (R : It -> Hp -> Prop) (itv : Value) (s2 : Shared) : Prop :=
 ∃ (it : Addr) (fp : List Addr) (tn : Nat -> Heap -> Prop) (J : It) (H' : Hp), itv = .ref it /\ Inv X pins U H' s2 /\ ztD X.prog X.w X.K tg J fp it tn /\ tn 0 s2.heap /\ (∀ b ∈ fp, zmg X pins H' b) /\ R J H'
def PI (X : Cx) (tg iter : Expr) (wi : TI) : Prop :=
 ∀ (pins : List (Addr × Obj)) (s : Shared) (U : St) (H : Hp) (R : It -> Hp -> Prop), Inv X pins U H s -> wi U H R ->
  wpAny (model X.prog X.w) X.A (eval iter X.env) (fun v s1 => wpAny (model X.prog X.w) X.A (pyIter v) (PIE X pins U tg R) X.xe s1) X.xe s
theorem zr1 {M : Model} {A : Around} {E : Value -> Shared -> Prop} {s : Shared} {tg : Expr} {it : Addr} {u : Value} {o : Obj} {n : String} {vs : Array Value} {Q : Unit -> Shared -> Prop} (ho : s.heap.get? it = some o) (hc : o.cls = .type n) (hd : o.data = .fields vs)
  (hn : ["enumerate", "zip", "dict_itemiterator", "dict_reverseitemiterator", "odict_iterator", "itertools.zip_longest", "itertools.pairwise"].contains n = false) (hQ : Q () s) : wpAny M A (letOwnedTupleGo tg (.ref it) u) Q E s := by
 unfold letOwnedTupleGo
 cases tg <;> first
  | exact wpAny_pure hQ
  | (cases u <;> first
    | exact wpAny_pure hQ
    | (refine wpAny_bind (wpAny_load ho ?_)
       rw [hc, hd]
       show wpAny M A (if (["enumerate", "zip", "dict_itemiterator", "dict_reverseitemiterator", "odict_iterator", "itertools.zip_longest", "itertools.pairwise"].contains n && vs[0]? == some (rawInt _)) = true then _ else _) Q E s
       rw [if_neg (by intro h; rw [hn, Bool.false_and] at h; cases h)]
       exact wpAny_pure hQ))
def Itl (K : xFg) (a : Addr) : It :=
 ⟨fun i H => ∃ xs x, SqL K H a xs /\ xs[i]? = some x, fun i H x H' => H' = H /\ ∀ xs, SqL K H a xs -> xs[i]? = some x, fun i H => ∃ xs, SqL K H a xs /\ xs.length <= i⟩
def Itt (K : xFg) (a : Addr) : It :=
 ⟨fun i H => ∃ xs x, SqT K H a xs /\ xs[i]? = some x, fun i H x H' => H' = H /\ ∀ xs, SqT K H a xs -> xs[i]? = some x, fun i H => ∃ xs, SqT K H a xs /\ xs.length <= i⟩
def Itr (lo : Int) (n : Nat) : It := ⟨fun i _ => i < n, fun i H x H' => H' = H /\ x = .int (lo + i), fun i _ => n <= i⟩
theorem zms {P : Program} {w : World} {K : xFg} {tg : Expr} (a it : Addr) : ztD P w K tg (Itl K a) [it] it (fun i h => h.IsListIter it a i) where
 mem := by simp
 obj := fun i h st b hb => by
  have e : b = it := by simpa using hb
  subst e
  obtain ⟨o, e, c, d⟩ := st
  exact ⟨o, e, fun v z => by rw [d] at z; cases z⟩
 keep := fun i h h' st k => st.at fun o e => k it (by simp) o e
 item := by
  intro X hP hw hK hc i pins s U H E I hf st hg
  subst hP hw hK
  obtain ⟨xs, x, hq, hx⟩ := hg
  obtain ⟨its, rv, p, hz⟩ := I.list hq
  obtain ⟨u, hu, ru⟩ := rv.get hx
  obtain ⟨f0, f1, f2, f3, f4, f5⟩ := hf it (by simp)
  refine wpAny_pyNext_list_item st p.isList (x := u) (by simpa using hu) fun h' st' sb => ?_
  have I1 : Inv X pins U H { s with heap := h' } := I.turned (t' := s.toks) (fun b o hb e => (sb.2 b hb).trans e) f0 f1 f3 f4 f5
  obtain ⟨o, e, c, d⟩ := id st'
  exact ⟨u, rfl, zr1 (s := { s with heap := h' }) e c d (by decide) ⟨x, H, I1, ru, ⟨rfl, fun ys hy => by rw [I.list_inj hy hq]; exact hx⟩, st', fun b hb => (hf b hb).1⟩⟩
 done := by
  intro X hP hw hK hc i pins s U H E I hf st hg
  subst hP hw hK
  obtain ⟨xs, hq, hx⟩ := hg
  obtain ⟨its, rv, p, hz⟩ := I.list hq
  obtain ⟨f0, f1, f2, f3, f4, f5⟩ := hf it (by simp)
  have hl := rv.length
  exact wpAny_pyNext_list_end (I.ok.hd hc) st p.isList (by simp; omega) fun h' eb => ⟨rfl, I.turned (t' := s.toks) (fun b o hb e => eb b o hb e) f0 f1 f3 f4 f5⟩
 self := fun _ _ _ _ _ st h => wpAny_pyIter_listiter st h
theorem zls {P : Program} {w : World} {K : xFg} {tg : Expr} (a it : Addr) : ztD P w K tg (Itt K a) [it] it (fun i h => h.IsTupleIter it a i) where
 mem := by simp
 obj := fun i h st b hb => by
  have e : b = it := by simpa using hb
  subst e
  obtain ⟨o, e, c, d⟩ := st
  exact ⟨o, e, fun v z => by rw [d] at z; cases z⟩
 keep := fun i h h' st k => st.at fun o e => k it (by simp) o e
 item := by
  intro X hP hw hK hc i pins s U H E I hf st hg
  subst hP hw hK
  obtain ⟨xs, x, hq, hx⟩ := hg
  obtain ⟨its, rv, p, hz⟩ := I.tuple hq
  obtain ⟨u, hu, ru⟩ := rv.get hx
  obtain ⟨f0, f1, f2, f3, f4, f5⟩ := hf it (by simp)
  refine wpAny_pyNext_tuple_item st (show s.heap.IsTuple a its.toArray from p) (x := u) (by simpa using hu) fun h' st' sb => ?_
  have I1 : Inv X pins U H { s with heap := h' } := I.turned (t' := s.toks) (fun b o hb e => (sb.2 b hb).trans e) f0 f1 f3 f4 f5
  obtain ⟨o, e, c, d⟩ := id st'
  exact ⟨u, rfl, zr1 (s := { s with heap := h' }) e c d (by decide) ⟨x, H, I1, ru, ⟨rfl, fun ys hy => by rw [I.tuple_inj hy hq]; exact hx⟩, st', fun b hb => (hf b hb).1⟩⟩
 done := by
  intro X hP hw hK hc i pins s U H E I hf st hg
  subst hP hw hK
  obtain ⟨xs, hq, hx⟩ := hg
  obtain ⟨its, rv, p, hz⟩ := I.tuple hq
  obtain ⟨f0, f1, f2, f3, f4, f5⟩ := hf it (by simp)
  have hl := rv.length
  exact wpAny_pyNext_tuple_end (I.ok.hd hc) st (show s.heap.IsTuple a its.toArray from p) (by simp; omega) fun h' eb => ⟨rfl, I.turned (t' := s.toks) (fun b o hb e => eb b o hb e) f0 f1 f3 f4 f5⟩
 self := fun _ _ _ _ _ st h => wpAny_pyIter_tupleiter st h
theorem zlt {P : Program} {w : World} {K : xFg} {tg : Expr} (it : Addr) (lo : Int) (n : Nat) : ztD P w K tg (Itr lo n) [it] it (fun i h => IsRangeIter h it (lo + (i : Nat) * 1) ((n : Int) - (i : Nat)) 1) where
 mem := by simp
 obj := fun i h st b hb => by
  have e : b = it := by simpa using hb
  subst e
  exact ⟨_, st, fun v z => by
   have z' : Data.fields _ = Data.cell v := z
   cases z'⟩
 keep := fun i h h' st k => k it (by simp) _ st
 item := by
  intro X hP hw hK hc i pins s U H E I hf st hg
  subst hP hw hK
  obtain ⟨f0, f1, f2, f3, f4, f5⟩ := hf it (by simp)
  have W := Walks.range (prog := X.prog) (w := X.w) (I.ok.hd hc) it lo 1 n
  refine W.item i s _ _ hg st fun v h' tk hv st' kk => ?_
  obtain ⟨t, rfl⟩ := hv
  have I1 : Inv X pins U H { s with heap := h', toks := tk } := I.turned (fun b o hb e => kk b o (by simpa using hb) e) f0 f1 f3 f4 f5
  refine ⟨_, rfl, zr1 (s := { s with heap := h', toks := tk }) (n := "range_iterator") st' rfl rfl (by decide) ⟨.int (lo + i), H, I1, ⟨t, ?_⟩, ⟨rfl, rfl⟩, st', fun b hb => (hf b hb).1⟩⟩
  rw [Int.mul_one]
 done := by
  intro X hP hw hK hc i pins s U H E I hf st hg
  subst hP hw hK
  obtain ⟨f0, f1, f2, f3, f4, f5⟩ := hf it (by simp)
  exact wpAny_pyNext_range_end (I.ok.hd hc) st (by have : n <= i := hg; omega) fun h' eb => ⟨rfl, I.turned (t' := s.toks) (fun b o hb e => eb b o hb e) f0 f1 f3 f4 f5⟩
 self := fun _ _ _ _ _ st h => wpAny_pyIter_rangeiter st h
end L2
namespace L2
open PySem.Spec PyProof.Rows
section
variable {X : Cx} {tg : Expr}
def zua (K : xFg) (tl : TE) : TI := fun U H R => tl U H fun x H1 => ∃ a, x = .ref a /\ (∃ xs, SqL K H1 a xs) /\ R (Itl K a) H1
def iTup (K : xFg) (tl : TE) : TI := fun U H R => tl U H fun x H1 => ∃ a, x = .ref a /\ (∃ xs, SqT K H1 a xs) /\ R (Itt K a) H1
theorem zr2 {l : Expr} {tl : TE} (hl : PE X l tl) : PI X tg l (zua X.K tl) := by
 intro pins s U H R I h
 refine thn (hl pins s U H _ I h) fun v s1 ⟨x, H1, I1, r1, q1⟩ => ?_
 obtain ⟨a, e, ⟨xs, hq⟩, q⟩ := q1
 subst e
 cases r1
 obtain ⟨its, rv, p, hz⟩ := I1.list hq
 refine wpAny_pyIter_list p.isList ?_
 refine ⟨s1.heap.objs.size, [s1.heap.objs.size], _, _, H1, rfl, I1.kept (t' := s1.toks) fun b o e => xaa _ e, zms a _, ⟨_, xal _ rfl, rfl, rfl⟩, fun b hb => ?_, q⟩
 have e : b = s1.heap.objs.size := by simpa using hb
 subst e
 exact I1.fpOk (xai _) (I1.hok.fresh (xai _))
theorem zub {l : Expr} {tl : TE} (hl : PE X l tl) : PI X tg l (iTup X.K tl) := by
 intro pins s U H R I h
 refine thn (hl pins s U H _ I h) fun v s1 ⟨x, H1, I1, r1, q1⟩ => ?_
 obtain ⟨a, e, ⟨xs, hq⟩, q⟩ := q1
 subst e
 cases r1
 obtain ⟨its, rv, p, hz⟩ := I1.tuple hq
 refine wpAny_pyIter_tuple (show s1.heap.IsTuple a its.toArray from p) ?_
 refine ⟨s1.heap.objs.size, [s1.heap.objs.size], _, _, H1, rfl, I1.kept (t' := s1.toks) fun b o e => xaa _ e, zls a _, ⟨_, xal _ rfl, rfl, rfl⟩, fun b hb => ?_, q⟩
 have e : b = s1.heap.objs.size := by simpa using hb
 subst e
 exact I1.fpOk (xai _) (I1.hok.fresh (xai _))
theorem zjS {pins : List (Addr × Obj)} {U : St} {H : Hp} {s : Shared} {R : It -> Hp -> Prop} {E : Value -> Shared -> Prop} {lo hi : Int} {t u v : Tok} {tk : Nat} (I : Inv X pins U H s) (h1 : -(2 ^ 62) <= lo) (h2 : lo < 2 ^ 62) (h3 : -(2 ^ 62) <= hi) (h4 : hi < 2 ^ 62)
  (q : R (Itr lo (hi - lo).toNat) H) : wpAny (model X.prog X.w) X.A (pyIter (.ref s.heap.objs.size)) (PIE X pins U tg R) E { s with heap := s.heap.push { cls := .type "range", data := .fields #[.int lo t, .int hi u, .int 1 v] }, toks := tk } := by
 refine wpAny_pyIter_range (IsRange.new ..) (small_one h1 h2 h3 h4) ?_
 have I1 : Inv X pins U H { s with heap := s.heap.push { cls := .type "range", data := .fields #[.int lo t, .int hi u, .int 1 v] }, toks := tk } := I.kept fun b o e => xaa _ e
 refine ⟨(s.heap.push { cls := .type "range", data := .fields #[.int lo t, .int hi u, .int 1 v] }).objs.size, [(s.heap.push { cls := .type "range", data := .fields #[.int lo t, .int hi u, .int 1 v] }).objs.size], _, _, H, rfl,
  I1.kept (t' := tk) fun b o e => xaa _ e, zlt _ lo (hi - lo).toNat, ?_, fun b hb => ?_, q⟩
 ·have e1 : lo + ((0 : Nat) : Int) * 1 = lo := by simp
  have e2 : (((hi - lo).toNat : Nat) : Int) - ((0 : Nat) : Int) = Builtin.Range.rangeSize lo hi 1 := by rw [rangeSize_one]; split <;> omega
  show IsRangeIter _ _ (lo + ((0 : Nat) : Int) * 1) ((((hi - lo).toNat : Nat) : Int) - ((0 : Nat) : Int)) 1
  rw [e1, e2]
  exact xal _ rfl
 ·have e : b = (s.heap.push { cls := .type "range", data := .fields #[.int lo t, .int hi u, .int 1 v] }).objs.size := by simpa using hb
  subst e
  exact I1.fpOk (xai _) (I1.hok.fresh (xai _))
def zwE (ta : TA) : TI := fun U H R => ta U H fun vs H1 => ∃ j : Int, vs = [.int j] /\ -(2 ^ 62) <= j /\ j < 2 ^ 62 /\ R (Itr 0 j.toNat) H1
def zwF (ta : TA) : TI := fun U H R => ta U H fun vs H1 => ∃ i j : Int, vs = [.int i, .int j] /\ (-(2 ^ 62) <= i /\ i < 2 ^ 62 /\ -(2 ^ 62) <= j /\ j < 2 ^ 62) /\ R (Itr i (j - i).toNat) H1
theorem zmt {a : Expr} {ta : TA} {p pos : Pos} (hg : Gl X "range") (hm : X.mg "range" = none) (ha : PA X [a] ta) (hs : starEach [a] X.env = [(false, eval a X.env)] := by rfl) : PI X tg (.Call (.Name "range" p) [a] [] pos) (zwE ta) := by
 intro pins s U H R I h
 refine Call_ (zgy I hg hm boot_range (PyProof.Rows.callWith_type1 (thn (ha pos pins s U H _ I h) fun us s1 ⟨vs, H1, I1, r1, q1⟩ => ?_) hs rfl))
 obtain ⟨j, e, q1, q2, q⟩ := q1
 subst e
 cases r1 with
 | cons r rr =>
  cases rr
  obtain ⟨t, rfl⟩ := r
  exact call_range_1 (zjS I1 (by omega) (by omega) q1 q2 (by simpa using q))
theorem zmu {a b : Expr} {ta : TA} {p pos : Pos} (hg : Gl X "range") (hm : X.mg "range" = none) (ha : PA X [a, b] ta) (hs : starEach [a, b] X.env = [(false, eval a X.env), (false, eval b X.env)] := by rfl) (hs2 : starEach [b] X.env = [(false, eval b X.env)] := by rfl) :
  PI X tg (.Call (.Name "range" p) [a, b] [] pos) (zwF ta) := by
 intro pins s U H R I h
 refine Call_ (zgy I hg hm boot_range (PyProof.Rows.callWith_type1 (thn (ha pos pins s U H _ I h) fun us s1 ⟨vs, H1, I1, r1, q1⟩ => ?_) (by rw [hs, hs2]) (by rw [hs2]; rfl)))
 obtain ⟨i, j, e, ⟨q1, q2, q3, q4⟩, q⟩ := q1
 subst e
 cases r1 with
 | cons r rr =>
  cases rr with
  | cons r' rr =>
   cases rr
   obtain ⟨t, rfl⟩ := r
   obtain ⟨t', rfl⟩ := r'
   exact call_range_2 (zjS I1 q1 q2 q3 q4 q)
def tFor (wi : TI) (g : TG) (tb : TS) : TS := fun D U H => wi U H fun J H1 => ∃ W : Nat -> Nat -> St -> Hp -> Prop, (∃ m, W 0 m U H1) /\ ∀ i m U H, W i m U H ->
 (J.stop i H /\ D.nx U H) \/ (J.go i H /\ ∃ N : St -> Hp -> Prop, (∀ U' H', N U' H' -> ∃ m', m' < m /\ W (i + 1) m' U' H') /\ ∀ x H', J.yld i H x H' -> g x U H' fun U2 H2 => tb { D with nx := N, ct := N, bk := D.nx } U2 H2)
def zhW (fp : List Addr) (h : Heap) : List (Addr × Obj) := fp.filterMap fun b => (h.get? b).map fun o => (b, o)
theorem zdk {fp : List Addr} {h : Heap} {b : Addr} {o : Obj} (hb : b ∈ fp) (e : h.get? b = some o) : (b, o) ∈ zhW fp h := xby.mpr ⟨b, hb, by rw [e]; rfl⟩
theorem zmv {fp : List Addr} {h : Heap} {p : Addr × Obj} (hp : p ∈ zhW fp h) : p.1 ∈ fp /\ h.get? p.1 = some p.2 := by
 obtain ⟨b, hb, e⟩ := xby.mp hp
 cases q : h.get? b with
 | none => rw [q] at e; cases e
 | some o =>
  rw [q] at e
  have e' : (b, o) = p := Option.some.inj e
  subst e'
  exact ⟨hb, q⟩
theorem Inv.pinned {pins : List (Addr × Obj)} {U : St} {H : Hp} {s : Shared} {fp : List Addr} (I : Inv X pins U H s) (hf : ∀ b ∈ fp, zmg X pins H b) (ho : ∀ b ∈ fp, ∃ o, s.heap.get? b = some o /\ ∀ v, o.data ≠ .cell v) : Inv X (pins ++ zhW fp s.heap) U H s :=
 I.pins_of fun p hp => (xbr.mp hp).elim (fun z => I.pin p (xbb _ z)) fun z => by
  obtain ⟨hb, e⟩ := zmv z
  obtain ⟨f0, f1, f2, _⟩ := hf p.1 hb
  obtain ⟨o, e', d⟩ := ho p.1 hb
  rw [e] at e'; cases e'
  exact ⟨e, f0, f1, f2, d⟩
theorem Inv.unpinned {pins pl : List (Addr × Obj)} {U : St} {H : Hp} {s : Shared} (I : Inv X (pins ++ pl) U H s) : Inv X pins U H s := I.pins_of fun p hp => I.pin p (xbb _ (List.mem_append_left _ hp))
theorem zqI {iter : Expr} {body : List Stmt} {wi : TI} {g : TG} {tb : TS} {pos : Pos} (hp : PassesOwn (model X.prog X.w) X.A X.env X.xe) (hc : X.calm = true) (hi : PI X tg iter wi) (hg : PG X tg g) (hb : PSs X body tb)
  (hs : ∀ x, foldedSetIterable iter X.env x = pure x := by intro _; rfl) : PS X (.For tg iter body [] pos) (tFor wi g tb) := by
 intro pins s U H D I h
 refine wpAny_For (thn (hi pins s U H _ I h) fun v s1 h1 => thn h1 fun itv s2 h2 => ?_) hs
 obtain ⟨it, fp, tn, J, H2, e, I2, T, st2, f2, W, ⟨m0, w0⟩, turn⟩ := h2
 subst e
 have stat : ∀ {H' : Hp}, (∀ b ∈ fp, H' b = none) -> ∀ b ∈ fp, zmg X pins H' b := fun hn b hb => ⟨hn b hb, (f2 b hb).2⟩
 refine codeAny_forLoop_any (fun n s' => ∃ i U' H', Inv X pins U' H' s' /\ tn i s'.heap /\ (∀ b ∈ fp, H' b = none) /\ W i n U' H') ?_ m0 ⟨0, U, H2, I2, st2, fun b hb => (f2 b hb).1, w0⟩
 rintro n s3 ⟨i, U3, H3, I3, st3, fr3, w3⟩
 rcases turn i n U3 H3 w3 with ⟨stop, qn⟩ | ⟨go, N, hN, step⟩
 ·refine wpAny_passesOwn hp (thn (T.done X rfl rfl rfl hc i pins s3 U3 H3 X.xe I3 (stat fr3) st3 stop) fun r s4 ⟨hr, I4⟩ => ?_)
  subst hr
  exact wpAny_execs_nil ⟨U3, H3, I4, qn⟩
 ·refine wpAny_passesOwn hp (thn (T.item X rfl rfl rfl hc i pins s3 U3 H3 X.xe I3 (stat fr3) st3 go) fun r s4 ⟨u, hr, h4⟩ => ?_)
  subst hr
  refine wpAny_passesOwn hp (thn h4 fun _ s5 ⟨x, H5, I5, r5, y5, st5, fr5⟩ => ?_)
  have I5' := I5.pinned (stat fr5) (T.obj _ _ st5)
  refine wpAny_passesOwn hp (thn (hg _ s5 U3 H5 x u _ I5' r5 (step x H5 y5)) fun _ s6 ⟨U6, H6, I6, q6⟩ => ?_)
  refine wpAny_passesOwn hp (thn (hb _ s6 U6 H6 _ I6 q6) fun f s7 q7 => ?_)
  have again : ∀ {U7 : St} {H7 : Hp}, Inv X (pins ++ zhW fp s5.heap) U7 H7 s7 -> N U7 H7 -> ∃ m, m < n /\ ∃ i U' H', Inv X pins U' H' s7 /\ tn i s7.heap /\ (∀ b ∈ fp, H' b = none) /\ W i m U' H' := fun {U7 H7} I7 n7 => by
   obtain ⟨m', hm, w7⟩ := hN U7 H7 n7
   refine ⟨m', hm, i + 1, U7, H7, I7.unpinned, T.keep _ _ _ st5 fun b hb o e => (I7.pin (b, o) (xbb _ (xbb _ (zdk hb e)))).1, fun b hb => ?_, w7⟩
   obtain ⟨o, e, d⟩ := T.obj _ _ st5 b hb
   exact (I7.pin (b, o) (xbb _ (xbb _ (zdk hb e)))).2.1
  cases f with
  | next => obtain ⟨U7, H7, I7, n7⟩ := q7; exact again I7 n7
  | cont => obtain ⟨U7, H7, I7, n7⟩ := q7; exact again I7 n7
  | brk => obtain ⟨U7, H7, I7, q7⟩ := q7; exact ⟨U7, H7, I7.unpinned, q7⟩
  | ret v => obtain ⟨x7, U7, H7, I7, r7, q7⟩ := q7; exact ⟨x7, U7, H7, I7.unpinned, r7, q7⟩
end
end L2
namespace L2
open PySem.Spec PyProof.Rows
abbrev R2 := V -> V -> Hp -> VK -> Prop
def OpR (X : Cx) (f : Value -> Value -> Sem Value) (r : R2) : Prop :=
 ∀ (pins : List (Addr × Obj)) (s : Shared) (U : St) (H : Hp) (x y : V) (v u : Value) (Q : VK), Inv X pins U H s -> RelV x v -> RelV y u -> r x y H Q ->
  wpAny (model X.prog X.w) X.A (f v u) (EP X pins U Q) X.xe s
def UnR (X : Cx) (f : Value -> Sem Value) (r : V -> Hp -> VK -> Prop) : Prop :=
 ∀ (pins : List (Addr × Obj)) (s : Shared) (U : St) (H : Hp) (x : V) (v : Value) (Q : VK), Inv X pins U H s -> RelV x v -> r x H Q ->
  wpAny (model X.prog X.w) X.A (f v) (EP X pins U Q) X.xe s
def zbw (X : Cx) (f : Value) (r : List V -> Hp -> VK -> Prop) : Prop :=
 ∀ (pins : List (Addr × Obj)) (s : Shared) (U : St) (H : Hp) (xs : List V) (us : List Value) (Q : VK), Inv X pins U H s -> zaP xs us -> r xs H Q ->
  wpAny (model X.prog X.w) X.A (call f us) (EP X pins U Q) X.xe s
def tOp (r : R2) (ta tb : TE) : TE := fun U H Q => ta U H fun x H1 => tb U H1 fun y H2 => r x y H2 Q
def tUn (r : V -> Hp -> VK -> Prop) (ta : TE) : TE := fun U H Q => ta U H fun x H1 => r x H1 Q
def rI (C : Int -> Int -> Prop) (g : Int -> Int -> V) : R2 := fun x y H Q => ∃ i j, x = .int i /\ y = .int j /\ C i j /\ Q (g i j) H
def rI0 (g : Int -> Int -> V) : R2 := fun x y H Q => ∃ i j, x = .int i /\ y = .int j /\ Q (g i j) H
def rU (g : Int -> V) : V -> Hp -> VK -> Prop := fun x H Q => ∃ i, x = .int i /\ Q (g i) H
section
variable {X : Cx} {a b c : Expr} {ta tb tc : TE} {pos : Pos}
theorem zwG (ha : PE X a ta) (hb : PE X b tb) {pins : List (Addr × Obj)} {s : Shared} {U : St} {H : Hp} {R : V -> V -> Hp -> Prop} (I : Inv X pins U H s)
  (h : ta U H fun x H1 => tb U H1 fun y H2 => R x y H2) {Q : Value -> Shared -> Prop} {f : Value -> Value -> Sem Value}
  (hf : ∀ v u s2 x y H2, Inv X pins U H2 s2 -> RelV x v -> RelV y u -> R x y H2 -> wpAny (model X.prog X.w) X.A (f v u) Q X.xe s2) :
  wpAny (model X.prog X.w) X.A (eval a X.env) (fun v s₁ => wpAny (model X.prog X.w) X.A (eval b X.env) (fun u s₂ => wpAny (model X.prog X.w) X.A (f v u) Q X.xe s₂) X.xe s₁) X.xe s := by
 refine thn (ha pins s U H _ I h) fun v s1 ⟨x, H1, I1, r1, q1⟩ => ?_
 refine thn (hb pins s1 U H1 _ I1 q1) fun u s2 ⟨y, H2, I2, r2, q2⟩ => ?_
 exact hf v u s2 x y H2 I2 r1 r2 q2
theorem zwH {op : Operator} {r : R2} (ho : OpR X (binaryOp op) r) (ha : PE X a ta) (hb : PE X b tb) : PE X (.BinOp a op b pos) (tOp r ta tb) := by
 intro pins s U H Q I h
 exact wpAny_BinOp (zwG ha hb I h fun v u s2 x y H2 I2 rx ry q => ho pins s2 U H2 x y v u Q I2 rx ry q)
theorem zuc {op : UnaryOp} {r : V -> Hp -> VK -> Prop} (ho : UnR X (unaryOp op) r) (ha : PE X a ta) : PE X (.UnaryOp op a pos) (tUn r ta) := by
 intro pins s U H Q I h
 exact UnaryOp_ (thn (ha pins s U H _ I h) fun v s1 ⟨x, H1, I1, r1, q1⟩ => ho pins s1 U H1 x v Q I1 r1 q1)
theorem opI {f : Value -> Value -> Sem Value} {C : Int -> Int -> Prop} {g : Int -> Int -> Int}
  (rule : ∀ (i j : Int) (t u : Tok) (s : Shared) (Q : Value -> Shared -> Prop) (E : Value -> Shared -> Prop), C i j -> Q (.int (g i j) s.toks) { s with toks := s.toks + 1 } -> wpAny (model X.prog X.w) X.A (f (.int i t) (.int j u)) Q E s) :
  OpR X f (rI C fun i j => .int (g i j)) := by
 intro pins s U H x y v u Q I rx ry h
 obtain ⟨i, j, rfl, rfl, hc, q⟩ := h
 obtain ⟨t, rfl⟩ := rx
 obtain ⟨t', rfl⟩ := ry
 exact rule i j t t' s _ _ hc ⟨.int (g i j), H, I.tok _, ⟨_, rfl⟩, q⟩
theorem opI0 {f : Value -> Value -> Sem Value} {g : Int -> Int -> Int}
  (rule : ∀ (i j : Int) (t u : Tok) (s : Shared) (Q : Value -> Shared -> Prop) (E : Value -> Shared -> Prop), Q (.int (g i j) s.toks) { s with toks := s.toks + 1 } -> wpAny (model X.prog X.w) X.A (f (.int i t) (.int j u)) Q E s) :
  OpR X f (rI0 fun i j => .int (g i j)) := by
 intro pins s U H x y v u Q I rx ry h
 obtain ⟨i, j, rfl, rfl, q⟩ := h
 obtain ⟨t, rfl⟩ := rx
 obtain ⟨t', rfl⟩ := ry
 exact rule i j t t' s _ _ ⟨.int (g i j), H, I.tok _, ⟨_, rfl⟩, q⟩
theorem zwk {f : Value -> Value -> Sem Value} {g : Int -> Int -> Bool}
  (rule : ∀ (i j : Int) (t u : Tok) (s : Shared) (Q : Value -> Shared -> Prop) (E : Value -> Shared -> Prop), Q (.bool (g i j)) s -> wpAny (model X.prog X.w) X.A (f (.int i t) (.int j u)) Q E s) :
  OpR X f (rI0 fun i j => .bl (g i j)) := by
 intro pins s U H x y v u Q I rx ry h
 obtain ⟨i, j, rfl, rfl, q⟩ := h
 obtain ⟨t, rfl⟩ := rx
 obtain ⟨t', rfl⟩ := ry
 exact rule i j t t' s _ _ ⟨.bl (g i j), H, I, rfl, q⟩
def CPow (i j : Int) : Prop := 0 <= j /\ j <= 1000000 /\ i.natAbs < 2 ^ 64
theorem zlu (k : Nat) : (0 : Int) <= 2 ^ k := by
 rw [two_pow_cast]
 exact Int.natCast_nonneg _
theorem zud : OpR X (binaryOp .Add) (rI0 fun i j => .int (i + j)) := opI0 fun _ _ _ _ _ _ _ q => add_int q
theorem zr3 : OpR X (binaryOp .Mod) (rI (fun _ j => j ≠ 0) fun i j => .int (i.fmod j)) := opI fun _ _ _ _ _ _ _ hc q => mod_int' hc q
theorem zue : OpR X (binaryOp .Pow) (rI CPow fun i j => .int (i ^ j.toNat)) := opI fun _ _ _ _ _ _ _ hc q => pow_int_small hc.1 hc.2.1 hc.2.2 q
theorem zuf : OpR X (binaryOp .RShift) (rI (fun _ j => 0 <= j) fun i j => .int (i / 2 ^ j.toNat)) := opI fun i j _ _ _ _ _ hc q =>
 rshift_int hc (by rw [xcx i (zlu _)]; exact q)
theorem unI {f : Value -> Sem Value} {g : Int -> Int}
  (rule : ∀ (i : Int) (t : Tok) (s : Shared) (Q : Value -> Shared -> Prop) (E : Value -> Shared -> Prop), Q (.int (g i) s.toks) { s with toks := s.toks + 1 } -> wpAny (model X.prog X.w) X.A (f (.int i t)) Q E s) :
  UnR X f (rU fun i => .int (g i)) := by
 intro pins s U H x v Q I rx h
 obtain ⟨i, rfl, q⟩ := h
 obtain ⟨t, rfl⟩ := rx
 exact rule i t s _ _ ⟨.int (g i), H, I.tok _, ⟨_, rfl⟩, q⟩
theorem zqJ : UnR X (unaryOp .USub) (rU fun i => .int (-i)) := unI fun _ _ _ _ _ q => neg_int q
end
section
variable {X : Cx} {a b c : Expr} {ta tb tc : TE} {pos : Pos}
theorem zhX {pins : List (Addr × Obj)} {U : St} {H : Hp} {s : Shared} {Q : VK} {k k' : Bool} (I : Inv X pins U H s) (q : Q (.bl k) H) (e : k = k') : EP X pins U Q (.bool k') s := by
 subst e
 exact ⟨.bl k, H, I, rfl, q⟩
theorem zwI : OpR X (compareOp .Lt) (rI0 fun i j => .bl (decide (i < j))) := zwk fun _ _ _ _ _ _ _ q => lt_int q
theorem zwJ : OpR X (compareOp .LtE) (rI0 fun i j => .bl (decide (i <= j))) := zwk fun _ _ _ _ _ _ _ q => le_int q
theorem zwK : OpR X (compareOp .Gt) (rI0 fun i j => .bl (decide (j < i))) := zwk fun _ _ _ _ _ _ _ q => gt_int q
theorem zwL : OpR X (compareOp .GtE) (rI0 fun i j => .bl (decide (j <= i))) := zwk fun _ _ _ _ _ _ _ q => ge_int q
theorem zmw : OpR X (compareOp .In) (fun x y H Q => ∃ i j, x = .str i /\ y = .str j /\ Q (.bl (!(Builtin.Str.occurrences j i 0 j.length 1).isEmpty)) H) := by
 intro pins s U H x y v u Q I rx ry h
 obtain ⟨i, j, rfl, rfl, q⟩ := h
 obtain ⟨t, rfl⟩ := rx
 obtain ⟨t', rfl⟩ := ry
 exact in_str (zhX I q rfl)
theorem zug : OpR X (compareOp .Is) (fun x y H Q => y = .non /\ Q (.bl (decide (x = .non))) H) := by
 intro pins s U H x y v u Q I rx ry h
 obtain ⟨rfl, q⟩ := h
 cases ry
 refine is_none_gen (zhX I q ?_)
 cases x <;> first
  | (cases rx; rfl)
  | (obtain ⟨t, rfl⟩ := rx; rfl)
theorem zr4 : OpR X (compareOp .IsNot) (fun x y H Q => y = .non /\ Q (.bl (!decide (x = .non))) H) := by
 intro pins s U H x y v u Q I rx ry h
 obtain ⟨rfl, q⟩ := h
 cases ry
 refine isnot_none_gen (zhX I q ?_)
 cases x <;> first
  | (cases rx; rfl)
  | (obtain ⟨t, rfl⟩ := rx; rfl)
theorem OpR.or {f : Value -> Value -> Sem Value} {r r' : R2} (h : OpR X f r) (h' : OpR X f r') : OpR X f (fun x y H Q => r x y H Q \/ r' x y H Q) := by
 intro pins s U H x y v u Q I rx ry q
 rcases q with q | q
 ·exact h pins s U H x y v u Q I rx ry q
 ·exact h' pins s U H x y v u Q I rx ry q
theorem zr5 {op : CmpOp} {r : R2} (ho : OpR X (compareOp op) r) (ha : PE X a ta) (hb : PE X b tb) (hm : behindInMarks op b = false) : PE X (.Compare a [op] [b] pos) (tOp r ta tb) := by
 intro pins s U H Q I h
 exact wpAny_Compare1 (zwG ha hb I h fun v u s2 x y H2 I2 rx ry q => ho pins s2 U H2 x y v u Q I2 rx ry q) hm
def zr6 (t : TE) : TT := fun U H Q => t U H fun x H' => ∃ k, x = .bl k /\ Q k H'
theorem zr7 {op : CmpOp} {r : R2} (ho : OpR X (compareOp op) r) (ha : PE X a ta) (hb : PE X b tb) (hm : behindInMarks op b = false) : PT X (.Compare a [op] [b] pos) (zr6 (tOp r ta tb)) := by
 intro pins s U H Q I h
 refine wpAny_isTrue_Compare1 (thn (ha pins s U H _ I h) fun v s1 ⟨x, H1, I1, r1, q1⟩ => thn (hb pins s1 U H1 _ I1 q1) fun u s2 ⟨y, H2, I2, r2, q2⟩ =>
  thn (ho pins s2 U H2 x y v u _ I2 r1 r2 q2) fun c s3 ⟨z, H3, I3, r3, k, e, q3⟩ => ?_) hm
 subst e
 cases r3
 exact wpAny_truthy_bool ⟨H3, I3, q3⟩
def zqK (r r' : R2) (ta tb tc : TE) : TE := fun U H Q => ta U H fun x H1 => tb U H1 fun y H2 => r x y H2 fun z H3 => ∃ k, z = .bl k /\
 (if k = true then tc U H3 fun w' H4 => r' y w' H4 Q else Q (.bl false) H3)
theorem zpe {op op' : CmpOp} {r r' : R2} (ho : OpR X (compareOp op) r) (ho' : OpR X (compareOp op') r') (ha : PE X a ta) (hb : PE X b tb) (hc : PE X c tc)
  (hm : lastMarks [op, op'] [b, c] = false := by with_unfolding_all rfl) : PT X (.Compare a [op, op'] [b, c] pos) (zr6 (zqK r r' ta tb tc)) := by
 intro pins s U H Q I h
 refine isTrue_chain (thn (ha pins s U H _ I h) fun v s1 ⟨x, H1, I1, r1, q1⟩ => test_link (thn (hb pins s1 U H1 _ I1 q1) fun u s2 ⟨y, H2, I2, r2, q2⟩ =>
  thn (ho pins s2 U H2 x y v u _ I2 r1 r2 q2) fun d s3 ⟨z, H3, I3, r3, k, e, q3⟩ => ?_)) hm
 subst e
 cases r3
 refine wpAny_truthy_bool ?_
 cases k with
 | false =>
  obtain ⟨k', e', q'⟩ := q3
  cases e'
  exact ite_ff ⟨H3, I3, q'⟩
 | true =>
  refine ite_tt (test_last (thn (hc pins s3 U H3 _ I3 q3) fun w' s4 ⟨z', H4, I4, r4, q4⟩ => thn (ho' pins s4 U H4 y z' u w' _ I4 r2 r4 q4) fun d' s5 ⟨z2, H5, I5, r5, k2, e2, q5⟩ => ?_))
  subst e2
  cases r5
  exact wpAny_truthy_bool ⟨H5, I5, q5⟩
theorem zhY : (sizeLine : Nat) < 2 ^ 63 := by rw [sizeLine_eq]; decide
theorem zlv : OpR X (binaryOp .Add) (fun x y H Q => ∃ i j, x = .str i /\ y = .str j /\ i.length + j.length <= sizeLine /\ Q (.str (i ++ j)) H) := by
 intro pins s U H x y v u Q I rx ry h
 obtain ⟨i, j, rfl, rfl, hz, q⟩ := h
 obtain ⟨t, rfl⟩ := rx
 obtain ⟨t', rfl⟩ := ry
 exact add_str (fun t' tk => ⟨.str (i ++ j), H, I.tok _, ⟨_, rfl⟩, q⟩) hz
theorem zeu {x : V} {us : List Value} (r : zaP [x] us) : ∃ u, us = [u] /\ RelV x u := by
 cases r with
 | cons r1 r2 => cases r2; exact ⟨_, rfl, r1⟩
theorem zpf {x y : V} {us : List Value} (r : zaP [x, y] us) : ∃ u w', us = [u, w'] /\ RelV x u /\ RelV y w' := by
 cases r with
 | cons r1 r2 =>
  cases r2 with
  | cons r3 r4 => cases r4; exact ⟨_, _, rfl, r1, r3⟩
theorem zpg : zbw X (.builtin "abs") (fun xs H Q => ∃ i, xs = [.int i] /\ Q (.int (if i < 0 then -i else i)) H) := by
 intro pins s U H xs us Q I r h
 obtain ⟨i, rfl, q⟩ := h
 obtain ⟨u, rfl, t, rfl⟩ := zeu r
 exact call_abs_int fun u tk => ⟨.int (if i < 0 then -i else i), H, I.tok _, ⟨_, rfl⟩, q⟩
theorem zmx (hc : X.calm = true) : zbw X (.builtin "max") (fun xs H Q => ∃ i j, xs = [.int i, .int j] /\ Q (.int (if j > i then j else i)) H) := by
 intro pins s U H xs us Q I r h
 obtain ⟨i, j, rfl, q⟩ := h
 obtain ⟨u, w', rfl, ⟨t, rfl⟩, ⟨t', rfl⟩⟩ := zpf r
 refine max_two_ints (I.ok.hd hc) fun h' tk k => ⟨_, H, I.kept k, ?_, q⟩
 by_cases hj : j > i
 ·rw [if_pos hj, if_pos hj]; exact ⟨_, rfl⟩
 ·rw [if_neg hj, if_neg hj]; exact ⟨_, rfl⟩
theorem zmy (hc : X.calm = true) : zbw X (.builtin "min") (fun xs H Q => ∃ i j, xs = [.int i, .int j] /\ Q (.int (if j < i then j else i)) H) := by
 intro pins s U H xs us Q I r h
 obtain ⟨i, j, rfl, q⟩ := h
 obtain ⟨u, w', rfl, ⟨t, rfl⟩, ⟨t', rfl⟩⟩ := zpf r
 refine min_two_ints (I.ok.hd hc) fun h' tk k => ⟨_, H, I.kept k, ?_, q⟩
 by_cases hj : j < i
 ·rw [if_pos hj, if_pos hj]; exact ⟨_, rfl⟩
 ·rw [if_neg hj, if_neg hj]; exact ⟨_, rfl⟩
end
end L2
namespace L2
open PySem.Spec PyProof.Rows
structure ze9 (k : Nat) (A : Around) : Prop where
 hd : A.handled = none
 dp : A.depth + 3 * k + 5 < recursionLimit
 un : A.units + 16 * k + 200 < cLine
theorem ze9.mono {j k : Nat} {A : Around} (r : ze9 k A) (h : j <= k) : ze9 j A := ⟨r.hd, by have := r.dp; omega, by have := r.un; omega⟩
theorem ze9.deeper {k : Nat} {A : Around} (r : ze9 (k + 1) A) (env : Env) : ze9 k (A.deeper env) :=
 ⟨r.hd, by have := r.dp; show A.depth + 1 + 3 * k + 5 < _; omega, by have := r.un; show A.units + 3 + 16 * k + 200 < _; omega⟩
theorem ze9.depth {k : Nat} {A : Around} (r : ze9 k A) : A.depth < recursionLimit := by have := r.dp; omega
def tNil : TA := fun _ H Q => Q [] H
def zwM (ta : TE) (tr : TA) : TA := fun U H Q => ta U H fun x H1 => tr U H1 fun xs H2 => Q (x :: xs) H2
section
variable {X : Cx} {e : Expr} {es : List Expr} {te : TE} {t : TA} {pos : Pos}
theorem zjT : PA X [] tNil := fun _ _ _ _ H Q I h => Calls.spliced_nil ⟨[], H, I, .nil, h⟩
theorem zg2 (ha : PE X e te) (hr : PA X es t) (hs : starEach (e :: es) X.env = (false, eval e X.env) :: starEach es X.env := by rfl) : PA X (e :: es) (zwM te t) := by
 intro pos pins s U H Q I h
 rw [hs]
 show wpAny _ _ (spliced ((false, eval e X.env) :: backTo pos (starEach es X.env))) _ _ s
 refine Calls.spliced_cons (thn (ha pins s U H _ I h) fun u s1 ⟨x, H1, I1, r1, q1⟩ => ?_)
 exact thn (hr pos pins s1 U H1 _ I1 q1) fun us s2 ⟨xs, H2, I2, r2, q2⟩ => ⟨x :: xs, H2, I2, .cons r1 r2, q2⟩
def tTup (t : TA) : TE := fun U H Q => t U H fun xs H1 => xs.length <= sizeLine /\ ∀ p, H1 p = none -> Q (.ref p) (upd H1 p (.tup xs))
def tLst (t : TA) : TE := fun U H Q => t U H fun xs H1 => xs.length <= sizeLine /\ ∀ p, H1 p = none -> Q (.ref p) (upd H1 p (.lst xs))
theorem zuh {x1} (h : PA X es t) : PE X (.Tuple es x1 pos) (tTup t) := by
 intro pins s U H Q I hq
 refine wpAny_Tuple_spliced (thn (h pos pins s U H _ I hq) fun us s1 ⟨xs, H1, I1, r, z, q⟩ => ⟨by rw [<- r.length]; exact z, ?_⟩)
 have hf : H1 s1.heap.objs.size = none := I1.hok.fresh (xai _)
 refine ⟨.ref s1.heap.objs.size, upd H1 s1.heap.objs.size (.tup xs), I1.laid (t' := s1.toks) (fun b u e => xaa _ e) (xai _) ?_, rfl, q _ hf⟩
 exact ⟨z, us, r, ⟨_, xal _ rfl, rfl, _, rfl⟩⟩
theorem zui (h : PA X es t) : PE X (.List es pos) (tLst t) := by
 intro pins s U H Q I hq
 refine wpAny_List_spliced (thn (h pos pins s U H _ I hq) fun us s1 ⟨xs, H1, I1, r, z, q⟩ => ⟨by rw [<- r.length]; exact z, ?_⟩)
 have hf : H1 s1.heap.objs.size = none := I1.hok.fresh (xai _)
 refine ⟨.ref s1.heap.objs.size, upd H1 s1.heap.objs.size (.lst xs), I1.laid (t' := s1.toks) (fun b u e => xaa _ e) (xai _) ?_, rfl, q _ hf⟩
 exact ⟨z, us, 0, r, xal _ rfl⟩
end
abbrev Sp := List V -> Hp -> VK -> XK -> Prop
abbrev CXT := List Env -> Hp -> Shared -> XK -> Value -> Shared -> Prop
structure zwl (P : Program) (w : World) (K : xFg) (mg : Str -> Option Value) (base : Heap) (A : Around) (outer : List Env) (s : Shared) (H : Hp) : Prop where
 frames : A.frames = some outer
 mod : Mod K mg base
 bs : ∀ b o, base.get? b = some o -> s.heap.get? b = some o /\ H b = none
 bsz : base.objs.size <= s.heap.objs.size
 funs : s.heap.FunFrames base outer
 frf : ∀ b ∈ frs outer, H b = none
 hok : HOk P w H s.heap
 bare : AllBare s.gens
def CE (outer : List Env) (P : Program) (w : World) (H : Hp) (s : Shared) (Q : VK) (u : Value) (s' : Shared) : Prop :=
 ∃ v H', s'.os = s.os /\ AllBare s'.gens /\ Un (frs outer) [] H H' s.heap s'.heap /\ HOk P w H' s'.heap /\ RelV v u /\ Q v H'
def CR (CX : CXT) (outer : List Env) (P : Program) (w : World) (H : Hp) (s : Shared) (Q : VK) (E : XK) (r : Result) (s' : Shared) : Prop :=
 match r with
 | .ok (.ret u) => CE outer P w H s Q u s'
 | .ok _ => False
 | .error e => CX outer H s E e s'
structure zg3 (P : Program) (w : World) (K : xFg) (mg : Str -> Option Value) (base : Heap) (CX : CXT) (k : Nat) (f : Addr) (fd : FuncData) (ps : List Str) (sp : Sp) : Prop where
 len : ∀ vs H Q E, sp vs H Q E -> vs.length = ps.length
 run : ∀ (A : Around) (outer : List Env) (s : Shared) (H : Hp) (args : Args) (us : List Value) (vs : List V) (Q : VK) (E : XK), ze9 k A -> zwl P w K mg base A outer s H -> BindsTo s fd args (ps.zip us) -> zaP vs us -> sp vs H Q E ->
  codeAny (model P w) A (.call (.ref f) args) (CR CX outer P w H s Q E) s
theorem zg3.mono {P : Program} {w : World} {K : xFg} {mg : Str -> Option Value} {base : Heap} {CX : CXT} {j k : Nat} {f : Addr} {fd : FuncData} {ps : List Str} {sp : Sp} (F : zg3 P w K mg base CX j f fd ps sp) (h : j <= k) :
  zg3 P w K mg base CX k f fd ps sp := ⟨F.len, fun A outer s H args us vs Q E hr => F.run A outer s H args us vs Q E (hr.mono h)⟩
theorem zg3.imp {P : Program} {w : World} {K : xFg} {mg : Str -> Option Value} {base : Heap} {CX : CXT} {k : Nat} {f : Addr} {fd : FuncData} {ps : List Str} {sp sp' : Sp} (F : zg3 P w K mg base CX k f fd ps sp)
  (h : ∀ vs H Q E, sp' vs H Q E -> sp vs H Q E) : zg3 P w K mg base CX k f fd ps sp' :=
 ⟨fun vs H Q E q => F.len vs H Q E (h _ _ _ _ q), fun A outer s H args us vs Q E hr he hb hv hs => F.run A outer s H args us vs Q E hr he hb hv (h _ _ _ _ hs)⟩
section
variable {X : Cx} {pins : List (Addr × Obj)} {U : St} {H : Hp} {s s' : Shared}
theorem Inv.env0 (I : Inv X pins U H s) : zwl X.prog X.w X.K X.mg X.base X.A X.stack s H :=
 ⟨I.ok.frames, I.ok.mod, I.bs, xa4 I.ok.bsz I.sz, I.stack, I.stkFree, I.hok, I.bare⟩
theorem Inv.after {Q : VK} {u : Value} (I : Inv X pins U H s) (h : CE X.stack X.prog X.w H s Q u s') : EP X pins U Q u s' := by
 obtain ⟨v, H', os, bare, un, hok, r, q⟩ := h
 obtain ⟨hh, g, d, t, os'⟩ := s'
 obtain rfl : os' = s.os := os
 exact ⟨v, H', I.call (h' := hh) (g' := g) (d' := d) (t' := t) (ch := []) un hok bare (fun b z => absurd z (by simp)), r, q⟩
end
def zwN (sp : Sp) (dvs : List V) (E : XK) (t : TA) : TE := fun U H Q => t U H fun vs H1 => sp (vs ++ dvs) H1 Q E
def zhZ (K : xFg) (fd : FuncData) (ps : List Str) (ds : List Value) : Prop :=
 ∀ (s : Shared) (us : List Value), K.In s.heap -> (us ++ ds).length = ps.length -> BindsTo s fd ⟨us, []⟩ (ps.zip (us ++ ds))
theorem zhZ.all {K : xFg} {fd : FuncData} {ps : List Str} (h : ∀ us : List Value, us.length = ps.length -> bindArgs fd ⟨us, []⟩ = pure (ps.zip us)) : zhZ K fd ps [] := fun s us _ hl => by
 rw [xc3] at hl ⊢
 exact .of_eq (h us hl)
def zh0 (CX : CXT) (X : Cx) (E : XK) : Prop := ∀ (pins : List (Addr × Obj)) (U : St) (H : Hp) (s : Shared) (e : Value) (s' : Shared), Inv X pins U H s -> CX X.stack H s E e s' -> X.xe e s'
section
variable {X : Cx} {CX : CXT} {k : Nat} {f C : Addr} {fd : FuncData} {ps : List Str} {sp : Sp} {dvs : List V} {ds : List Value} {E : XK} {x m : Str} {p pos apos : Pos} {e o : Expr} {es : List Expr} {ta : TE} {t : TA}
theorem zuj {pins : List (Addr × Obj)} {U : St} {H : Hp} {s : Shared} {Q : VK} {us : List Value} {vs : List V} (F : zg3 X.prog X.w X.K X.mg X.base CX k f fd ps sp) (hr : ze9 k X.A) (hb : zhZ X.K fd ps ds) (hd : zaP dvs ds) (hx : zh0 CX X E)
  (I : Inv X pins U H s) (r : zaP vs us) (h : sp (vs ++ dvs) H Q E) : wpAny (model X.prog X.w) X.A (call (.ref f) us) (EP X pins U Q) X.xe s := by
 have r2 : zaP (vs ++ dvs) (us ++ ds) := r.append hd
 have hl : (us ++ ds).length = ps.length := by rw [<- r2.length]; exact F.len _ _ _ _ h
 refine wpAny_call (codeAny_mono (F.run X.A X.stack s H ⟨us, []⟩ (us ++ ds) (vs ++ dvs) Q E hr I.env0 (hb s us I.kIn hl) r2 h) fun r s' hq => ?_)
 cases r with
 | error e => exact hx pins U H s e s' I hq
 | ok fl =>
  cases fl with
  | ret u => exact I.after hq
  | next => exact False.elim hq
  | brk => exact False.elim hq
  | cont => exact False.elim hq
theorem zr8 (F : zg3 X.prog X.w X.K X.mg X.base CX k f fd ps sp) (hr : ze9 k X.A) (hg : Gl X x) (hm : X.mg x = some (.ref f)) (hk : PySem.W.keepIn X.K (.ref f) = true) (hb : zhZ X.K fd ps ds) (hd : zaP dvs ds) (hx : zh0 CX X E)
  (ha : PA X (e :: es) t) (hdb : (x == ("__debug__" : Str)) = false := by decide) (he : starEach (e :: es) X.env = (false, eval e X.env) :: starEach es X.env := by rfl) (hpl : (backTo pos (starEach es X.env)).any (·.1) = false := by rfl) :
  PE X (.Call (.Name x p) (e :: es) [] pos) (zwN sp dvs E t) := by
 intro pins s U H Q I h
 refine wpAny_Call_Name_kw (zjj I hg hm ?_ hdb)
 refine PySem.W.callWith_K (h₀ := X.base) I.ok.mod.kin hk (thn (ha pos pins s U H _ I h) fun us s1 ⟨vs, H1, I1, r, q⟩ => ⟨I1.kIn, ?_⟩) he hpl
 exact zuj F hr hb hd hx I1 r q
end
structure zdK (N P : List Str) (sc : Scope) : Prop where
 kind : sc.kind = .function
 co : sc.isCoroutine = false
 gen : sc.isGenerator = false
 nd : N.Nodup
 pre : N.take P.length = P
 par : ∀ x ∈ P, sc.names.lookup x = some .local \/ sc.names.lookup x = some .cell
 nofree : ∀ y ∈ sc.names, y.2 ≠ .free
theorem zh1 {kindOf : Str -> Option NameKind} {x : Str} : ∀ {binds : List (Str × Value)} {m : Str -> Option Value}, (∀ v, (x, v) ∉ binds) -> bindL kindOf binds m x = m x
 | [], _, _ => rfl
 | (n, v) :: r, m, h => by
  unfold bindL
  rw [zh1 fun w hw => h w (xad _ hw)]
  split
  ·have : x ≠ n := by rintro rfl; exact h v xab
   simp [this]
  ·rfl
theorem zh2 {kindOf : Str -> Option NameKind} {x : Str} : ∀ {binds : List (Str × Value)} {m : Str -> Option Value}, (∀ v, (x, v) ∉ binds) -> bindC kindOf binds m x = m x
 | [], _, _ => rfl
 | (n, v) :: r, m, h => by
  unfold bindC
  rw [zh2 fun w hw => h w (xad _ hw)]
  split
  ·rfl
  ·have : x ≠ n := by rintro rfl; exact h v xab
   simp [this]
theorem zh3 {kindOf : Str -> Option NameKind} {x : Str} {v : Value} : ∀ {P : List Str} {vs : List Value} {i : Nat} {m : Str -> Option Value}, P.Nodup -> P[i]? = some x -> vs[i]? = some v -> kindOf x = some .local ->
  bindL kindOf (P.zip vs) m x = some v
 | [], _, _, _, _, h, _, _ => by simp at h
 | _ :: _, [], _, _, _, _, h, _ => by simp at h
 | p :: P, w :: vs, 0, m, nd, h1, h2, hk => by
  simp at h1 h2; subst h1; subst h2
  show bindL kindOf ((p, w) :: P.zip vs) m p = _
  unfold bindL
  rw [zh1 fun v hv => (xbh.mp nd).1 (xc4 hv).1, if_pos hk]
  simp
 | p :: P, w :: vs, i + 1, m, nd, h1, h2, hk => by
  show bindL kindOf ((p, w) :: P.zip vs) m x = _
  unfold bindL
  exact zh3 (i := i) (xbh.mp nd).2 (by simpa using h1) (by simpa using h2) hk
theorem zh4 {kindOf : Str -> Option NameKind} {x : Str} {v : Value} : ∀ {P : List Str} {vs : List Value} {i : Nat} {m : Str -> Option Value}, P.Nodup -> P[i]? = some x -> vs[i]? = some v -> kindOf x ≠ some .local ->
  bindC kindOf (P.zip vs) m x = some v
 | [], _, _, _, _, h, _, _ => by simp at h
 | _ :: _, [], _, _, _, _, h, _ => by simp at h
 | p :: P, w :: vs, 0, m, nd, h1, h2, hk => by
  simp at h1 h2; subst h1; subst h2
  show bindC kindOf ((p, w) :: P.zip vs) m p = _
  unfold bindC
  rw [zh2 fun v hv => (xbh.mp nd).1 (xc4 hv).1, if_neg hk]
  simp
 | p :: P, w :: vs, i + 1, m, nd, h1, h2, hk => by
  show bindC kindOf ((p, w) :: P.zip vs) m x = _
  unfold bindC
  exact zh4 (i := i) (xbh.mp nd).2 (by simpa using h1) (by simpa using h2) hk
def start (N : List Str) (vs : List V) : St := vs.map some ++ List.replicate (N.length - vs.length) none
def zgl (CX : CXT) (P : Program) (w : World) (K : xFg) (mg : Str -> Option Value) (base : Heap) (N : List Str) (qual : Str) (scope : Scope) (f : Addr) (cd : Value) (A : Around) (outer : List Env) (s : Shared) (H : Hp) (E : XK) : Cx where
 prog := P
 w := w
 K := K
 mg := mg
 base := base
 A := A.deeper (envOfC qual scope s.heap.objs.size f cd)
 N := N
 s₀ := s
 H₀ := H
 env := envOfC qual scope s.heap.objs.size f cd
 outer := outer
 stack := envOfC qual scope s.heap.objs.size f cd :: outer
 ex := []
 calm := true
 fn := fun _ => true
 pn := []
 xe := fun e s' => wpAny (model P w) (A.deeper (envOfC qual scope s.heap.objs.size f cd)) (leaving (envOfC qual scope s.heap.objs.size f cd) e) (fun _ s'' => CX outer H s E e s'') (fun e' s'' => CX outer H s E e' s'') s'
theorem zjU {sc : Scope} {n : Nat} {x : Str} (h : sc.names.lookup x = some .cell) : ∃ c, (cellsFrom n sc.names []).lookup x = some c := by
 have q := PySem.W.cellsFrom_some sc.names n [] (.inl h)
 exact xbi.mp q
theorem zmz {CX : CXT} {P : Program} {w : World} {K : xFg} {mg : Str -> Option Value} {base : Heap} {N ps : List Str} {qual : Str} {scope : Scope} {f : Addr} {cd : Value} {A : Around} {outer : List Env} {s s1 : Shared} {H : Hp} {E : XK} {us : List Value} {vs : List V}
  (S : zdK N ps scope) (hd : A.handled = none) (e0 : zwl P w K mg base A outer s H) (hl : vs.length = ps.length) (r : zaP vs us)
  (x : InCallC s s.heap.objs.size (bindL (envOfC qual scope s.heap.objs.size f cd).kindOf (ps.zip us) fun _ => none) (cellsFrom (s.heap.objs.size + 1) scope.names []) (bindC (envOfC qual scope s.heap.objs.size f cd).kindOf (ps.zip us) fun _ => none) s1) :
  Inv (zgl CX P w K mg base N qual scope f cd A outer s H E) [] (start N vs) H s1 := by
 have hpl : ps.length <= N.length := by have := congrArg List.length S.pre; rw [xbj] at this; omega
 obtain ⟨h1, tk, rfl, hk⟩ := x.done
 have noA : ∀ b : Addr, b ∉ (zgl CX P w K mg base N qual scope f cd A outer s H E).ex := fun b z => absurd (show b ∈ ([] : List Addr) from z) (by simp)
 refine ⟨⟨e0.mod, S.kind, rfl, rfl, xai _, fun y z c h1 h2 => ?_, fun y hy => ?_, fun y c _ h => ?_, fun _ => hd, Around.frames_deeper e0.frames, .inr ⟨rfl, rfl⟩, fun b z => absurd z (noA b), e0.bs, e0.bsz, fun b _ _ => noA b, fun b z => absurd z (noA b), e0.funs, e0.frf⟩,
  rfl, e0.bare, Un.kept hk, ⟨_, x.toInCall.ns, fun i y v h1 h2 h3 => ?_⟩, fun y c h => ⟨_, x.cell y c h⟩, e0.hok.fresh (xai _), fun y c h => ?_, fun p hp => absurd (show p ∈ ([] : List (Addr × Obj)) from hp) (by simp), e0.hok.kept hk, ?_⟩
 ·exact name_of_addr x.apart (PySem.mem_of_lookup h1) (PySem.mem_of_lookup h2)
 ·have hy : scope.names.lookup y = some .cell \/ scope.names.lookup y = some .free := hy
  rcases hy with hy | hy
  ·exact zjU hy
  ·exact absurd rfl (S.nofree _ (PySem.mem_of_lookup hy))
 ·exact xc7 (x.above y c (PySem.mem_of_lookup h))
 ·have hi : i < vs.length := by
   unfold start at h2
   by_cases hi : i < vs.length
   ·exact hi
   ·rw [xcy (by simpa using hi)] at h2
    rw [xdc] at h2
    split at h2 <;> cases h2
  have ha : vs[i]? = some v := by
   unfold start at h2
   rw [xce (by simpa using hi), xa6] at h2
   cases e : vs[i]? with
   | none => rw [e] at h2; cases h2
   | some a => rw [e] at h2; cases h2; rfl
  obtain ⟨u, hu, rv⟩ := r.get ha
  have hp : ps[i]? = some y := by
   rw [<- S.pre, List.getElem?_take_of_lt (by omega)]; exact h1
  have ndP : ps.Nodup := by rw [<- S.pre]; exact S.nd.sublist (List.take_sublist _ _)
  refine ⟨u, rv, ?_⟩
  rcases S.par y (xbn hp) with k | k
  ·exact .inl ⟨k, zh3 ndP hp hu k⟩
  ·obtain ⟨c, e⟩ := zjU (n := s.heap.objs.size + 1) k
   refine .inr ⟨.inl k, c, e, ?_⟩
   have q := x.cell y c e
   rw [zh4 ndP hp hu (by show scope.names.lookup y ≠ _; rw [k]; decide)] at q
   exact q
 ·exact e0.hok.fresh (xc7 (x.above y c (PySem.mem_of_lookup h)))
 ·unfold start
  show _ = N.length
  rw [xbc, xae, xdn]
  omega
theorem zwO {CX : CXT} {P : Program} {w : World} {K : xFg} {mg : Str -> Option Value} {base : Heap} {k : Nat} {f : Addr} {name qual : Str} {params : Arguments} {body : List Stmt} {scope : Scope} {dV kV doc pm cdv ct oc : Value} {an od : Option Addr}
  {osl : Array (Option Value)} {N ps : List Str} {sp : Sp} (lk : K.lookup f = some ⟨oc, od, .func (PySem.W.fnOf name qual params body scope dV kV doc pm an cdv ct), osl⟩) (hcd : PySem.W.codeIn K cdv qual = true) (S : zdK N ps scope)
  (len : ∀ vs H Q E, sp vs H Q E -> vs.length = ps.length)
  (hbody : ∀ (A : Around) (outer : List Env) (s : Shared) (H : Hp) (vs : List V) (Q : VK) (E : XK), ze9 k (A.deeper (envOfC qual scope s.heap.objs.size f cdv)) -> sp vs H Q E ->
   ∃ t, PSs (zgl CX P w K mg base N qual scope f cdv A outer s H E) body t /\ t { nx := fun _ H' => Q .non H', rt := Q } (start N vs) H) :
  zg3 P w K mg base CX (k + 1) f (PySem.W.fnOf name qual params body scope dV kV doc pm an cdv ct) ps sp := by
 refine ⟨len, fun A outer s H args us vs Q E hr e0 hb r hsp => ?_⟩
 have hl := len _ _ _ _ hsp
 have KX : K.In s.heap := e0.mod.kin.keeps fun b o e => (e0.bs b o e).1
 have lim : s.heap.NoLimit := e0.mod.nolimit.keeps fun b o e => (e0.bs b o e).1
 have hkind : ∀ y ∈ ps.zip us, scope.names.lookup y.1 = some .local \/ (scope.names.lookup y.1 = some .cell /\ ((cellsFrom (s.heap.objs.size + 1) scope.names []).lookup y.1).isSome = true) := fun ⟨n, v⟩ hy => by
  rcases S.par n (xc4 hy).1 with q | q
  ·exact .inl q
  ·exact .inr ⟨q, PySem.W.cellsFrom_some _ _ _ (.inl q)⟩
 refine codeAny_call_function hr.depth (KX _ _ lk) rfl S.co S.gen rfl (PySem.W.codeRec_of KX hcd) (hb _ _ _ _ ?_)
 refine wpAny_newFunctionEnv_cells S.kind hkind fun env he s1 x => ?_
 subst he
 refine ⟨lim.keeps x.toInCall.keep, codeAny_func ?_⟩
 obtain ⟨t, ht, hq⟩ := hbody A outer s H vs Q E (hr.deeper _) hsp
 have I : Inv (zgl CX P w K mg base N qual scope f cdv A outer s H E) [] (start N vs) H s1 := zmz S hr.hd e0 hl r x
 refine wpAny_mono (ht [] s1 (start N vs) H _ I hq) (fun fl s' hs => ?_) fun e s' hs => hs
 have fin : ∀ {U' : St} {H' : Hp} {v : V} {u : Value}, Inv (zgl CX P w K mg base N qual scope f cdv A outer s H E) [] U' H' s' -> RelV v u -> Q v H' -> CE outer P w H s Q u s' :=
  fun {U' H' v u} J rv q => ⟨v, H', J.os, J.bare, J.base, J.hok, rv, q⟩
 cases fl with
 | ret u =>
  obtain ⟨v, U', H', J, rv, q⟩ := hs
  exact fin J rv q
 | next =>
  obtain ⟨U', H', J, q⟩ := hs
  exact fin (v := V.non) (u := Value.none) J rfl q
 | brk =>
  obtain ⟨_, _, _, q⟩ := hs
  exact False.elim q
 | cont =>
  obtain ⟨_, _, _, q⟩ := hs
  exact False.elim q
end L2
namespace L2
open PySem.Spec PyProof.Rows
section
variable {X : Cx} {x : Str} {p pos : Pos} {e : Expr} {es : List Expr} {t : TA} {id T : String} {r : List V -> Hp -> VK -> Prop}
def tCB (r : List V -> Hp -> VK -> Prop) (t : TA) : TE := fun U H Q => t U H fun vs H1 => r vs H1 Q
theorem zfa (hc : zbw X (.builtin id) r) (hg : Gl X x) (hm : X.mg x = none) (hv : bootBuiltins x = some (.builtin id)) (ha : PA X (e :: es) t) (hn : x ≠ "__name__" := by decide) (hdb : (x == ("__debug__" : Str)) = false := by decide)
  (he : starEach (e :: es) X.env = (false, eval e X.env) :: starEach es X.env := by rfl) (hpl : (backTo pos (starEach es X.env)).any (·.1) = false := by rfl) : PE X (.Call (.Name x p) (e :: es) [] pos) (tCB r t) := by
 intro pins s U H Q I h
 refine wpAny_Call_Name_kw (zgy I hg hm hv ?_ hn hdb)
 exact PyProof.Rows.callWith_builtin1 (thn (ha pos pins s U H _ I h) fun us s1 ⟨vs, H1, I1, r1, q1⟩ => hc pins s1 U H1 vs us Q I1 r1 q1) he hpl
theorem zdP (hc : zbw X (.type T) r) (hg : Gl X x) (hm : X.mg x = none) (hv : bootBuiltins x = some (.type T)) (ha : PA X (e :: es) t) (hn : x ≠ "__name__" := by decide) (hdb : (x == ("__debug__" : Str)) = false := by decide)
  (he : starEach (e :: es) X.env = (false, eval e X.env) :: starEach es X.env := by rfl) (hpl : (backTo pos (starEach es X.env)).any (·.1) = false := by rfl) : PE X (.Call (.Name x p) (e :: es) [] pos) (tCB r t) := by
 intro pins s U H Q I h
 refine wpAny_Call_Name_kw (zgy I hg hm hv ?_ hn hdb)
 exact PyProof.Rows.callWith_type1 (thn (ha pos pins s U H _ I h) fun us s1 ⟨vs, H1, I1, r1, q1⟩ => hc pins s1 U H1 vs us Q I1 r1 q1) he hpl
end
end L2
namespace HT
open PyProof.Rows
section
variable {prog : Program} {w : World} {A : Around} {E : Value -> Shared -> Prop} {s : Shared}
theorem cat_tup {t b : Addr} {vs ws : List Value} {Q : Value -> Shared -> Prop} (ht : IsTup s.heap t vs.toArray) (hb : IsTup s.heap b ws.toArray) (hv : vs ≠ [])
  (h1 : ws = [] -> Q (.ref t) s) (h2 : ws ≠ [] -> Q (.ref s.heap.objs.size) { s with heap := s.heap.push { cls := .type "tuple", data := .seq (vs ++ ws).toArray } })
  (hsz : vs.length + ws.length <= sizeLine) : wpAny (model prog w) A (binaryOp .Add (.ref t) (.ref b)) Q E s := by
 obtain ⟨⟨cls, dd, data, sl⟩, ho, hc, n, hd⟩ := id ht
 obtain ⟨⟨cls2, dd2, data2, sl2⟩, ho2, hc2, n2, hd2⟩ := id hb
 simp only at hc hd hc2 hd2
 subst hc hd hc2 hd2
 have e : vs.toArray ++ ws.toArray = (vs ++ ws).toArray := by simp
 by_cases hw : ws = []
 ·exact concat_meets ⟨_, ho, rfl⟩ ⟨_, ho2, rfl⟩ noFill_tuple_add seq_tuple_add PySem.F.slot_tuple_add PySem.F.entry_tuple_add (PySem.F.args_tuple_add_2 _ _)
   (tuple_addW1 t b vs.toArray ws.toArray n n2 dd dd2 sl sl2 (by simpa using hv) (by simp [hw])) ⟨ho, ho2, h1 hw⟩
 ·refine concat_meets ⟨_, ho, rfl⟩ ⟨_, ho2, rfl⟩ noFill_tuple_add seq_tuple_add PySem.F.slot_tuple_add PySem.F.entry_tuple_add (PySem.F.args_tuple_add_2 _ _)
   (tuple_addW2 t b vs.toArray ws.toArray n n2 dd dd2 sl sl2 (by simpa using hv) (by simpa using hw) (by rw [xag, xag]; exact hsz)) ⟨ho, ho2, ?_⟩
  rw [e]
  exact h2 hw
def sIx (n d : Nat) : Option Int -> Nat
 | none => d
 | some v => if v < 0 then (v + (n : Int)).toNat else min v.toNat n
theorem sIx_none (n d : Nat) : sIx n d none = d := rfl
theorem sIx_nat (n d k : Nat) : sIx n d (some (k : Int)) = min k n := by
 show (if (k : Int) < 0 then ((k : Int) + (n : Int)).toNat else min (k : Int).toNat n) = min k n
 rw [if_neg (by omega), xb6]
theorem zuk (n d : Nat) (hd : d <= n) (o : Option Int) : sIx n d o <= n := by
 cases o with
 | none => exact hd
 | some v =>
  show (if v < 0 then (v + (n : Int)).toNat else min v.toNat n) <= n
  by_cases hv : v < 0
  ·rw [if_pos hv]; omega
  ·rw [if_neg hv]; exact Nat.min_le_right _ _
theorem zmA (v : Int) (n d : Nat) : (if v < 0 then max (v + (n : Int)) 0 else min v (n : Int)) = ((sIx n d (some v) : Nat) : Int) := by
 show (if v < 0 then max (v + (n : Int)) 0 else min v (n : Int)) = (((if v < 0 then (v + (n : Int)).toNat else min v.toNat n) : Nat) : Int)
 by_cases hv : v < 0
 ·simp only [if_pos hv]; omega
 ·simp only [if_neg hv]; omega
theorem zlw (lo hi : Option Int) (n : Nat) : Builtin.Slice.sliceAdjust lo hi 1 (n : Int) = (((sIx n 0 lo : Nat) : Int), ((sIx n n hi : Nat) : Int)) := by
 have h1 : ¬ ((1 : Int) < 0) := by omega
 unfold Builtin.Slice.sliceAdjust
 simp only [h1, if_false]
 refine xan ?_ ?_
 ·cases lo with
  | none => rfl
  | some v => exact zmA v n 0
 ·cases hi with
  | none => rfl
  | some v => exact zmA v n n
theorem zlx (i j : Nat) : Builtin.Slice.slicePlaces (i : Int) (j : Int) 1 = j - i := by
 unfold Builtin.Slice.slicePlaces
 have h1 : (1 : Int) > 0 := by omega
 simp only [h1, if_true, Int.ediv_one]
 split <;> omega
theorem zgz {v : Value} {o : Option Int} {Q : Option Int -> Shared -> Prop} (p : IsPart v o) (h : Q o s) : wpAny (model prog w) A (Builtin.Slice.slicePartIndex v) Q E s := by
 cases p with
 | none => exact slicePart_none h
 | int i t => exact slicePart_int h
theorem ze3 {sl : Addr} {vl vu : Value} {lo hi : Option Int} {n : Nat} {Q : Int × Int × Nat -> Shared -> Prop} (hs : s.heap.IsSliceOf sl vl vu .none) (pl : IsPart vl lo) (pu : IsPart vu hi)
  (h : Q (((sIx n 0 lo : Nat) : Int), 1, sIx n n hi - sIx n 0 lo) s) : wpAny (model prog w) A (Builtin.Slice.sliceApplied (.ref sl) (pure (n : Int))) Q E s := by
 obtain ⟨os, hos, hcs, hds⟩ := id hs
 unfold Builtin.Slice.sliceApplied Builtin.Slice.sliceFields
 refine wpAny_bind (wpAny_bind (wpAny_field hos hds (x := vl) rfl (wpAny_bind (wpAny_field hos hds (x := vu) rfl (wpAny_bind (wpAny_field hos hds (x := .none) rfl (wpAny_pure ?_)))))))
 refine wpAny_bind (slicePart_none ?_)
 show wpAny _ _ (if ((1 : Int) == 0) = true then _ else _) _ _ s
 rw [if_neg (by decide)]
 refine wpAny_bind (zgz pl (wpAny_bind (zgz pu (wpAny_bind (wpAny_pure ?_)))))
 show wpAny _ _ (match Builtin.Slice.sliceAdjust lo hi 1 (n : Int) with | (lo, hi) => pure (lo, (1 : Int), Builtin.Slice.slicePlaces lo hi 1)) _ _ s
 rw [zlw lo hi n]
 show wpAny _ _ (pure (((sIx n 0 lo : Nat) : Int), (1 : Int), Builtin.Slice.slicePlaces ((sIx n 0 lo : Nat) : Int) ((sIx n n hi : Nat) : Int) 1)) _ _ s
 rw [zlx]
 exact wpAny_pure h
theorem zph (xs : Array Value) (i k : Nat) : ((List.range k).filterMap fun (m : Nat) => xs[((i : Int) + (m : Int) * 1).toNat]?).toArray = ((xs.toList.drop i).take k).toArray := by
 have e : (fun (m : Nat) => xs[((i : Int) + (m : Int) * 1).toNat]?) = fun m => xs[i + m]? := by
  funext m
  have : ((i : Int) + (m : Int) * 1).toNat = i + m := by omega
  rw [this]
 rw [e]
 have := pick_run xs i k
 rw [List.filterMap_map] at this
 have e2 : ((fun x => xs[x]?) ∘ fun x => i + x) = fun m => xs[i + m]? := rfl
 rw [e2] at this
 rw [this]
theorem getItem_tuple_cut {t sl : Addr} {items : Array Value} {vl vu : Value} {lo hi : Option Int} {Q : Value -> Shared -> Prop} (ht : IsTup s.heap t items) (hs : s.heap.IsSliceOf sl vl vu .none) (pl : IsPart vl lo) (pu : IsPart vu hi)
  (hw : ¬ (sIx items.size 0 lo = 0 /\ sIx items.size items.size hi = items.size))
  (h : Q (.ref s.heap.objs.size) { s with heap := s.heap.push { cls := .type "tuple", data := .seq ((items.toList.drop (sIx items.size 0 lo)).take (sIx items.size items.size hi - sIx items.size 0 lo)).toArray } })
  (hsz : items.size <= sizeLine) : wpAny (model prog w) A (getItem (.ref t) (.ref sl)) Q E s := by
 have htake : sizeOk (.seq ((items.toList.drop (sIx items.size 0 lo)).take (sIx items.size items.size hi - sIx items.size 0 lo)).toArray) := by
  show ((items.toList.drop (sIx items.size 0 lo)).take (sIx items.size items.size hi - sIx items.size 0 lo)).toArray.size <= sizeLine
  rw [xag, xbj, xcs, xaj]
  omega
 have hj : sIx items.size items.size hi <= items.size := zuk _ _ (xai _) hi
 obtain ⟨os, hos, hcs, hds⟩ := id hs
 have hTs : s.TypeIs (.ref sl) "slice" := ⟨os, hos, hcs⟩
 unfold getItem
 try with_reducible refine wpAny_holding ?_
 first | refine wpAny_bind (wpAny_pure ?_) | skip
 refine wpAny_bind (wpAny_sequenceKey ht.typeIs (by decide) ?_)
 refine wpAny_bind (wpAny_callSpecial?_slot (name := Str.ofString "__getitem__") ht.typeIs PyProof.Rows.slot_tuple_getitem
  (wpAny_call_entry PyProof.Rows.slot_tuple_getitem ht.typeIs entry_tuple_getitem ?_ (args_tuple_getitem _ _)))
 show wpAny _ _ (Builtin.Tuple.tupleItemsOf (.ref t) >>= _) _ _ s
 refine wpAny_bind (tupleItemsOf_ ht ?_)
 refine wpAny_bind (wpAny_typeOf hTs ?_)
 rw [if_pos (by decide)]
 refine wpAny_bind (ze3 hs pl pu ?_)
 have hno : ¬ ((((sIx items.size 0 lo : Nat) : Int) == 0 && (1 : Int) == 1 && (sIx items.size items.size hi - sIx items.size 0 lo) == items.size) = true) := by
  intro q
  rw [xax, xax] at q
  have q1 : ((sIx items.size 0 lo : Nat) : Int) = 0 := eq_of_beq q.1.1
  have q2 : sIx items.size items.size hi - sIx items.size 0 lo = items.size := eq_of_beq q.2
  exact hw ⟨by omega, by omega⟩
 show wpAny _ _ (if (((sIx items.size 0 lo : Nat) : Int) == 0 && (1 : Int) == 1 && (sIx items.size items.size hi - sIx items.size 0 lo) == items.size) = true then _ else _) _ _ s
 rw [if_neg hno, zph]
 first
  | exact wpAny_bind (m := Builtin.Tuple.tupleExact _) (wpAny_newObj_type (wpAny_pure ⟨_, rfl, wpAny_pure h⟩) htake)
  | exact wpAny_bind (m := Builtin.Tuple.tupleExact _) (wpAny_newObj_type (wpAny_bind (wpAny_pure (wpAny_pure ⟨_, rfl, wpAny_pure h⟩))) htake)
  | exact wpAny_bind (wpAny_bind (m := Builtin.Tuple.tupleExact _) (wpAny_newObj_type (wpAny_pure (wpAny_pure ⟨_, rfl, wpAny_pure h⟩)) htake))
  | exact wpAny_bind (wpAny_bind (m := Builtin.Tuple.tupleExact _) (wpAny_newObj_type (wpAny_pure ⟨_, rfl, wpAny_pure h⟩) htake))
end
end HT
namespace L2
open PySem.Spec PyProof.Rows
abbrev TO := St -> Hp -> (Option Int -> Hp -> Prop) -> Prop
def PO (X : Cx) (e : Option Expr) (t : TO) : Prop :=
 ∀ (pins : List (Addr × Obj)) (s : Shared) (U : St) (H : Hp) (Q : Option Int -> Hp -> Prop), Inv X pins U H s -> t U H Q ->
  wpAny (model X.prog X.w) X.A (evalPart e X.env) (fun u s' => ∃ o H', Inv X pins U H' s' /\ IsPart u o /\ Q o H') X.xe s
def zr9 : TO := fun _ H Q => Q none H
def zul (t : TE) : TO := fun U H Q => t U H fun x H1 => ∃ i, x = .int i /\ Q (some i) H1
theorem zly {ns : List Int} : ∀ {us : List Value}, zaP (ns.map V.int) us -> IntsAre us ns := by
 induction ns with
 | nil => intro us r; rw [xds] at r; cases r; exact .nil
 | cons n ns ih =>
  intro us r
  rw [xa0] at r
  cases r with
  | cons r1 r2 =>
   obtain ⟨t, e⟩ := r1
   subst e
   exact .cons n t (ih r2)
section
variable {X : Cx} {e : Expr} {te : TE} {lo hi : Option Expr} {tl th : TO} {pos p2 : Pos}
theorem zsa : PO X none zr9 := by
 intro pins s U H Q I h
 rw [evalPart_none]
 exact wpAny_pure ⟨none, H, I, .none, h⟩
theorem zmB (h : PE X e te) : PO X (some e) (zul te) := by
 intro pins s U H Q I hw
 rw [evalPart_some]
 refine thn (h pins s U H _ I hw) fun u s1 ⟨x, H1, I1, r1, q1⟩ => ?_
 obtain ⟨i, rfl, q⟩ := q1
 obtain ⟨t, rfl⟩ := r1
 exact ⟨some i, H1, I1, .int i t, q⟩
def SlR (X : Cx) (r : V -> Option Int -> Option Int -> Hp -> VK -> Prop) : Prop :=
 ∀ (pins : List (Addr × Obj)) (s : Shared) (U : St) (H : Hp) (x : V) (v vl vu : Value) (lo hi : Option Int) (sl : Addr) (Q : VK), Inv X pins U H s -> RelV x v -> s.heap.IsSliceOf sl vl vu .none -> IsPart vl lo -> IsPart vu hi -> r x lo hi H Q ->
  ∃ T id, typeLookup (.type T) "__getitem__" = pure (some (.builtin id)) /\ s.TypeIs v T /\ wpAny (model X.prog X.w) X.A (getItem v (.ref sl)) (EP X pins U Q) X.xe s
theorem SlR.or {r r' : V -> Option Int -> Option Int -> Hp -> VK -> Prop} (h : SlR X r) (h' : SlR X r') : SlR X (fun x lo hi H Q => r x lo hi H Q \/ r' x lo hi H Q) := by
 intro pins s U H x v vl vu lo hi sl Q I rx hs pl pu q
 rcases q with q | q
 ·exact h pins s U H x v vl vu lo hi sl Q I rx hs pl pu q
 ·exact h' pins s U H x v vl vu lo hi sl Q I rx hs pl pu q
def tSl (r : V -> Option Int -> Option Int -> Hp -> VK -> Prop) (te : TE) (tl th : TO) : TE := fun U H Q => te U H fun x H1 => tl U H1 fun l H2 => th U H2 fun u H3 => r x l u H3 Q
theorem zpi {r : V -> Option Int -> Option Int -> Hp -> VK -> Prop} (hr : SlR X r) (he : PE X e te) (hl : PO X lo tl) (hu : PO X hi th) : PE X (.Subscript e (.Slice lo hi none p2) pos) (tSl r te tl th) := by
 intro pins s U H Q I h
 refine Subscript_ (thn (he pins s U H _ I h) fun v s1 ⟨x, H1, I1, r1, q1⟩ => ?_)
 refine wpAny_Slice (thn (hl pins s1 U H1 _ I1 q1) fun vl s2 ⟨l, H2, I2, pl, q2⟩ => thn (hu pins s2 U H2 _ I2 q2) fun vu s3 ⟨u, H3, I3, pu, q3⟩ => ?_)
 rw [evalPart_none]
 refine wpAny_pure ?_
 have I4 : Inv X pins U H3 { s3 with heap := s3.heap.push { cls := .type "slice", data := .fields #[vl, vu, .none] } } := I3.kept (t' := s3.toks) fun b ob q => xaa _ q
 obtain ⟨T, id, hT, ht, hg⟩ := hr pins { s3 with heap := s3.heap.push { cls := .type "slice", data := .fields #[vl, vu, .none] } } U H3 x v vl vu l u s3.heap.objs.size Q I4 r1 (Heap.IsSliceOf.new ..) pl pu q3
 show wpAny (model X.prog X.w) X.A (subscriptTail e (.Slice lo hi none p2) v (.ref s3.heap.objs.size)) (EP X pins U Q) X.xe { s3 with heap := s3.heap.push { cls := .type "slice", data := .fields #[vl, vu, .none] } }
 exact tail_any (ops := [.ref s3.heap.objs.size, v]) ht hT hg (by with_unfolding_all rfl)
def zo2 (xs : List V) (lo hi : Option Int) : List V := (xs.drop (HT.sIx xs.length 0 lo)).take (HT.sIx xs.length xs.length hi - HT.sIx xs.length 0 lo)
theorem zfi (xs : List V) (lo hi : Option Int) : (zo2 xs lo hi).length <= xs.length := by
 unfold zo2
 rw [xbj, xcs]
 omega
def rSlT (K : xFg) : V -> Option Int -> Option Int -> Hp -> VK -> Prop := fun x lo hi H Q => ∃ a xs, x = .ref a /\ SqT K H a xs /\
 ¬ (HT.sIx xs.length 0 lo = 0 /\ HT.sIx xs.length xs.length hi = xs.length) /\ ∀ p, H p = none -> Q (.ref p) (upd H p (.tup (zo2 xs lo hi)))
theorem zum : SlR X (rSlT X.K) := by
 intro pins s U H x v vl vu lo hi sl Q I rx hs pl pu h
 obtain ⟨a, xs, rfl, hx, hw, q⟩ := h
 cases rx
 obtain ⟨its, r, ht, hz⟩ := I.tuple hx
 have hlen : its.toArray.size = xs.length := by rw [xag]; exact r.length.symm
 refine ⟨"tuple", _, PyProof.Rows.slot_tuple_getitem.lookup, ht.typeIs, ?_⟩
 refine HT.getItem_tuple_cut ht hs pl pu (by rw [hlen]; exact hw) ?_ (by rw [hlen]; exact hz)
 rw [hlen]
 refine ⟨.ref s.heap.objs.size, _, I.laid (t' := s.toks) (o := .tup (zo2 xs lo hi)) (fun b ob q => xaa _ q) (xai _) ?_, rfl, q _ (I.hok.fresh (xai _))⟩
 exact ⟨xa4 (zfi xs lo hi) hz, _, (r.drop (HT.sIx xs.length 0 lo)).take (HT.sIx xs.length xs.length hi - HT.sIx xs.length 0 lo), IsTup.new _ _⟩
def zun (K : xFg) : R2 := fun x y H Q => ∃ a b xs ys, x = .ref a /\ y = .ref b /\ SqT K H a xs /\ SqT K H b ys /\ xs ≠ [] /\ xs.length + ys.length <= sizeLine /\
 (ys = [] -> Q (.ref a) H) /\ (ys ≠ [] -> ∀ p, H p = none -> Q (.ref p) (upd H p (.tup (xs ++ ys))))
theorem zaP.nil_iff {xs : List V} {us : List Value} (r : zaP xs us) : us = [] ↔ xs = [] := by
 cases r with
 | nil => simp
 | cons _ _ => simp
theorem zsb : OpR X (binaryOp .Add) (zun X.K) := by
 intro pins s U H x y v u Q I rx ry h
 obtain ⟨a, b, xs, ys, rfl, rfl, ha, hb, hx, hz, q1, q2⟩ := h
 cases rx
 cases ry
 obtain ⟨its, r1, p1, _⟩ := I.tuple ha
 obtain ⟨its2, r2, p2, _⟩ := I.tuple hb
 refine HT.cat_tup p1 p2 (fun z => hx (r1.nil_iff.mp z)) (fun z => ⟨.ref a, H, I, rfl, q1 (r2.nil_iff.mp z)⟩) (fun z => ?_) (by rw [<- r1.length, <- r2.length]; exact hz)
 refine ⟨.ref s.heap.objs.size, _, I.laid (t' := s.toks) (o := .tup (xs ++ ys)) (fun b ob q => xaa _ q) (xai _) ?_, rfl, q2 (fun w => z (r2.nil_iff.mpr w)) _ (I.hok.fresh (xai _))⟩
 exact ⟨by rw [xbc]; exact hz, _, r1.append r2, IsTup.new _ _⟩
end
end L2
namespace L2
open PySem.Spec PyProof.Rows
def ixN (n : Nat) (i : Int) : Option Nat := if 0 <= i then (if i < n then some i.toNat else none) else if -(n : Int) <= i then some (i + n).toNat else none
def atI {α : Type} (xs : List α) (i : Int) : Option α := (ixN xs.length i).bind fun j => xs[j]?
theorem zmC {n : Nat} {i : Int} {j : Nat} (h : ixN n i = some j) : seqIndex? i n = some j /\ j < n /\ -(n : Int) <= i /\ i < n := by
 unfold ixN at h
 by_cases h0 : 0 <= i
 ·rw [if_pos h0] at h
  by_cases h1 : i < n
  ·rw [if_pos h1] at h
   have e : i.toNat = j := Option.some.inj h
   exact ⟨by rw [seqIndex_of h0 h1, e], by omega, by omega, h1⟩
  ·rw [if_neg h1] at h; cases h
 ·rw [if_neg h0] at h
  by_cases h1 : -(n : Int) <= i
  ·rw [if_pos h1] at h
   have e : (i + n).toNat = j := Option.some.inj h
   exact ⟨by rw [seqIndex_neg (by omega) h1, e], by omega, h1, by omega⟩
  ·rw [if_neg h1] at h; cases h
theorem zmD {α : Type} {xs : List α} {i : Int} {v : α} (h : atI xs i = some v) : ∃ j, seqIndex? i xs.length = some j /\ xs[j]? = some v /\ j < xs.length /\ -(xs.length : Int) <= i /\ i < xs.length := by
 unfold atI at h
 cases e : ixN xs.length i with
 | none => rw [e] at h; cases h
 | some j =>
  rw [e] at h
  obtain ⟨h1, h2, h3, h4⟩ := zmC e
  exact ⟨j, h1, h, h2, h3, h4⟩
theorem zsc {α : Type} {xs : List α} {j : Nat} {v : α} (h : xs[j]? = some v) : atI xs (j : Int) = some v := by
 have hj : j < xs.length := (xah.mp h).1
 have e : ixN xs.length (j : Int) = some j := by
  unfold ixN
  rw [if_pos (by omega), if_pos (by omega)]; simp
 unfold atI; rw [e]; exact h
theorem zpj {α : Type} (xs : List α) (v : α) : atI (xs ++ [v]) (-1) = some v := by
 have hl : (xs ++ [v]).length = xs.length + 1 := by simp
 have e : ixN (xs ++ [v]).length (-1) = some xs.length := by
  unfold ixN
  rw [hl, if_neg (by decide), if_pos (by omega)]
  congr 1
  omega
 unfold atI
 rw [e]
 show (xs ++ [v])[xs.length]? = some v
 simp
def zmE (b : Expr) : Prop := ∀ o i, subscripted b false o i = operate [o, i] (getItem o i)
def IxR (X : Cx) (r : R2) : Prop :=
 ∀ (value slice : Expr) (pins : List (Addr × Obj)) (s : Shared) (U : St) (H : Hp) (x y : V) (v u : Value) (Q : VK), Inv X pins U H s -> RelV x v -> RelV y u -> r x y H Q ->
  subscripted slice false v u = operate [v, u] (getItem v u) -> wpAny (model X.prog X.w) X.A (subscriptTail value slice v u) (EP X pins U Q) X.xe s
def MtR (X : Cx) (id : String) (r : V -> List V -> Hp -> VK -> Prop) : Prop :=
 ∀ (pins : List (Addr × Obj)) (s : Shared) (U : St) (H : Hp) (x : V) (xs : List V) (v : Value) (us : List Value) (Q : VK), Inv X pins U H s -> RelV x v -> zaP xs us -> r x xs H Q ->
  wpAny (model X.prog X.w) X.A (call (.builtin id) (v :: us)) (EP X pins U Q) X.xe s
section
variable {X : Cx} {a b : Expr} {ta tb : TE} {pos : Pos}
theorem IxR.or {r r' : R2} (h : IxR X r) (h' : IxR X r') : IxR X (fun x y H Q => r x y H Q \/ r' x y H Q) := by
 intro value slice pins s U H x y v u Q I rx ry q hs
 rcases q with q | q
 ·exact h value slice pins s U H x y v u Q I rx ry q hs
 ·exact h' value slice pins s U H x y v u Q I rx ry q hs
theorem zwP {r : R2} (hr : IxR X r) (ha : PE X a ta) (hb : PE X b tb) (hs : zmE b) : PE X (.Subscript a b pos) (tOp r ta tb) := by
 intro pins s U H Q I h
 exact Subscript_ (zwG ha hb I h fun v u s2 x y H2 I2 rx ry q => hr a b pins s2 U H2 x y v u Q I2 rx ry q (hs _ _))
def rIxL (K : xFg) : R2 := fun x y H Q => ∃ p xs i v, x = .ref p /\ y = .int i /\ SqL K H p xs /\ atI xs i = some v /\ Q v H
def rIxT (K : xFg) : R2 := fun x y H Q => ∃ p xs i v, x = .ref p /\ y = .int i /\ SqT K H p xs /\ atI xs i = some v /\ Q v H
theorem zsd : IxR X (rIxL X.K) := by
 intro value slice pins s U H x y v u Q I rx ry h hs
 obtain ⟨p, xs, i, z, rfl, rfl, hq, he, q⟩ := h
 cases rx
 obtain ⟨t, rfl⟩ := ry
 obtain ⟨its, r, pl, hz⟩ := I.list hq
 obtain ⟨j, h1, h2, h3, h4, h5⟩ := zmD he
 obtain ⟨w, ew, rw'⟩ := r.get h2
 have hl := r.length
 have hn := zhY
 have fin : EP X pins U Q w s := ⟨z, H, I, rw', q⟩
 by_cases h0 : 0 <= i
 ·have hj : i.toNat = j := by
   rw [seqIndex_of h0 h5] at h1
   exact Option.some.inj h1
  exact item_listR pl.isList h0 (by omega) (by rw [hj]; simpa using ew) fin hs
 ·have hj : (i + (its.toArray.size : Int)).toNat = j := by
   rw [seqIndex_neg (by omega) h4] at h1
   rw [xag, <- hl]
   exact Option.some.inj h1
  exact subscriptTail_builtinR (x := w) pl.isList.typeIs slot_list_getitem.lookup
   (wpAny_getItem_list_neg (Q := fun r s' => r = w /\ EP X pins U Q r s') pl.isList (by omega) (by rw [xag] <;> omega) (by omega) (by rw [hj]; simpa using ew) ⟨rfl, fin⟩) hs
theorem zuo : IxR X (rIxT X.K) := by
 intro value slice pins s U H x y v u Q I rx ry h hs
 obtain ⟨p, xs, i, z, rfl, rfl, hq, he, q⟩ := h
 cases rx
 obtain ⟨t, rfl⟩ := ry
 obtain ⟨its, r, pl, hz⟩ := I.tuple hq
 obtain ⟨j, h1, h2, h3, h4, h5⟩ := zmD he
 obtain ⟨w, ew, rw'⟩ := r.get h2
 have hl := r.length
 have hn := zhY
 have fin : EP X pins U Q w s := ⟨z, H, I, rw', q⟩
 exact subscriptTail_builtinR (x := w) pl.typeIs slot_tuple_getitem.lookup
  (getItem_tuple (j := j) (Q := fun r s' => r = w /\ EP X pins U Q r s') pl (by omega) (by omega) (by rw [xag, <- hl]; exact h1) (by simpa using ew) ⟨rfl, fin⟩) hs
theorem zlz (its : List Value) (n j : Nat) (u : Value) : Obj.mapSeq (·.setIfInBounds j u) { cls := .type "list", data := .seq its.toArray n } = { cls := .type "list", data := .seq (its.set j u).toArray n } := by
 simp [Obj.mapSeq]
theorem Inv.lst {pins : List (Addr × Obj)} {U : St} {H : Hp} {s : Shared} {p : Addr} {xs : List V} (I : Inv X pins U H s) (h : H p = some (.lst xs)) :
  ∃ (its : List Value) (n : Nat), zaP xs its /\ s.heap.get? p = some { cls := .type "list", data := .seq its.toArray n } /\ xs.length <= sizeLine := by
 obtain ⟨z, its, n, r, e⟩ := I.hok p _ h
 exact ⟨its, n, r, e, z⟩
theorem Inv.lstUpd {pins : List (Addr × Obj)} {U : St} {H : Hp} {s : Shared} {p : Addr} {xs ys : List V} {its its' : List Value} {n n' : Nat} {f : Obj -> Obj} (I : Inv X pins U H s) (h : H p = some (.lst xs))
  (ho : s.heap.get? p = some { cls := .type "list", data := .seq its.toArray n }) (hf : f { cls := .type "list", data := .seq its.toArray n } = { cls := .type "list", data := .seq its'.toArray n' }) (r : zaP ys its') (hz : ys.length <= sizeLine) (t : Nat) :
  Inv X pins U (upd H p (.lst ys)) { s with heap := s.heap.update p f, toks := t } := by
 have e : (s.heap.update p f).get? p = some { cls := .type "list", data := .seq its'.toArray n' } := by
  rw [xb2 f ho (by rw [hf] <;> rfl), hf]
 refine I.write (x := p) (e := p) (by rw [h]; trivial) (.inl rfl) (fun b u hb q => (xbp _ _ (xba hb)).trans q) ⟨_, e⟩ ?_
 exact ⟨hz, its', n', r, e⟩
def zwQ : V -> V -> V -> Hp -> (Hp -> Prop) -> Prop := fun o i v H Q => ∃ p xs k j, o = .ref p /\ i = .int k /\ H p = some (.lst xs) /\ ixN xs.length k = some j /\ Q (upd H p (.lst (xs.set j v)))
theorem zpk : PSet X zwQ := by
 intro pins s U H o i v ov iv u Q I ro ri rv h
 obtain ⟨p, xs, k, j, rfl, rfl, hp, hj, q⟩ := h
 cases ro
 obtain ⟨t, rfl⟩ := ri
 obtain ⟨its, n, r, ho, hz⟩ := I.lst hp
 obtain ⟨h1, h2, h3, h4⟩ := zmC hj
 have hl := r.length
 have hn := zhY
 have I' : Inv X pins U (upd H p (.lst (xs.set j v))) { s with heap := s.heap.update p (Obj.mapSeq (·.setIfInBounds j u)) } :=
  I.lstUpd hp ho (zlz its n j u) (r.set rv j) (by rw [List.length_set]; exact hz) s.toks
 by_cases h0 : 0 <= k
 ·have hk : k.toNat = j := by
   rw [seqIndex_of h0 h4] at h1
   exact Option.some.inj h1
  exact PySem.W.ki_setAt ho h0 (by omega) (by rw [xag, <- hl]; exact h4) (by rw [hk]; exact ⟨_, I', q⟩)
 ·have hk : (k + (its.toArray.size : Int)).toNat = j := by
   rw [seqIndex_neg (by omega) h3] at h1
   rw [xag, <- hl]
   exact Option.some.inj h1
  exact PySem.W.ki_setBack ho (by omega) (by rw [xag, <- hl]; exact h3) (by omega) (by rw [hk]; exact ⟨_, I', q⟩)
theorem zh5 (lo hi : Option Int) (n : Nat) : (sliceBounds lo hi none n).1 = ((HT.sIx n 0 lo : Nat) : Int) /\ (sliceBounds lo hi none n).2.1 = ((HT.sIx n n hi : Nat) : Int) /\ (sliceBounds lo hi none n).2.2 = 1 := by
 refine ⟨?_, ?_, rfl⟩
 ·cases lo with
  | none => simp [sliceBounds, HT.sIx]
  | some i =>
   simp only [sliceBounds, HT.sIx, Option.getD_none, show (1 : Int) > 0 by decide, if_true]
   by_cases h : i < 0
   ·simp only [h, if_true] <;> omega
   ·simp only [h, if_false] <;> omega
 ·cases hi with
  | none => simp [sliceBounds, HT.sIx]
  | some i =>
   simp only [sliceBounds, HT.sIx, Option.getD_none, show (1 : Int) > 0 by decide, if_true]
   by_cases h : i < 0
   ·simp only [h, if_true] <;> omega
   ·simp only [h, if_false] <;> omega
theorem zg4 (its : List Value) (lo hi : Option Int) : slicePick its.toArray lo hi none = ((its.drop (HT.sIx its.length 0 lo)).take (HT.sIx its.length its.length hi - HT.sIx its.length 0 lo)).toArray := by
 obtain ⟨h1, h2, h3⟩ := zh5 lo hi its.toArray.size
 unfold slicePick
 rw [h1, h2, h3]
 simp only [sliceRange_one, pick_run, xag] <;> rfl
def rSlL (K : xFg) : V -> Option Int -> Option Int -> Hp -> VK -> Prop := fun x lo hi H Q => ∃ a xs, x = .ref a /\ SqL K H a xs /\ ∀ p, H p = none -> Q (.ref p) (upd H p (.lst (zo2 xs lo hi)))
theorem zse : SlR X (rSlL X.K) := by
 intro pins s U H x v vl vu lo hi sl Q I rx hs pl pu h
 obtain ⟨a, xs, rfl, hx, q⟩ := h
 cases rx
 obtain ⟨its, r, ht, hz⟩ := I.list hx
 have hlen := r.length
 refine ⟨"list", _, slot_list_getitem.lookup, ht.isList.typeIs, ?_⟩
 refine wpAny_getItem_list_slice ht.isList hs pl pu .none (by simp) ?_ (by rw [xag] <;> omega)
 rw [zg4, <- hlen]
 refine ⟨.ref s.heap.objs.size, _, I.laid (t' := s.toks) (o := .lst (zo2 xs lo hi)) (fun b ob q => xaa _ q) (xai _) ?_, rfl, q _ (I.hok.fresh (xai _))⟩
 exact ⟨xa4 (zfi xs lo hi) hz, _, 0, (r.drop (HT.sIx xs.length 0 lo)).take (HT.sIx xs.length xs.length hi - HT.sIx xs.length 0 lo), xal _ rfl⟩
def zjl : V -> Bool
 | .non => true
 | .bl _ => true
 | .int _ => true
 | .str _ => true
 | _ => false
def eqV : V -> V -> Bool
 | .non, .non => true
 | .bl a, .bl b => a == b
 | .bl a, .int b => (if a then 1 else 0) == b
 | .int a, .bl b => a == (if b then 1 else 0)
 | .int a, .int b => a == b
 | .str a, .str b => a == b
 | _, _ => false
theorem zup {A : Around} {s : Shared} {y x : V} {u v : Value} (ry : RelV y u) (rx : RelV x v) (fy : zjl y = true) (fx : zjl x = true) : SeqAt.EqAt A s u v (eqV y x) := by
 cases y with
 | non =>
  cases ry
  cases x with
  | non => cases rx; exact SeqAt.EqAt.same _
  | bl b => cases rx; exact SeqAt.EqAt.none_bool b
  | int b => obtain ⟨t, rfl⟩ := rx; exact SeqAt.EqAt.none_int b t
  | str b => obtain ⟨t, rfl⟩ := rx; exact SeqAt.EqAt.none_str b t
  | _ => exact absurd (show false = true from fx) xaw
 | bl a =>
  cases ry
  cases x with
  | non => cases rx; exact SeqAt.EqAt.bool_none a
  | bl b => cases rx; exact SeqAt.EqAt.bool_bool a b
  | int b => obtain ⟨t, rfl⟩ := rx; exact SeqAt.EqAt.bool_int a b t
  | str b => obtain ⟨t, rfl⟩ := rx; exact SeqAt.EqAt.bool_str a b t
  | _ => exact absurd (show false = true from fx) xaw
 | int a =>
  obtain ⟨t', rfl⟩ := ry
  cases x with
  | non => cases rx; exact SeqAt.EqAt.int_none a t'
  | bl b => cases rx; exact SeqAt.EqAt.int_bool a t' b
  | int b => obtain ⟨t, rfl⟩ := rx; exact SeqAt.EqAt.int_int a t' b t
  | str b => obtain ⟨t, rfl⟩ := rx; exact SeqAt.EqAt.int_str a t' b t
  | _ => exact absurd (show false = true from fx) xaw
 | str a =>
  obtain ⟨t', rfl⟩ := ry
  cases x with
  | non => cases rx; exact SeqAt.EqAt.str_none a t'
  | bl b => cases rx; exact SeqAt.EqAt.str_bool a t' b
  | int b => obtain ⟨t, rfl⟩ := rx; exact SeqAt.EqAt.str_int a t' b t
  | str b => obtain ⟨t, rfl⟩ := rx; exact SeqAt.EqAt.str_str a t' b t
  | _ => exact absurd (show false = true from fx) xaw
 | _ => exact absurd (show false = true from fy) xaw
theorem zh6 : OpR X (compareOp .NotIn) (fun x y H Q => ∃ i j, x = .str i /\ y = .str j /\ Q (.bl (!(!(Builtin.Str.occurrences j i 0 j.length 1).isEmpty))) H) := by
 intro pins s U H x y v u Q I rx ry h
 obtain ⟨i, j, rfl, rfl, q⟩ := h
 obtain ⟨t, rfl⟩ := rx
 obtain ⟨t', rfl⟩ := ry
 exact notIn_str ⟨.bl _, H, I, rfl, q⟩
theorem zh7 : zbw X (.builtin "len") (fun xs H Q => ∃ p ys, xs = [.ref p] /\ (SqL X.K H p ys \/ SqT X.K H p ys) /\ Q (.int ys.length) H) := by
 intro pins s U H xs us Q I r h
 obtain ⟨p, ys, rfl, hq, q⟩ := h
 obtain ⟨u, rfl, rx⟩ := zeu r
 cases rx
 have hn := zhY
 rcases hq with hq | hq
 ·obtain ⟨its, r', pl, hz⟩ := I.list hq
  have hlen := r'.length
  exact Calls.call_len_list pl.isList (by simp only [xag] <;> omega) ⟨.int ys.length, H, I.tok _, ⟨s.toks + 1, by rw [xag, hlen]⟩, q⟩
 ·obtain ⟨its, r', pl, hz⟩ := I.tuple hq
  have hlen := r'.length
  exact len_tuple pl (by simp only [xag] <;> omega) ⟨.int ys.length, H, I.tok _, ⟨s.toks + 1, by rw [xag, hlen]⟩, q⟩
theorem zh8 : zbw X (.builtin "len") (fun xs H Q => ∃ z, xs = [.str z] /\ z.length <= sizeLine /\ Q (.int z.length) H) := by
 intro pins s U H xs us Q I r h
 obtain ⟨z, rfl, hz, q⟩ := h
 obtain ⟨u, rfl, t, rfl⟩ := zeu r
 have hn := zhY
 exact len_str (by omega) ⟨.int z.length, H, I.tok _, ⟨_, rfl⟩, q⟩
theorem zbw.or {f : Value} {r r' : List V -> Hp -> VK -> Prop} (h : zbw X f r) (h' : zbw X f r') : zbw X f (fun xs H Q => r xs H Q \/ r' xs H Q) := by
 intro pins s U H xs us Q I rs q
 rcases q with q | q
 ·exact h pins s U H xs us Q I rs q
 ·exact h' pins s U H xs us Q I rs q
theorem zg5 : zbw X (.type "tuple") (fun xs H Q => ∃ p ys, xs = [.ref p] /\ ((SqL X.K H p ys /\ ∀ l, H l = none -> Q (.ref l) (upd H l (.tup ys))) \/ (SqT X.K H p ys /\ Q (.ref p) H))) := by
 intro pins s U H xs us Q I r h
 obtain ⟨p, ys, rfl, h⟩ := h
 obtain ⟨u, rfl, rx⟩ := zeu r
 cases rx
 rcases h with ⟨hq, q⟩ | ⟨hq, q⟩
 ·obtain ⟨its, r', pl, hz⟩ := I.list hq
  have hlen := r'.length
  refine call_tuple_list pl.isList (fun h' kp => ?_) (by simp only [xag] <;> omega)
  have I1 : Inv X pins U H { s with heap := h' } := I.kept (t' := s.toks) kp
  have I2 : Inv X pins U (upd H h'.objs.size (.tup ys)) { s with heap := h'.push { cls := .type "tuple", data := .seq its.toArray } } :=
   I1.laid (t' := s.toks) (fun b o e => xaa _ e) (xai _) (show zbv X.prog X.w _ _ _ (.tup ys) from ⟨hz, its, r', IsTup.new _ _⟩)
  exact ⟨.ref h'.objs.size, _, I2, rfl, q _ (I1.hok.fresh (xai _))⟩
 ·obtain ⟨its, r', pl, hz⟩ := I.tuple hq
  exact call_tuple_same pl ⟨.ref p, H, I, rfl, q⟩
def tyV (K : xFg) (T : String) (x : V) (H : Hp) : Prop := match x with
 | .str _ => T = "str"
 | .int _ => T = "int"
 | .ref p => (T = "list" /\ ∃ xs, SqL K H p xs) \/ (T = "tuple" /\ ∃ o, K.lookup p = some o /\ o.cls = .type "tuple" /\ o.dict = none) \/
   (T = "dict" /\ ((∃ kvs, H p = some (.dK kvs)) \/ ∃ kvs, H p = some (.dT kvs))) \/ (T = "set" /\ ∃ S n, H p = some (.set S n))
 | _ => False
theorem zuq {pins : List (Addr × Obj)} {U : St} {H : Hp} {s : Shared} {T : String} {x : V} {v : Value} (I : Inv X pins U H s) (r : RelV x v) (ty : tyV X.K T x H) :
  s.TypeIs v T /\ ∀ a, v = .ref a -> ∃ ob, s.heap.get? a = some ob /\ ob.dict = none := by
 cases x with
 | str z =>
  obtain ⟨t, rfl⟩ := r
  cases (show T = "str" from ty)
  exact ⟨typeIs_str s z t, fun _ e => nomatch e⟩
 | int i =>
  obtain ⟨t, rfl⟩ := r
  cases (show T = "int" from ty)
  exact ⟨typeIs_int s i t, fun _ e => nomatch e⟩
 | ref p =>
  cases r
  rcases ty with ⟨rfl, xs, hq⟩ | ⟨rfl, o, hk, hc, hd⟩ | ⟨rfl, hk⟩ | ⟨rfl, S, n, hk⟩
  ·obtain ⟨its, _, pl, _⟩ := I.list hq
   refine ⟨pl.isList.typeIs, fun a e => ?_⟩
   cases e
   obtain ⟨o, n, e, c, hd, _⟩ := pl
   exact ⟨o, e, hd⟩
  ·refine ⟨⟨o, I.kIn p o hk, hc⟩, fun a e => ?_⟩
   cases e
   exact ⟨o, I.kIn _ o hk, hd⟩
  ·have z : ∃ o, s.heap.get? p = some o /\ o.ExactDict := by
    rcases hk with ⟨kvs, hk⟩ | ⟨kvs, hk⟩
    ·obtain ⟨_, _, _, _, o, _, _, e, ex, _⟩ := I.hok p _ hk
     exact ⟨o, e, ex⟩
    ·obtain ⟨_, _, _, _, o, _, _, e, ex, _⟩ := I.hok p _ hk
     exact ⟨o, e, ex⟩
   obtain ⟨o, e, ex⟩ := z
   refine ⟨⟨o, e, ex.1⟩, fun a e2 => ?_⟩
   cases e2
   exact ⟨o, e, ex.2.1⟩
  ·obtain ⟨o, _, _, _, e, ex, _⟩ := I.hok p _ hk
   refine ⟨⟨o, e, ex.1⟩, fun a e2 => ?_⟩
   cases e2
   exact ⟨o, e, ex.2.1⟩
 | _ => exact False.elim ty
def tBM (K : xFg) (T : String) (r : V -> List V -> Hp -> VK -> Prop) (to : TE) (t : TA) : TE := fun U H Q => to U H fun x H1 => tyV K T x H1 /\ t U H1 fun xs H2 => r x xs H2 Q
variable {o e : Expr} {es : List Expr} {to : TE} {t : TA} {name : Str} {apos cpos : Pos} {T id : String} {r : V -> List V -> Hp -> VK -> Prop}
theorem zwR (pa : PlainAttrs T) (slot : Slot T name id) (hty : typeOf (.builtin id) = pure (.type "method_descriptor")) (hm : MtR X id r) (ho : PE X o to) (ha : PA X (e :: es) t)
  (hbase : attributeBase o name X.env (eval o X.env) = eval o X.env := by rfl)
  (hfew : ((backTo cpos (starEach (e :: es) X.env)).all (fun x => !x.1) && (backToKw cpos (keywordEach [] X.env)).all (fun x => x.1.isSome)
   && decide ((e :: es).length + ([] : List Keyword).length + (if ([] : List Keyword).isEmpty then 0 else 1) < 30)) = true := by rfl)
  (hline : (apos.endLine == cpos.line) = true := by rfl) (hs : starEach (e :: es) X.env = (false, eval e X.env) :: starEach es X.env := by rfl) (hplain : (backTo cpos (starEach es X.env)).any (·.1) = false := by rfl) :
  PE X (.Call (.Attribute o name apos) (e :: es) [] cpos) (tBM X.K T r to t) := by
 intro pins s U H Q I h
 refine wpAny_Call_method_late hbase hfew hline rfl (thn (ho pins s U H _ I h) fun v s1 ⟨x, H1, I1, r1, ty, q1⟩ => ?_)
 obtain ⟨h1, h2⟩ := zuq I1 r1 ty
 refine ⟨T, id, pa, slot, hty, h1, h2, ?_⟩
 have hA := ha cpos pins s1 U H1 _ I1 q1
 rw [hs] at hA ⊢
 refine Calls.callWith_builtin (by show (false || (backTo cpos (starEach es X.env)).any (·.1)) = false; rw [hplain] <;> rfl) (Calls.evalArgs_plain ?_)
 exact thn hA fun us s2 ⟨vs, H2, I2, r2, q2⟩ => hm pins s2 U H2 x vs v us Q I2 r1 r2 q2
end
end L2
namespace L2
open PySem.Spec PyProof.Rows
def MtM (X : Cx) (id : String) (r : V -> List V -> Hp -> VK -> Prop) : Prop :=
 ∀ (pins : List (Addr × Obj)) (s : Shared) (U : St) (H : Hp) (x : V) (xs : List V) (v : Value) (us : List Value) (Q : VK), Inv X pins U H s -> RelV x v -> zaP xs us -> r x xs H Q ->
  wpAny (model X.prog X.w) X.A (call (.builtin id) (v :: us)) (EP X pins U Q) X.xe s
theorem zaP.one : ∀ {x : V} {us : List Value}, zaP [x] us -> ∃ u, us = [u] /\ RelV x u
 | _, _, .cons r .nil => ⟨_, rfl, r⟩
theorem zaP.reverse {xs : List V} {us : List Value} (h : zaP xs us) : zaP xs.reverse us.reverse := by
 induction h with
 | nil => exact .nil
 | cons r t ih => rw [xcq, xcq]; exact zaP.append ih (.cons r .nil)
section
variable {X : Cx} {pins : List (Addr × Obj)} {U : St} {H : Hp} {s : Shared} {l b : Addr} {xs ys zs : List V}
theorem Inv.lset {its its' : List Value} {n : Nat} {f : Array Value -> Array Value} {t' : Nat} (I : Inv X pins U H s) (hH : H l = some (.lst xs))
  (e : s.heap.get? l = some { cls := .type "list", data := .seq its.toArray n }) (hf : f its.toArray = its'.toArray) (hv : zaP ys its') (hz : ys.length <= sizeLine) :
  Inv X pins U (upd H l (.lst ys)) { s with heap := s.heap.update l (Obj.mapSeq f), toks := t' } := by
 have q := PySem.IsL.update e f
 rw [hf] at q
 refine I.write (x := l) (e := l) (by rw [hH]; exact trivial) (.inl rfl) (fun b' u hb hu => (xbp s.heap (Obj.mapSeq f) (xba hb)).trans hu) ⟨_, q⟩ ?_
 exact ⟨hz, its', _, hv, q⟩
theorem Inv.lnew {its : List Value} {t' : Nat} (I : Inv X pins U H s) (hv : zaP ys its) (hz : ys.length <= sizeLine) :
  Inv X pins U (upd H s.heap.objs.size (.lst ys)) { s with heap := s.heap.push { cls := .type "list", data := .seq its.toArray }, toks := t' } :=
 I.laid (fun _ _ q => xaa _ q) (xai _) ⟨hz, its, 0, hv, xal _ rfl⟩
theorem Inv.fresh (I : Inv X pins U H s) : H s.heap.objs.size = none := I.hok.fresh (xai _)
theorem Inv.lstM (I : Inv X pins U H s) (hH : H l = some (.lst xs)) : xs.length <= sizeLine /\ ∃ (its : List Value) (n : Nat), zaP xs its /\ xs.length = its.length /\ s.heap.get? l = some { cls := .type "list", data := .seq its.toArray n } := by
 obtain ⟨z, its, n, r, e⟩ := I.hok l _ hH
 exact ⟨z, its, n, r, r.length, e⟩
end
section
variable {X : Cx}
def zsf : V -> List V -> Hp -> VK -> Prop := fun x vs H Q => ∃ l xs y, x = .ref l /\ vs = [y] /\ H l = some (.lst xs) /\ xs.length < sizeLine /\ Q .non (upd H l (.lst (xs ++ [y])))
theorem zmF : MtM X "list.append" zsf := by
 intro pins s U H x vs v us Q I rx rv h
 obtain ⟨l, xs, y, rfl, rfl, hH, hz, q⟩ := h
 cases rx
 obtain ⟨u, rfl, ru⟩ := rv.one
 obtain ⟨z, its, n, r, hl, e⟩ := I.lstM hH
 refine call_meets F.slot_list_append ⟨_, e, rfl⟩ F.entry_list_append (F.args_list_append_2 _ _) (PySem.list_append l its.toArray n u (by rw [xag]; omega)) ⟨e, ?_⟩
 refine ⟨.non, _, I.lset (its' := its ++ [u]) hH e (by simp) (r.append (.cons ru .nil)) ?_, rfl, q⟩
 rw [xbc, List.length_singleton]
 omega
end
end L2
namespace Att
open PySem.W PySem.Calls PyProof.Rows
theorem zfj {P : Params} {h : Heap} : ∀ (ns : List Int) (vs : List Value), WellAll P h vs (ns.map WData.int) -> IntsAre vs ns := by
 intro ns
 induction ns with
 | nil =>
  intro vs w
  rw [xds] at w
  cases w
  exact .nil
 | cons n ns ih =>
  intro vs w
  rw [xa0] at w
  cases w with
  | cons a b =>
   cases a
   exact .cons _ _ (ih _ b)
theorem zmG {l : OpenLaw} {n : Nat} (hn : l.most = some n) {P : Params} {h : Heap} {args : List WData} {vals : List Value}
  (hpre : l.row.toRowW.claim.pre args = true) (hwl : WellAll P h vals args) :
  ∃ a vs ns, vals = [Value.ref a] /\ args = [WData.list (ns.map WData.int)] /\ h.get? a = some { cls := .type "list", data := .seq vs.toArray } /\ IntsAre vs ns /\ ns.length <= n := by
 have hsh : WShape.hasAll [] args [.list .int] = true := (pre_splitW hpre).1
 have hc : l.pre.holds [] { args := args } = true := (pre_splitW hpre).2
 obtain ⟨d, r, rfl, h1, h2⟩ := hasAllW_cons hsh
 obtain rfl := hasAllW_nil h2
 obtain ⟨xs, rfl, h3⟩ := hasW_list h1
 obtain ⟨ns, rfl⟩ := items_int h3
 have hlen : ns.length <= n := by
  unfold OpenLaw.pre at hc
  have h4 : (WTm.not (.lt (.lit (.int (n : Int))) (.len (.arg 0)))).holds [] { args := [.list (ns.map .int)] } = true := by
   have h4 := (holds_andW hc).1
   rw [hn] at h4
   exact h4
  have h5 := condW_of h4 (w_not (w_lt w_lit (w_len_list (w_arg rfl))))
  rw [xae] at h5
  refine Nat.le_of_not_lt fun q => ?_
  have q' : (n : Int) < ((ns.length : Nat) : Int) := by omega
  first
   | (rw [decide_eq_true q'] at h5; exact absurd h5 (by decide))
   | (simp at h5; omega)
 cases hwl with
 | cons w1 w2 =>
  cases w2
  cases w1 with
  | list ho hall => exact ⟨_, _, ns, rfl, rfl, ho, zfj ns _ hall, hlen⟩
theorem zmH (l : OpenLaw) (args : List WData) : l.row.toRowW.claim.post args (.bool true) args = true :=
 postW_of (r := l.row.toRowW) (X := (true == true))
  (show WShape.has [] (.bool true) .bool = true by first | rfl | decide | simp [WShape.has, WShape.arms, WShape.armsAll])
  (show (WTm.eq .res (.lit (.bool true))).value [] { args := args, res := some (.bool true), after := args } = some (.bool (true == true)) from w_eq_bool (w_res rfl) w_lit) rfl
theorem attach_call {l : OpenLaw} {n : Nat} {q : Program} {loose : List Str} {XP : (Str -> Option Value) -> Heap -> Prop} {YP : World -> Heap -> Prop} {d : DefRec}
  (hn : l.most = some n) (hdf : d.params.defaults = [])
  (call : ∀ (w : World) (s₀ s₁ : Shared) (mg mb : Str -> Option Value) (fa : Addr) (o : Obj) (pm cd doc : Value) (a : Addr) (vs : List Value) (ns : List Int),
   Ground q loose [] XP w s₀ mg mb s₁.heap -> YP w s₁.heap ->
   s₁.heap.get? fa = some o -> o.data = .func (docDef d.name d.params d.body d.scope pm cd doc) -> s₁.heap.CodeRec cd d.name -> mg d.name = some (.ref fa) ->
   s₁.heap.get? a = some { cls := .type "list", data := .seq vs.toArray } -> IntsAre vs ns -> ns.length <= n -> s₁.gens = #[] ->
   codeAny (model l.prog w) callerA (.call (.ref fa) ⟨[.ref a], []⟩) (fun r s' => r = .ok (.ret (.bool true)) /\ OldK s₁.heap s'.heap /\ s'.os = s₁.os /\ AllBare s'.gens) s₁) :
  WalkO q loose XP YP l.row.toRowW d [] (fun f vs => PySem.call f vs) := by
 intro w s₀ s₁ mg mb G Y fa o pm cd doc dV kV ho hd hcd hD hmg hg args vals as hpre hlay hrd hwl hlo
 obtain rfl : dV = .none := Dflts.none hD hdf
 obtain rfl : kV = .none := Dflts.noKw hD
 obtain ⟨a, vs, ns, rfl, rfl, hobj, hints, hlen⟩ := zmG hn hpre hwl
 refine enter_call (codeAny_mono (call w s₀ s₁ mg mb fa o pm cd doc a vs ns G Y ho (fd_plain hd) hcd hmg hobj hints hlen hg) fun r s' hq => ?_)
 obtain ⟨rfl, h2, h3, h4⟩ := hq
 exact ⟨.inl ⟨.bool true, .bool true, [], rfl, fun _ => rfl, .bool true, zmH l _, fun _ => ⟨List.Pairwise.nil, fun _ hm => (nomatch hm)⟩⟩, h2, h3, h4⟩
end Att
namespace L2
open PySem.Spec PyProof.Rows
theorem zh9 : ∀ {vs : List Value} {ns : List Int}, IntsAre vs ns -> zaP (ns.map V.int) vs
 | _, _, .nil => .nil
 | _, _, .cons n t h => .cons ⟨t, rfl⟩ (zh9 h)
def zwS (H : Hp) : Prop := ∀ b, H b = none \/ ∃ o xs, H b = some (.frz o (.lst xs))
theorem zpl {P : Program} {w : World} {K : xFg} {mg mb : Str -> Option Value} {CX : CXT} {k : Nat} {fa a : Addr} {fd : FuncData} {x : Str} {sp : Sp} {s₁ : Shared} {vs : List Value} {ns : List Int}
  (KX : K.In s₁.heap) (hns : s₁.heap.Ns mainGlobals mg) (hb : s₁.heap.Ns builtinsNs mb) (hbb : ∀ x : Str, x ≠ "__name__" -> mb x = bootBuiltins x) (hlim : s₁.heap.NoLimit) (hg : s₁.gens = #[])
  (ha : s₁.heap.get? a = some { cls := .type "list", data := .seq vs.toArray }) (hi : IntsAre vs ns) (hl : ns.length <= sizeLine) (hr : ze9 k callerA)
  (F : ∀ base : Heap, K.In base -> base.Ns mainGlobals mg -> zg3 P w K mg base CX k fa fd [x] sp) (hbind : ∀ (s : Shared) (u : Value), BindsTo s fd ⟨[u], []⟩ [(x, u)])
  (hsp : ∀ H : Hp, zwS H -> SqL K H a (ns.map V.int) -> sp [.ref a] H (fun v _ => v = .bl true) fun _ _ _ => False)
  (hCX : ∀ H e s', CX [] H s₁ (fun _ _ _ => False) e s' -> False) :
  codeAny (model P w) callerA (.call (.ref fa) ⟨[.ref a], []⟩) (fun r s' => r = .ok (.ret (.bool true)) /\ OldK s₁.heap s'.heap /\ s'.os = s₁.os /\ AllBare s'.gens) s₁ := by
 have rv := zh9 hi
 have lenV := hi.length
 have core : ∀ H : Hp, zwS H -> SqL K H a (ns.map V.int) -> HOk P w H s₁.heap -> (∀ b, H b ≠ none -> b = a) -> (H a ≠ none -> K.lookup a = none) ->
   codeAny (model P w) callerA (.call (.ref fa) ⟨[.ref a], []⟩) (fun r s' => r = .ok (.ret (.bool true)) /\ OldK s₁.heap s'.heap /\ s'.os = s₁.os /\ AllBare s'.gens) s₁ := by
  intro H hO hS hok hA hK
  have base_of : ∀ {b : Addr} {o : Obj}, s₁.heap.get? b = some o -> H b = none -> (zo9 s₁.heap H).get? b = some o := fun e n => zpa e n
  have noA : ∀ {b : Addr} {o : Obj} {es : Array DictEntry} {ep : Nat}, s₁.heap.get? b = some o -> o.data = .dict es ep -> H b = none := fun {b o es ep} e d => by
   cases q : H b with
   | none => rfl
   | some u =>
    have e' : b = a := hA b (by rw [q]; simp)
    subst e'
    rw [ha] at e; cases e
    have d' : Data.seq vs.toArray _ = Data.dict es ep := d
    cases d'
  have nsK : ∀ {b : Addr} {m : Str -> Option Value}, s₁.heap.Ns b m -> (zo9 s₁.heap H).Ns b m := fun {b m} ⟨o, es, ep, e, d, r⟩ => ⟨o, es, ep, base_of e (noA e d), d, r⟩
  have hKb : K.In (zo9 s₁.heap H) := fun b o e => base_of (KX b o e) (by
   cases q : H b with
   | none => rfl
   | some u =>
    have e' : b = a := hA b (by rw [q]; simp)
    subst e'
    rw [hK (by rw [q]; simp)] at e; cases e)
  have hM : Mod K mg (zo9 s₁.heap H) := ⟨hKb, nsK hns, ⟨mb, nsK hb, hbb⟩, let ⟨mc, h1, h2⟩ := hlim; ⟨mc, nsK h1, h2⟩⟩
  have e0 : zwl P w K mg (zo9 s₁.heap H) callerA [] s₁ H := ⟨rfl, hM, fun b o e => zrV e, Nat.le_of_eq (zml _ _), trivial, fun b hb => absurd (show b ∈ ([] : List Addr) from hb) (by simp), hok, .of_eq hg⟩
  refine codeAny_mono ((F _ hKb (nsK hns)).run callerA [] s₁ H ⟨[.ref a], []⟩ [.ref a] [.ref a] _ _ hr e0 (hbind s₁ (.ref a)) (.cons rfl .nil) (hsp H hO hS)) fun r s' h => ?_
  cases r with
  | error e => exact (hCX H e s' h).elim
  | ok fl =>
   cases fl with
   | next => exact False.elim h
   | brk => exact False.elim h
   | cont => exact False.elim h
   | ret u =>
    obtain ⟨v, H', os, bare, un, hok', r', q⟩ := h
    have q' : v = .bl true := q
    subst q'
    obtain rfl : u = Value.bool true := r'
    refine ⟨rfl, OldK.of_keep fun b o e => ?_, os, bare⟩
    cases q : H b with
    | none => exact un.keep b o e q (by intro z; exact absurd (show b ∈ ([] : List Addr) from z) (by simp)) (by simp)
    | some u =>
     rcases hO b with z | ⟨ob, xs, z⟩
     ·rw [q] at z; cases z
     ·have z2 := un.frzs b ob _ z
      obtain ⟨e1, _⟩ := hok b _ z
      obtain ⟨e2, _⟩ := hok' b _ z2
      rw [e] at e1; cases e1
      exact e2
 cases hk : K.lookup a with
 | some o =>
  have e := KX a o hk
  rw [ha] at e
  cases e
  refine core (fun _ => none) (fun _ => .inl rfl) (.inr ⟨_, vs.toArray, _, hk, rfl, rfl, rfl, by rw [xag, lenV]; exact hl, by simpa using rv⟩) (fun b u z => by have z' : (none : Option HO) = some u := z; cases z') (fun b z => absurd rfl z) fun z => absurd rfl z
 | none =>
  refine core (fun b => if b = a then some (.frz { cls := .type "list", data := .seq vs.toArray } (.lst (ns.map V.int))) else none) (fun b => ?_) (.inl (.inr ⟨{ cls := .type "list", data := .seq vs.toArray }, if_pos rfl⟩)) (fun b u z => ?_) (fun b z => ?_) fun _ => hk
  ·by_cases hb : b = a
   ·exact .inr ⟨_, _, if_pos hb⟩
   ·exact .inl (if_neg hb)
  ·by_cases hb : b = a
   ·have z' := (if_pos hb).symm.trans z
    cases z'
    subst hb
    exact ⟨ha, by rw [xae]; exact hl, vs, _, rv, ha⟩
   ·have z' := (if_neg hb).symm.trans z
    cases z'
  ·by_cases hb : b = a
   ·exact hb
   ·exact absurd (if_neg hb) z
end L2
namespace L2
open PySem.Spec PyProof.Rows
theorem walk_of {l : PySem.W.OpenLaw} {n k : Nat} {q : Program} {loose : List Str} {XP : (Str -> Option Value) -> Heap -> Prop} {YP : World -> Heap -> Prop} {d : DefRec} {K : Params -> xFg} {CX : World -> CXT} {sp : World -> Sp} {x : Str}
  (hn : l.most = some n) (hn2 : n <= sizeLine) (hdf : d.params.defaults = []) (hr : ze9 k callerA)
  (hY : ∀ (w : World) (h : Heap), YP w h -> (K w.params).In h)
  (F : ∀ (w : World) (mg : Str -> Option Value) (fa : Addr) (h : Heap), (K w.params).In h -> h.Ns mainGlobals mg -> mg d.name = some (.ref fa) ->
   ∃ fd : FuncData, (∀ (s : Shared) (u : Value), BindsTo s fd ⟨[u], []⟩ [(x, u)]) /\
    ∀ base : Heap, (K w.params).In base -> base.Ns mainGlobals mg -> zg3 l.prog w (K w.params) mg base (CX w) k fa fd [x] (sp w))
  (hsp : ∀ (w : World) (H : Hp) (a : Addr) (ns : List Int), ns.length <= n -> zwS H -> SqL (K w.params) H a (ns.map V.int) -> sp w [.ref a] H (fun v _ => v = .bl true) fun _ _ _ => False)
  (hCX : ∀ (w : World) (H : Hp) (s : Shared) (e : Value) (s' : Shared), CX w [] H s (fun _ _ _ => False) e s' -> False) :
  PySem.W.WalkO q loose XP YP l.row.toRowW d [] (fun f vs => PySem.call f vs) := by
 refine Att.attach_call hn hdf fun w s₀ s₁ mg mb fa o pm cd doc a vs ns G Y ho hd hcd hmg hobj hints hlen hg => ?_
 have KX := hY w _ Y
 obtain ⟨fd, hb, hF⟩ := F w mg fa _ KX G.T.g hmg
 exact zpl KX G.T.g G.T.b G.T.builtins G.T.nolimit hg hobj hints (xa4 hlen hn2) hr hF hb (fun H hO hS => hsp w H a ns hlen hO hS) fun H e s' => hCX w H s₁ e s'
end L2
namespace L2
open PySem.Spec PyProof.Rows
def zcY (s : Stmt) : Arguments := match s with
 | .FunctionDef _ a _ _ _ _ _ _ _ _ => a
 | _ => { posonlyargs := [], args := [], vararg := none, kwonlyargs := [], kw_defaults := [], kwarg := none, defaults := [] }
def zbx (s : Stmt) : List Stmt := match s with
 | .FunctionDef _ _ b _ _ _ _ _ _ _ => b
 | _ => []
def zaf (s : Stmt) : Scope := match s with
 | .FunctionDef _ _ _ _ _ _ sc _ _ _ => sc
 | _ => { kind := .function, names := [], isGenerator := false, isCoroutine := false }
abbrev E0 : XK := fun _ _ _ => False
structure Fun (K : xFg) (x qual : Str) (st : Stmt) (f : Addr) (fd : FuncData) : Prop where
 ex : ∃ (oc : Value) (od : Option Addr) (kV doc pm : Value) (an : Option Addr) (cdv ct : Value) (osl : Array (Option Value)),
  fd = PySem.W.fnOf x qual (zcY st) (zbx st) (zaf st) .none kV doc pm an cdv ct /\ K.lookup f = some ⟨oc, od, .func fd, osl⟩ /\ PySem.W.codeIn K cdv qual = true
 kp : PySem.W.keepIn K (.ref f) = true
section
variable {P : Program} {w : World} {K : xFg} {mg : Str -> Option Value} {base : Heap}
theorem Fun.binds {x qual : Str} {st : Stmt} {f : Addr} {fd : FuncData} {ps : List Str} (F : Fun K x qual st f fd)
  (h : ∀ (kV doc pm : Value) (an : Option Addr) (cdv ct : Value) (us : List Value), us.length = ps.length -> bindArgs (PySem.W.fnOf x qual (zcY st) (zbx st) (zaf st) .none kV doc pm an cdv ct) ⟨us, []⟩ = pure (ps.zip us)) : zhZ K fd ps [] := by
 obtain ⟨oc, od, kV, doc, pm, an, cdv, ct, osl, rfl, lk, hcd⟩ := F.ex
 exact .all (h kV doc pm an cdv ct)
theorem zqL {x qual : Str} {st : Stmt} {f : Addr} {oc : Value} {od an : Option Addr} {osl : Array (Option Value)} {kV doc pm cdv ct : Value} (l : K.lookup f = some ⟨oc, od, .func (PySem.W.fnOf x qual (zcY st) (zbx st) (zaf st) .none kV doc pm an cdv ct), osl⟩)
  (c : PySem.W.codeIn K cdv qual = true) (k : PySem.W.keepIn K (.ref f) = true) : Fun K x qual st f (PySem.W.fnOf x qual (zcY st) (zbx st) (zaf st) .none kV doc pm an cdv ct) := ⟨⟨oc, od, kV, doc, pm, an, cdv, ct, osl, rfl, l, c⟩, k⟩
end
theorem zmI {n : Nat} (h : n <= 1000) : n < sizeLine := xb3 h (by decide)
section
variable {X : Cx}
theorem pv (i : Nat) {x : Str} {pos : Pos} (hN : X.N[i]? = some x := by rfl) (hv : Vis X.env.scope x := by first | exact Or.inl rfl | exact Or.inr (Or.inl rfl) | exact Or.inr (Or.inr rfl)) (hd : (x == ("__debug__" : Str)) = false := by decide)
  (hcd : (x == ("__classdict__" : Str)) = false := by decide) : PE X (.Name x pos) (tVar i) := ztU hN hv hd hcd
end
theorem zwT {A B : Prop} (h : B) : if false = true then A else B := by
 rw [if_neg xaw]
 exact h
theorem zwU {A B : Prop} (h : A) : if true = true then A else B := by
 rw [if_pos rfl]
 exact h
def zai (H H' : Hp) : Prop := ∀ b o, H b = some o -> H' b = some o
theorem zai.refl (H : Hp) : zai H H := fun _ _ h => h
theorem zai.trans {H H1 H2 : Hp} (a : zai H H1) (b : zai H1 H2) : zai H H2 := fun c o h => b c o (a c o h)
theorem zai.free {H H' : Hp} (e : zai H H') {l : Addr} (h : H' l = Option.none) : H l = Option.none := by
 cases q : H l with
 | none => rfl
 | some o =>
  rw [e l o q] at h
  cases h
theorem zai.seq {K : xFg} {H H' : Hp} {a : Addr} {xs : List V} (e : zai H H') (h : SqL K H a xs) : SqL K H' a xs := by
 rcases h with (h | ⟨o, h⟩) | h
 ·exact .inl (.inl (e _ _ h))
 ·exact .inl (.inr ⟨o, e _ _ h⟩)
 ·exact .inr h
end L2
end
namespace L2
open PySem.Spec PyProof.Rows
theorem zgA {α β : Type} (g : β -> α -> β) : ∀ {l : List α} {f : α -> β -> Sem (ForInStep β)} (c : β), (∀ x ∈ l, ∀ c, f x c = pure (.yield (g c x))) -> forIn l c f = pure (l.foldl g c)
 | [], _, _, _ => rfl
 | x :: l, f, c, h => by
  rw [List.forIn_cons, h x xab c, pure_bind]
  exact zgA g (g c x) fun y hy => h y (xad _ hy)
def zbc (env : Env) (cs : List (Str × Addr)) (x : Str × NameKind) : List (Str × Addr) :=
 if (x.2 == NameKind.free) = true then (x.1, (env.cells.lookup x.1).getD 0) :: cs else cs
def ztE (env : Env) (names : List (Str × NameKind)) : List (Str × Addr) := names.foldl (zbc env) []
theorem zmJ {env : Env} {scope : Scope} (h : ∀ x ∈ scope.names, x.2 = .free -> ∃ c, env.cells.lookup x.1 = some c) : closureFor scope env = pure (ztE env scope.names) := by
 simp only [closureFor]
 rw [zgA (zbc env) [] (fun x hx c => by
  obtain ⟨n, k⟩ := x
  by_cases hk : k = .free
  ·obtain ⟨a, e⟩ := h (n, k) hx hk
   have e' : env.cells.lookup n = some a := e
   subst hk
   simp [zbc, cellOf, e']
  ·have hb : (k == NameKind.free) = false := by simpa using hk
   simp [zbc, hb])]
 rfl
theorem zg6 {env : Env} : ∀ (l : List (Str × NameKind)) (acc : List (Str × Addr)), (∀ x ∈ l, x.2 = .free -> ∃ c, env.cells.lookup x.1 = some c) -> (∀ y c, acc.lookup y = some c -> env.cells.lookup y = some c) ->
  ∀ y c, (l.foldl (zbc env) acc).lookup y = some c -> env.cells.lookup y = some c
 | [], acc, _, ha, y, c, e => ha y c e
 | x :: l, acc, h, ha, y, c, e => by
  refine zg6 l (zbc env acc x) (fun z hz => h z (xad _ hz)) (fun z d q => ?_) y c e
  unfold zbc at q
  split at q
  ·rename_i hk
   obtain ⟨a, ea⟩ := h x xab (by simpa using hk)
   rw [xb8] at q
   cases hz : z == x.1 with
   | true =>
    rw [hz] at q
    rw [ea] at q
    have : z = x.1 := by simpa using hz
    rw [this, ea]; simpa using q
   | false => rw [hz] at q; exact ha z d q
  ·exact ha z d q
theorem zfk {env : Env} : ∀ (l : List (Str × NameKind)) (acc : List (Str × Addr)) (y : Str), ((∃ c, acc.lookup y = some c) \/ (y, NameKind.free) ∈ l) -> ∃ c, (l.foldl (zbc env) acc).lookup y = some c
 | [], acc, y, h => by
  rcases h with h | h
  ·exact h
  ·exact absurd h (by simp)
 | x :: l, acc, y, h => by
  refine zfk l (zbc env acc x) y ?_
  rcases h with ⟨c, h⟩ | h
  ·left
   unfold zbc
   split
   ·rw [xb8]
    cases hz : y == x.1 with
    | true => exact ⟨_, rfl⟩
    | false => exact ⟨c, h⟩
   ·exact ⟨c, h⟩
  ·rcases xak.mp h with e | h
   ·left
    subst e
    unfold zbc
    rw [if_pos (by rfl), xb8]
    simp
   ·exact .inr h
theorem zaU {scope : Scope} {env : Env} : ∀ {names : List (Str × NameKind)} {x : Str} {k : NameKind},
  (names.map fun (n, k) => if (k == NameKind.free && env.scope.kind == .function && env.kindOf n == some .cell) then (n, NameKind.cell) else (n, k)).lookup x = some k ->
  names.lookup x = some k \/ (k = .cell /\ names.lookup x = some .free)
 | [], _, _, h => by simp at h
 | (n, k') :: r, x, k, h => by
  change List.lookup x ((if (k' == NameKind.free && env.scope.kind == .function && env.kindOf n == some .cell) = true then (n, NameKind.cell) else (n, k')) :: _) = some k at h
  by_cases hc : (k' == NameKind.free && env.scope.kind == .function && env.kindOf n == some .cell) = true
  ·rw [if_pos hc, xb8] at h
   rw [xb8]
   cases hx : x == n with
   | true =>
    rw [hx] at h
    have hk : k' = .free := by
     simp only [xax, beq_iff_eq] at hc
     exact hc.1.1
    subst hk
    have h' : NameKind.cell = k := by simpa using h
    exact .inr ⟨h'.symm, rfl⟩
   | false => rw [hx] at h; exact zaU (scope := scope) h
  ·rw [if_neg hc, xb8] at h
   rw [xb8]
   cases hx : x == n with
   | true => rw [hx] at h; exact .inl h
   | false => rw [hx] at h; exact zaU (scope := scope) h
def zwV (k : Nat) (NY N : List Str) (sc : Scope) : Bool :=
 NY.length == k + N.length && ((NY.drop k).zip N).all fun p => (sc.names.lookup p.1).isNone || (p.1 == p.2 && sc.names.lookup p.1 != some .local)
structure LC (X : Cx) (k : Nat) (scope : Scope) (NY : List Str) : Prop where
 cells : ∀ y ∈ scope.names, y.2 ≠ .cell
 kind : scope.kind = .function
 names : ∀ y ∈ scope.names, y.2 = .local -> scope.names.lookup y.1 = some .local
 free : ∀ y ∈ scope.names, y.2 = .free -> X.env.kindOf y.1 = some .cell \/ X.env.kindOf y.1 = some .free
 ny : zwV k NY X.N scope = true
 nd : NY.Nodup
def lcOk (k : Nat) (N : List Str) (sc0 scope : Scope) (NY : List Str) : Bool :=
 (scope.names.all fun y => y.2 != .cell) && (scope.kind == .function) && (scope.names.all fun y => y.2 != .local || scope.names.lookup y.1 == some .local) &&
 (scope.names.all fun y => y.2 != .free || sc0.names.lookup y.1 == some .cell || sc0.names.lookup y.1 == some .free) && zwV k NY N scope && decide NY.Nodup
theorem LC.of {X : Cx} {k : Nat} {N NY : List Str} {sc0 scope : Scope} (hN : X.N = N) (hs : X.env.scope = sc0) (h : lcOk k N sc0 scope NY = true) : LC X k scope NY := by
 unfold lcOk at h
 simp only [xax, xay, Bool.or_eq_true, bne_iff_ne, beq_iff_eq, ne_eq] at h
 obtain ⟨⟨⟨⟨⟨h1, h2⟩, h3⟩, h4⟩, h5⟩, h6⟩ := h
 refine ⟨h1, h2, fun y hy e => ?_, fun y hy e => ?_, by rw [hN]; exact h5, of_decide_eq_true h6⟩
 ·rcases h3 y hy with z | z
  ·exact absurd e z
  ·exact z
 ·show X.env.scope.names.lookup y.1 = _ \/ X.env.scope.names.lookup y.1 = _
  rw [hs]
  rcases h4 y hy with (z | z) | z
  ·exact absurd e z
  ·exact .inl z
  ·exact .inr z
def zdz (X : Cx) (scope : Scope) (NY : List Str) (s₀ : Shared) (H₀ : Hp) (C : Addr) (ex : List Addr) : Cx :=
 { X with N := NY, s₀ := s₀, H₀ := H₀, env := compEnvC scope (ztE X.env scope.names) C X.env, outer := X.stack, ex := ex, fn := fun _ => false, pn := [], xe := fun _ _ => False }
def PTs (X : Cx) (cs : List Expr) (t : TT) : Prop :=
 ∀ (pins : List (Addr × Obj)) (s : Shared) (U : St) (H : Hp) (Q : Bool -> Hp -> Prop), Inv X pins U H s -> t U H Q ->
  wpAny (model X.prog X.w) X.A (forIn cs true fun c r => if r = true then do let ok <- isTrue c X.env (eval c X.env); pure (ForInStep.yield ok) else pure (ForInStep.yield r)) (TP X pins U Q) X.xe s
def zwW : TT := fun _ H Q => Q true H
theorem zsg {X : Cx} : PTs X [] zwW := fun _ _ _ H _ I h => wpAny_tests_nil ⟨H, I, h⟩
theorem zsh {X : Cx} {c : Expr} {t : TT} (hc : PT X c t) : PTs X [c] t := fun pins s U H Q I h => wpAny_tests_one (hc pins s U H Q I h)
def zsi (U U2 : St) : Prop := U2.length = U.length /\ ∀ (j : Nat) (v : V), U[j]? = some (some v) -> U2[j]? = some (some v)
def tLC (k : Nat) (wi : TI) (g : TG) (tc : TT) (te : TE) : TE := fun U H Q => wi U H fun J H1 => ∃ W : Nat -> Nat -> List V -> Hp -> Prop, (∃ m, W 0 m [] H1) /\ ∀ i m ys H, W i m ys H -> ys.length < sizeLine /\
 ((J.stop i H /\ ∀ D, H D = none -> Q (.ref D) (upd H D (.lst ys))) \/
  (J.go i H /\ ∃ N : List V -> Hp -> Prop, (∀ ys' H', N ys' H' -> ∃ m', m' < m /\ W (i + 1) m' ys' H') /\
    ∀ v H', J.yld i H v H' -> g v (List.replicate k none ++ U) H' fun U2 H2 => zsi (List.replicate k none ++ U) U2 /\
      tc U2 H2 fun b H3 => if b = true then te U2 H3 fun y H4 => N (ys ++ [y]) H4 else N ys H3))
theorem zwX {α : Type} {t : Sem α} {Q Q' : α -> Shared -> Prop} {M : Model} {A : Around} {E : Value -> Shared -> Prop} {s : Shared} (h : wpAny M A t Q (fun _ _ => False) s) (hQ : ∀ a s, Q a s -> Q' a s) : wpAny M A t Q' E s :=
 wpAny_mono h hQ fun _ _ z => False.elim z
section
variable {prog : Program} {w : World} {A : Around} {R : Result -> Shared -> Prop} {s : Shared}
theorem zia {elt tg iter : Expr} {ifs : List Expr} {scope : Scope} {pos : Pos} {it acc : Value} {env : Env} (W : Nat -> Shared -> Prop)
  (turn : ∀ n s, W n s -> ∀ E', wpAny (model prog w) A (pyNext it) (fun r s1 => match r with
   | none => R (.ok .next) s1
   | some v => wpAny (model prog w) A (letOwnedTupleGo tg it v) (fun _ s2 => wpAny (model prog w) A (assign tg env v) (fun _ s3 =>
     wpAny (model prog w) A (forIn ifs true fun c r => if r = true then do let ok <- isTrue c env (eval c env); pure (ForInStep.yield ok) else pure (ForInStep.yield r)) (fun ok s4 =>
      if ok = true then wpAny (model prog w) A (eval elt env) (fun x s5 => wpAny (model prog w) A (call (.builtin "list.append") [acc, x]) (fun _ s6 => ∃ m, m < n /\ W m s6) E' s5) E' s4
      else ∃ m, m < n /\ W m s4) E' s3) E' s2) E' s1) E' s)
  (n : Nat) (h : W n s) : codeAny (model prog w) A (.compLoop (.ListComp elt [⟨tg, iter, ifs, 0⟩] scope pos) 0 it acc env) R s := by
 refine codeAny_loop rfl W (fun n s hW => ?_) n h
 show wpAny _ A ((compTurn (.ListComp elt [⟨tg, iter, ifs, 0⟩] scope pos) 0 it acc env).onRaise (fun x => do noteFrame x env; theTreesLotGoes x)) _ _ s
 refine wpAny_noted ?_
 rw [compTurn_list]
 refine wpAny_bind (wpAny_standAt (wpAny_bind (thn (turn n s hW _) fun r s1 h1 => ?_)))
 cases r with
 | none => exact wpAny_pure h1
 | some v =>
  refine wpAny_bind (thn h1 fun _ s2 h2 => wpAny_bind (thn h2 fun _ s3 h3 => wpAny_bind (thn h3 fun ok s4 h4 => ?_)))
  cases ok with
  | false => exact wpAny_pure ⟨rfl, h4⟩
  | true => exact wpAny_bind (wpAny_bind (thn h4 fun x s5 h5 => wpAny_bind (thn h5 fun _ s6 h6 => wpAny_pure (wpAny_pure ⟨rfl, h6⟩))))
end
section
variable {X : Cx} {pins : List (Addr × Obj)} {U : St} {H2 : Hp} {s2 : Shared} {scope : Scope} {NY : List Str} {k : Nat} {C D : Addr} {fp : List Addr}
theorem zwY (I2 : Inv X pins U H2 s2) (lc : LC X k scope NY) (hf : ∀ b ∈ fp, zmg X pins H2 b) (hfl : ∀ b ∈ fp, b < s2.heap.objs.size) (hC : s2.heap.objs.size <= C) : (zdz X scope NY s2 H2 C fp).Ok := by
 have hfree : ∀ x ∈ scope.names, x.2 = .free -> ∃ c, X.env.cells.lookup x.1 = some c := fun x hx e => I2.ok.has x.1 (lc.free x hx e)
 have sub : ∀ x c, (ztE X.env scope.names).lookup x = some c -> X.env.cells.lookup x = some c := zg6 scope.names [] hfree (fun y c e => by simp at e)
 refine ⟨I2.ok.mod, ?_, I2.ok.glob, I2.ok.blt, hC, fun x y c e1 e2 => I2.ok.inj x y c (sub x c e1) (sub y c e2), fun x hx => ?_, fun x c z => absurd z (by show ¬ (false = true); decide), I2.ok.hd, I2.ok.frames, .inl rfl, fun b hb => ⟨xat (xaq (hfl b hb) hC), fun x c e => (hf b hb).2.2.2.2.1 x c (sub x c e)⟩,
  I2.bs, xa4 I2.ok.bsz I2.sz, fun b o e hb => ?_, fun b hb z => ?_, I2.stack, I2.stkFree⟩
 ·show (relabel scope X.env).kind = .function
  exact lc.kind
 ·have hx : (relabel scope X.env).names.lookup x = some .cell \/ (relabel scope X.env).names.lookup x = some .free := hx
  have key : scope.names.lookup x = some .free := by
   rcases hx with hx | hx
   ·rcases zaU (scope := scope) hx with z | ⟨_, z⟩
    ·exact absurd rfl (lc.cells _ (PySem.mem_of_lookup z))
    ·exact z
   ·rcases zaU (scope := scope) hx with z | ⟨_, z⟩
    ·exact z
    ·exact z
  exact zfk scope.names [] x (.inr (PySem.mem_of_lookup key))
 ·have q : b ∈ X.ex \/ X.s₀.heap.objs.size <= b := (hf b hb).2.2.2.1
  rcases q with q | q
  ·exact I2.ok.noex b o e q
  ·exact absurd (xaq (xaf e) (xa4 I2.ok.bsz q)) (xbu _)
 ·rcases xak.mp (I2.stkSub b z) with e | e
  ·exact (hf b hb).2.1 e
  ·exact (hf b hb).2.2.1 e
theorem zpm {h1 : Heap} {tk : Nat} {m : Str -> Option Value} {oD : Obj} (I2 : Inv X pins U H2 s2) (lc : LC X k scope NY) (hf : ∀ b ∈ fp, zmg X pins H2 b) (hfl : ∀ b ∈ fp, b < s2.heap.objs.size) (hC : s2.heap.objs.size <= C) (hD : s2.heap.objs.size <= D) (hDC : D ≠ C)
  (old : ∀ b o, s2.heap.get? b = some o -> h1.get? b = some o) (hn : h1.Ns C m) (ho : h1.get? D = some oD) (hoD : ∀ v, oD.data ≠ .cell v) :
  Inv (zdz X scope NY s2 H2 C fp) [(D, oD)] (List.replicate k none ++ U) H2 { s2 with heap := h1, toks := tk } := by
 have hfree : ∀ x ∈ scope.names, x.2 = .free -> ∃ c, X.env.cells.lookup x.1 = some c := fun x hx e => I2.ok.has x.1 (lc.free x hx e)
 have sub : ∀ x c, (ztE X.env scope.names).lookup x = some c -> X.env.cells.lookup x = some c := zg6 scope.names [] hfree (fun y c e => by simp at e)
 have hny := lc.ny
 unfold zwV at hny
 simp only [xax, beq_iff_eq, xay, Bool.or_eq_true, bne_iff_ne, ne_eq] at hny
 obtain ⟨hlen, hz⟩ := hny
 refine ⟨zwY I2 lc hf hfl hC, rfl, I2.bare, Un.kept old, ⟨m, hn, fun i x v e1 e2 e3 => ?_⟩, fun x c e => ?_, I2.hok.fresh hC, fun x c e => I2.freeC x c (sub x c e), fun p hp => ?_, I2.hok.kept old, ?_⟩
 ·have e1 : NY[i]? = some x := e1
  have hik : k <= i := by
   refine Nat.le_of_not_lt fun z => ?_
   rw [xce (by simpa using z), xdc, if_pos z] at e2
   cases e2
  rw [xcy (by simpa using hik), xdn] at e2
  have hi2 : i - k < X.N.length := by
   rw [<- I2.len]; exact (xah.mp e2).1
  obtain ⟨y, ey⟩ : ∃ y, X.N[i - k]? = some y := ⟨_, xap hi2⟩
  have em : (x, y) ∈ (NY.drop k).zip X.N := by
   refine xbn (i := i - k) ?_
   rw [List.getElem?_zip_eq_some]
   refine ⟨?_, ey⟩
   rw [List.getElem?_drop, show k + (i - k) = i by omega]; exact e1
  have e3 : Vis (relabel scope X.env) x := e3
  have kf : scope.names.lookup x = some .free := by
   have kk : ∃ q, scope.names.lookup x = some q := by
    rcases e3 with z | z | z <;> rcases zaU (scope := scope) z with z | ⟨_, z⟩ <;> exact ⟨_, z⟩
   have zz := hz (x, y) em
   have nl : scope.names.lookup x ≠ some .local := by
    rcases zz with zz | zz
    ·obtain ⟨q, hq⟩ := kk
     have zz : (scope.names.lookup x).isNone = true := zz
     rw [hq] at zz; cases zz
    ·exact zz.2
   rcases e3 with z | z | z <;> rcases zaU (scope := scope) z with z | ⟨_, z⟩
   ·exact absurd z nl
   ·exact z
   ·exact absurd rfl (lc.cells _ (PySem.mem_of_lookup z))
   ·exact z
   ·exact z
   ·exact z
  have exy : x = y := by
   rcases hz (x, y) em with zz | zz
   ·have zz : (scope.names.lookup x).isNone = true := zz
    rw [kf] at zz; cases zz
   ·exact zz.1
  subst exy
  obtain ⟨mX, hnX, hlX⟩ := I2.loc
  have hk := lc.free (x, .free) (PySem.mem_of_lookup kf) rfl
  have hk : X.env.kindOf x = some .cell \/ X.env.kindOf x = some .free := hk
  obtain ⟨u, ru, lu⟩ := hlX (i - k) x v ey e2 (.inr hk)
  refine ⟨u, ru, ?_⟩
  rcases lu with ⟨z, _⟩ | ⟨_, c, hc, hcell⟩
  ·rcases hk with q | q <;> rw [q] at z <;> cases z
  ·obtain ⟨c', hc'⟩ := zfk (env := X.env) scope.names [] x (.inr (PySem.mem_of_lookup kf))
   have : c' = c := by
    have q := sub x c' hc'
    rw [hc] at q; exact (Option.some.inj q).symm
   subst this
   refine .inr ⟨?_, c', hc', hcell.keeps old⟩
   show (relabel scope X.env).names.lookup x = some .cell \/ (relabel scope X.env).names.lookup x = some .free
   rcases e3 with z | z
   ·rcases zaU (scope := scope) z with z | ⟨z, _⟩
    ·rw [kf] at z; cases z
    ·cases z
   ·exact z
 ·obtain ⟨v, z⟩ := I2.cell x c (sub x c e)
  exact ⟨v, z.keeps old⟩
 ·have e : p = (D, oD) := by simpa [zdz] using hp
  subst e
  refine ⟨ho, I2.hok.fresh hD, hDC, fun z => ?_, hoD⟩
  have z : D ∈ frs X.stack := z
  rcases xak.mp (I2.stkSub D z) with q | q
  ·exact absurd (xaq I2.lt hD) (by rw [q]; exact xbu _)
  ·exact I2.nofs hD q
 ·show (List.replicate k none ++ U).length = NY.length
  rw [hlen, xbc, xdn, I2.len]
theorem zur {H4 : Hp} {s4 : Shared} {U' : St} {ys : List V} {us : List Value} (I2 : Inv X pins U H2 s2) (hf : ∀ b ∈ fp, zmg X pins H2 b) (hC : s2.heap.objs.size <= C) (hD : s2.heap.objs.size <= D)
  (I4 : Inv (zdz X scope NY s2 H2 C fp) [(D, LCg.lst us)] U' H4 s4) (rv : zaP ys us) (hz : ys.length <= sizeLine) : Inv X pins U (upd H4 D (.lst ys)) s4 := by
 obtain ⟨pD, nD, neD, nfD, dD⟩ := I4.pin (D, LCg.lst us) (by simp)
 have u0 : Un (frs X.stack) fp H2 H4 s2.heap s4.heap := I4.base
 have neb : ∀ b o, s2.heap.get? b = some o -> b ≠ D := fun b o e => xat (xaq (xaf e) hD)
 have hok : HOk X.prog X.w (upd H4 D (.lst ys)) s4.heap := fun b u e => by
  by_cases hb : b = D
  ·subst hb
   rw [zae] at e; cases e
   exact ⟨hz, us, us.length, rv, pD⟩
  ·rw [zah hb] at e
   exact (I4.hok b u e).stay (fun _ _ _ q => q) (fun c q => by rw [zah (zad q nD)]; exact q) fun c xs q => by rw [zah (zad q nD)]; exact q
 refine I2.call' (ch := fp) I4.os ⟨u0.keep, u0.slot, fun b o e n hx => ?_, u0.there, fun b xs q => ?_, fun b o u q => ?_, fun b ps q => ?_⟩ hok I4.bare fun b hb => ⟨(hf b hb).2.2.2.1, (hf b hb).2.1, (hf b hb).2.2.2.2.1, (hf b hb).2.2.2.2.2⟩
 ·rw [zah (neb b o e)]; exact u0.free b o e n hx
 ·have z := u0.tups b xs q
  rw [zah (zad z nD)]; exact z
 ·have z := u0.frzs b o u q
  rw [zah (zad z nD)]; exact z
 ·obtain ⟨more, z⟩ := u0.tbls b ps q
  exact ⟨more, by rw [zah (zad z nD)]; exact z⟩
end
theorem zqM {X : Cx} {tg elt iter : Expr} {ifs : List Expr} {scope : Scope} {pos : Pos} {NY : List Str} {k : Nat} {g : TG} {tc : TT} {te : TE} (hc : X.calm = true) (lc : LC X k scope NY)
  (hb : ∀ (s₀ : Shared) (H₀ : Hp) (C : Addr) (ex : List Addr), NY.Nodup -> PG (zdz X scope NY s₀ H₀ C ex) tg g /\ PTs (zdz X scope NY s₀ H₀ C ex) ifs tc /\ PE (zdz X scope NY s₀ H₀ C ex) elt te)
  {pins : List (Addr × Obj)} {U : St} {H2 : Hp} {s2 : Shared} {it : Addr} {fp : List Addr} {tn : Nat -> Heap -> Prop} {J : It} {RR : Value -> Addr -> Result -> Shared -> Prop} {E : Value -> Shared -> Prop} {Fin : List V -> Hp -> Prop}
  (I2 : Inv X pins U H2 s2) (T : ztD X.prog X.w X.K tg J fp it tn) (st2 : tn 0 s2.heap) (f2 : ∀ b ∈ fp, zmg X pins H2 b) {W : Nat -> Nat -> List V -> Hp -> Prop} {m0 : Nat} (w0 : W 0 m0 [] H2)
  (turn : ∀ i m ys H, W i m ys H -> ys.length < sizeLine /\ ((J.stop i H /\ Fin ys H) \/ (J.go i H /\ ∃ N : List V -> Hp -> Prop, (∀ ys' H', N ys' H' -> ∃ m', m' < m /\ W (i + 1) m' ys' H') /\
   ∀ v H', J.yld i H v H' -> g v (List.replicate k none ++ U) H' fun U2 H2 => zsi (List.replicate k none ++ U) U2 /\ tc U2 H2 fun b H3 => if b = true then te U2 H3 fun y H4 => N (ys ++ [y]) H4 else N ys H3)))
  (fin : ∀ (C D : Addr) (H4 : Hp) (s4 : Shared) (ys : List V) (m : Str -> Option Value), s2.heap.objs.size <= C -> H4 D = none -> H4 C = none -> D ≠ C -> s4.heap.Ns C m -> Inv X pins U (upd H4 D (.lst ys)) s4 -> Fin ys H4 -> RR (.ref D) C (.ok .next) s4) :
  wpAny (model X.prog X.w) X.A (newList []) (fun acc s3 => wpAny (model X.prog X.w) X.A (newFunctionEnv scope X.env.globals (ztE X.env scope.names) [] X.env.qual none .none (some X.env)) (fun cenv s4 =>
   codeAny (model X.prog X.w) X.A (.compStart (.ListComp elt [⟨tg, iter, ifs, 0⟩] scope pos) 0 (.ref it) acc { cenv with scope := relabel scope X.env }) (RR acc cenv.locals) s4) E s3) E s2 := by
 refine wpAny_newObj_type (wpAny_newFunctionEnv lc.cells (by intro y hy; simp at hy) (fun h1 hns1 hsb1 => ?_) lc.kind)
 dsimp only at hns1 hsb1 ⊢
 generalize hG : s2.heap.push { cls := .type "list", dict := none, data := .seq ([] : List Value).toArray } = G at hns1 hsb1 ⊢
 have hC : G.objs.size = s2.heap.objs.size + 1 := by rw [<- hG, xbq]
 have hCle : s2.heap.objs.size <= G.objs.size := by omega
 have hDC : s2.heap.objs.size ≠ G.objs.size := by omega
 have hfl : ∀ b ∈ fp, b < s2.heap.objs.size := fun b hb => by obtain ⟨o, e, _⟩ := T.obj 0 _ st2 b hb; exact xaf e
 have old : ∀ b o, s2.heap.get? b = some o -> h1.get? b = some o := fun b o e => by
  have lt := xaf e
  refine hsb1.extBut b o (xat (xaq lt hCle)) (xaa _ ?_)
  rw [<- hG]; exact xaa _ e
 have hacc : h1.get? s2.heap.objs.size = some (LCg.lst []) := by
  refine hsb1.extBut _ _ hDC (xaa _ ?_)
  rw [<- hG]; exact xal _ rfl
 have dl : ∀ (us : List Value) v, (LCg.lst us).data ≠ .cell v := fun us v z => by
  have z' : Data.seq us.toArray us.length = Data.cell v := z
  cases z'
 have I3 := zpm (h1 := h1) (tk := s2.toks + ([] : List (Str × Value)).length) I2 lc f2 hfl hCle (xai _) hDC old hns1 hacc (dl [])
 have fpY : ∀ {us : List Value} {H' : Hp}, (∀ b ∈ fp, H' b = none) -> ∀ b ∈ fp, zmg (zdz X scope NY s2 H2 G.objs.size fp) [(s2.heap.objs.size, LCg.lst us)] H' b := fun {us H'} hn b hb => by
  have lt := hfl b hb
  have okY := I3.ok
  refine ⟨hn b hb, (okY.exf b hb).1, okY.exfs b hb, .inl hb, (okY.exf b hb).2, fun p hp => ?_⟩
  have e : p = (s2.heap.objs.size, LCg.lst us) := by simpa [zdz] using hp
  subst e
  exact xci lt
 obtain ⟨hg, ht, he⟩ := hb s2 H2 G.objs.size fp lc.nd
 have loop : ∀ s3 : Shared, s3 = { s2 with heap := h1, toks := s2.toks + ([] : List (Str × Value)).length } ->
   codeAny (model X.prog X.w) X.A (.compLoop (.ListComp elt [⟨tg, iter, ifs, 0⟩] scope pos) 0 (.ref it) (.ref s2.heap.objs.size) (compEnvC scope (ztE X.env scope.names) G.objs.size X.env)) (RR (.ref s2.heap.objs.size) G.objs.size) s3 := by
  rintro s3 rfl
  refine zia (fun n s' => ∃ i H' ys us, Inv (zdz X scope NY s2 H2 G.objs.size fp) [(s2.heap.objs.size, LCg.lst us)] (List.replicate k none ++ U) H' s' /\ zaP ys us /\ tn i s'.heap /\ (∀ b ∈ fp, H' b = none) /\ W i n ys H') ?_ m0
   ⟨0, H2, [], [], I3, .nil, T.keep _ _ _ st2 fun b _ o e => old b o e, fun b hb => (f2 b hb).1, w0⟩
  rintro n s3 ⟨i, H3, ys, us, I3, rv, st3, fr3, w3⟩ E'
  obtain ⟨hsz, hturn⟩ := turn i n ys H3 w3
  rcases hturn with ⟨stop, qn⟩ | ⟨go, N, hN, step⟩
  ·refine thn (T.done (zdz X scope NY s2 H2 G.objs.size fp) rfl rfl rfl hc i _ s3 _ H3 E' I3 (fpY fr3) st3 stop) fun r s4 ⟨hr, I4⟩ => ?_
   subst hr
   obtain ⟨m4, hn4, _⟩ := I4.loc
   exact fin _ _ H3 s4 ys m4 hCle (I4.pin (s2.heap.objs.size, LCg.lst us) (by simp)).2.1 I4.free hDC hn4 (zur I2 f2 hCle (xai _) I4 rv (xc7 hsz)) qn
  ·refine thn (T.item (zdz X scope NY s2 H2 G.objs.size fp) rfl rfl rfl hc i _ s3 _ H3 E' I3 (fpY fr3) st3 go) fun r s4 ⟨u, hr, h4⟩ => ?_
   subst hr
   refine thn h4 fun _ s5 ⟨x, H5, I5, r5, y5, st5, fr5⟩ => ?_
   have I5' := I5.pinned (fpY fr5) (T.obj _ _ st5)
   refine zwX (hg _ s5 _ H5 x u _ I5' r5 (step x H5 y5)) fun _ s6 ⟨U6, H6, I6, sub6, q6⟩ => ?_
   have keep : ∀ {U7 : St} {H7 : Hp} {s7 : Shared}, Inv (zdz X scope NY s2 H2 G.objs.size fp) ([(s2.heap.objs.size, LCg.lst us)] ++ zhW fp s5.heap) U7 H7 s7 -> tn (i + 1) s7.heap /\ (∀ b ∈ fp, H7 b = none) := fun {U7 H7 s7} I7 => by
    refine ⟨T.keep _ _ _ st5 fun b hb o e => (I7.pin (b, o) (xbb _ (xbb _ (zdk hb e)))).1, fun b hb => ?_⟩
    obtain ⟨o, e, d⟩ := T.obj _ _ st5 b hb
    exact (I7.pin (b, o) (xbb _ (xbb _ (zdk hb e)))).2.1
   refine zwX (ht _ s6 U6 H6 _ I6 q6) fun ok s7 ⟨H7, I7, q7⟩ => ?_
   cases ok with
   | false =>
    rw [if_neg xaw] at q7 ⊢
    obtain ⟨m', hm, w7⟩ := hN _ _ q7
    obtain ⟨k1, k2⟩ := keep I7
    exact ⟨m', hm, i + 1, H7, ys, us, (I7.weak (by rw [I7.len, I5.len]) sub6.2).unpinned, rv, k1, k2, w7⟩
   | true =>
    rw [if_pos rfl] at q7 ⊢
    refine zwX (he _ s7 U6 H7 _ I7 q7) fun y s8 ⟨v, H8, I8, r8, q8⟩ => ?_
    obtain ⟨m', hm, w8⟩ := hN _ _ q8
    obtain ⟨k1, k2⟩ := keep I8
    obtain ⟨pD, nD, neD, nfD, dD⟩ := I8.pin (s2.heap.objs.size, LCg.lst us) (by simp)
    have hul : us.toArray.size <= sizeLine := by rw [xag, <- rv.length]; exact xc7 hsz
    refine append_at pD (fun h9 sb9 hD9 => ?_) hul
    have I8' : Inv (zdz X scope NY s2 H2 G.objs.size fp) [] (List.replicate k none ++ U) H8 s8 := (I8.weak (by rw [I8.len, I5.len]) sub6.2).pins_of fun p hp => absurd hp (by simp)
    have hDfp : s2.heap.objs.size ∉ fp := fun z => xbu _ (hfl _ z)
    have I9 : Inv (zdz X scope NY s2 H2 G.objs.size fp) [] (List.replicate k none ++ U) H8 { s8 with heap := h9 } :=
     I8'.turned (t' := s8.toks) (it := s2.heap.objs.size) (fun b o hb e => (sb9.2 b hb).trans e) nD neD (.inr (xai _)) (fun x c e z => by
      obtain ⟨v', o', e1, e2⟩ := I8.cell x c e
      rw [z, pD] at e1
      have e1' : LCg.lst us = o' := Option.some.inj e1
      rw [<- e1'] at e2
      exact dl us v' e2) (fun p hp => absurd hp (by simp [zdz]))
    refine ⟨m', hm, i + 1, H8, ys ++ [v], us ++ [y], I9.pins_of fun p hp => ?_, rv.append (.cons r8 .nil), T.keep _ _ _ k1 fun b hb o e => (sb9.2 b fun z => hDfp (z ▸ hb)).trans e, k2, w8⟩
    have e : p = (s2.heap.objs.size, LCg.lst (us ++ [y])) := by simpa using hp
    subst e
    exact ⟨hD9.trans (congrArg some (LCg.lst_snoc us y)), nD, neD, nfD, dl _⟩
 exact codeAny_compStart_list (loop _ rfl) (T.self _ 0 _ _ _ (T.keep _ _ _ st2 fun b _ o e => old b o e) (loop _ rfl))
section
variable {X : Cx} {tg elt iter : Expr} {ifs : List Expr} {scope : Scope} {pos : Pos} {NY : List Str} {k : Nat} {wi : TI} {g : TG} {tc : TT} {te : TE}
theorem zwZ (hc : X.calm = true) (lc : LC X k scope NY) (hi : PI X tg iter wi)
  (hb : ∀ (s₀ : Shared) (H₀ : Hp) (C : Addr) (ex : List Addr), NY.Nodup -> PG (zdz X scope NY s₀ H₀ C ex) tg g /\ PTs (zdz X scope NY s₀ H₀ C ex) ifs tc /\ PE (zdz X scope NY s₀ H₀ C ex) elt te)
  (hs : ∀ x, foldedSetIterable iter X.env x = pure x := by intro _; rfl) : PE X (.ListComp elt [⟨tg, iter, ifs, 0⟩] scope pos) (tLC k wi g tc te) := by
 intro pins s U H Q I h
 rw [eval_ListComp]
 refine wpAny_comprehension_free (use := none) rfl hs (zmJ fun x hx e => I.ok.has x.1 (lc.free x hx e)) lc.kind lc.names (thn (hi pins s U H _ I h) fun v s1 h1 => thn h1 fun itv s2 h2 => ?_)
 obtain ⟨it, fp, tn, J, H2, e, I2, T, st2, f2, W, ⟨m0, w0⟩, turn⟩ := h2
 subst e
 refine zqM (RR := fun acc C => compPost (model X.prog X.w) X.A X.xe none (EP X pins U Q) acc C) hc lc hb I2 T st2 f2 w0 turn fun C D H4 s4 ys m hC nD nC hDC hn I4 q => ?_
 refine ⟨m, hn, fun h' sb => ?_⟩
 have hCn : upd H4 D (.lst ys) C = none := by rw [zah (xba hDC)]; exact nC
 obtain ⟨f0, f1, f2', f3, f4, f5⟩ := I2.fpOk (H' := upd H4 D (.lst ys)) hC hCn
 exact ⟨.ref D, _, I4.turned (t' := s4.toks) (fun b o hb e => (sb.2 b hb).trans e) f0 f1 f3 f4 f5, rfl, q D nD⟩
theorem zw0 {i : Nat} {y : Str} {py spos : Pos} (hc : X.calm = true) (hN : X.N.Nodup) (hi' : X.N[i]? = some y) (hy : X.env.kindOf y = some .local) (lc : LC X k scope NY) (hi : PI X tg iter wi)
  (hb : ∀ (s₀ : Shared) (H₀ : Hp) (C : Addr) (ex : List Addr), NY.Nodup -> PG (zdz X scope NY s₀ H₀ C ex) tg g /\ PTs (zdz X scope NY s₀ H₀ C ex) ifs tc /\ PE (zdz X scope NY s₀ H₀ C ex) elt te)
  (hsw : swapsWith (.ListComp elt [⟨tg, iter, ifs, 0⟩] scope pos) (some (.Name y py)) spos.line X.env = pure true := by rfl)
  (hs : ∀ x, foldedSetIterable iter X.env x = pure x := by intro _; rfl) : PS X (.Assign [.Name y py] (.ListComp elt [⟨tg, iter, ifs, 0⟩] scope pos) spos) (ztC (tLC k wi g tc te) (zjk i)) := by
 intro pins s U H D0 I h
 rw [exec_Assign_Name_used _ _ _ _ hsw]
 refine wpAny_bind (wpAny_standAt (wpAny_bind ?_))
 show wpAny _ X.A (do let _ <- comprehension (.ListComp elt [⟨tg, iter, ifs, 0⟩] scope pos) scope X.env _ (newList []) false (eval iter X.env) (some (assign (.Name y py) X.env))) _ _ s
 refine wpAny_bind (thn (wpAny_comprehension_free (use := some (assign (.Name y py) X.env)) (Q := fun _ s' => SP X pins D0 .next s') rfl hs (zmJ fun x hx e => I.ok.has x.1 (lc.free x hx e)) lc.kind lc.names
  (thn (hi pins s U H _ I h) fun v s1 h1 => thn h1 fun itv s2 h2 => ?_)) fun _ s' q => wpAny_pure (wpAny_pure q))
 obtain ⟨it, fp, tn, J, H2, e, I2, T, st2, f2, W, ⟨m0, w0⟩, turn⟩ := h2
 subst e
 refine zqM (RR := fun acc C => compPost (model X.prog X.w) X.A X.xe (some (assign (.Name y py) X.env)) (fun _ s' => SP X pins D0 .next s') acc C) hc lc hb I2 T st2 f2 w0 turn fun C D H4 s4 ys m hC nD nC hDC hn I4 q => ?_
 have hCn : upd H4 D (.lst ys) C = none := by rw [zah (xba hDC)]; exact nC
 obtain ⟨f0, f1, f2', f3, f4, f5⟩ := I2.fpOk (H' := upd H4 D (.lst ys)) hC hCn
 obtain ⟨oC, es, ep, eC, dC, rC⟩ := id hn
 have I5 : Inv X (pins ++ [(C, oC)]) U (upd H4 D (.lst ys)) s4 := I4.pins_of fun p hp => by
  rcases xbr.mp hp with z | z
  ·exact I4.pin p (xbb _ z)
  ·have e : p = (C, oC) := by simpa using z
   subst e
   exact ⟨eC, hCn, f1, f2', fun v z => by rw [show (C, oC).2.data = oC.data from rfl, dC] at z; cases z⟩
 show wpAny _ X.A (assign (.Name y py) X.env (.ref D)) _ _ _
 refine wpAny_assign_Name (zg0 (v := .ref D) I5 hN hi' (.inl hy) rfl (fun s5 I6 => ?_) (.inr hy))
 refine ⟨m, ⟨oC, es, ep, (I6.pin (C, oC) (by simp)).1, dC, rC⟩, fun h' sb => ?_⟩
 exact ⟨_, _, I6.unpinned.turned (t' := s5.toks) (fun b o hb e => (sb.2 b hb).trans e) f0 f1 f3 f4 f5, q D nD⟩
end
end L2
namespace L2
open PySem.Spec PyProof.Rows
theorem zlA {n k : Nat} (hk : 0 < k) (h : n < 2 ^ k) : n.log2 < k := by
 rcases Nat.eq_zero_or_pos n with h0 | hp
 ·rw [h0]; simpa using hk
 ·exact (Nat.log2_lt (xci hp)).mpr h
section
variable {X : Cx}
theorem zpn : OpR X (compareOp .Is) (fun x y H Q => ∃ a b, x = .bl a /\ y = .bl b /\ Q (.bl (a == b)) H) := by
 intro pins s U H x y v u Q I rx ry h
 obtain ⟨a, b, rfl, rfl, q⟩ := h
 cases rx
 cases ry
 exact is_bool (zhX I q rfl)
theorem zjm : OpR X (compareOp .IsNot) (fun x y H Q => ∃ a b, x = .bl a /\ y = .bl b /\ Q (.bl (a != b)) H) := by
 intro pins s U H x y v u Q I rx ry h
 obtain ⟨a, b, rfl, rfl, q⟩ := h
 cases rx
 cases ry
 exact isnot_bool (zhX I q rfl)
def gLst (K : xFg) (n : Nat) (t : TGs) : TG := fun v U H Q => ∃ a xs, v = .ref a /\ SqL K H a xs /\ xs.length = n /\ t xs U H Q
theorem zus {es : List Expr} {k : Nat} {t : TGs} {n : Nat} {pos : Pos} (hc : X.calm = true) (h : PGs X es t)
  (hn : (assignEach es X.env).length = n := by rfl) (hst : (assignEach es X.env).findIdx? (·.1) = none := by rfl) : PG X (.Tuple es k pos) (gLst X.K n t) := by
 intro pins s U H v u Q I r hw
 obtain ⟨a, xs, e1, hq, hl, hw⟩ := hw
 subst e1
 cases r
 obtain ⟨its, rv, pl, hz⟩ := I.list hq
 have hsz : (assignEach es X.env).length = its.toArray.size := by simp [hn, <- hl, rv.length]
 rw [assign_Tuple]
 refine wpAny_bind (wpAny_standAt ?_)
 unfold unpack
 rw [hsz, hst]
 refine wpAny_bind (wpAny_holding (PySem.W.kun_itemsOf (I.ok.hd hc) pl.isList fun h' hx => ?_))
 have I1 : Inv X pins U H { s with heap := h' } := I.kept (t' := s.toks) fun b o e => hx b o (xat (xaf e)) e
 exact h pins _ U H xs _ Q I1 (by simpa using rv) hw
end
end L2
namespace Mth
theorem gcd_step (m n : Nat) : Nat.gcd n (m % n) = Nat.gcd m n := by
 rw [Nat.gcd_comm n (m % n), <- Nat.gcd_rec n m, Nat.gcd_comm]
structure zg7 (s x y z x' y' z' : Int) : Prop where
 ne : s ≠ 0
 x : x = s * x'
 y : y = s * y'
 z : z = s * z'
theorem zfl {s x x' : Int} (h : s ≠ 0) (e : x = s * x') : x.fdiv s = x' := by
 rw [e]; exact Int.mul_fdiv_cancel_left x' h
theorem zfm {s x x' : Int} (h : s ≠ 0) (e : x = s * x') : x'.natAbs <= x.natAbs := by
 rw [e, xcr]
 exact Nat.le_mul_of_pos_left _ (by omega)
theorem zlB (x y z : Int) (h : ¬ (x = 0 /\ y = 0 /\ z = 0)) : ∃ x' y' z', zg7 ((Nat.gcd (Nat.gcd x.natAbs y.natAbs) z.natAbs : Nat) : Int) x y z x' y' z' := by
 have d1 : (Nat.gcd (Nat.gcd x.natAbs y.natAbs) z.natAbs) ∣ x.natAbs := Nat.dvd_trans (xdl _ _) (xdl _ _)
 have d2 : (Nat.gcd (Nat.gcd x.natAbs y.natAbs) z.natAbs) ∣ y.natAbs := Nat.dvd_trans (xdl _ _) (Nat.gcd_dvd_right _ _)
 have d3 : (Nat.gcd (Nat.gcd x.natAbs y.natAbs) z.natAbs) ∣ z.natAbs := Nat.gcd_dvd_right _ _
 have n0 : Nat.gcd (Nat.gcd x.natAbs y.natAbs) z.natAbs ≠ 0 := by
  intro e
  rw [e] at d1 d2 d3
  exact h ⟨by have := xdd d1; omega, by have := xdd d2; omega, by have := xdd d3; omega⟩
 have c1 : ((Nat.gcd (Nat.gcd x.natAbs y.natAbs) z.natAbs : Nat) : Int) ∣ x := xdo.mp (by rw [xc8]; exact d1)
 have c2 : ((Nat.gcd (Nat.gcd x.natAbs y.natAbs) z.natAbs : Nat) : Int) ∣ y := xdo.mp (by rw [xc8]; exact d2)
 have c3 : ((Nat.gcd (Nat.gcd x.natAbs y.natAbs) z.natAbs : Nat) : Int) ∣ z := xdo.mp (by rw [xc8]; exact d3)
 obtain ⟨x', e1⟩ := c1
 obtain ⟨y', e2⟩ := c2
 obtain ⟨z', e3⟩ := c3
 exact ⟨x', y', z', by omega, e1, e2, e3⟩
theorem zg7.neg {s x y z x' y' z' : Int} (p : zg7 s x y z x' y' z') : zg7 (0 - s) x y z (-x') (-y') (-z') := by
 refine ⟨by have := p.ne; omega, ?_, ?_, ?_⟩
 ·rw [p.x, Int.zero_sub, Int.neg_mul_neg]
 ·rw [p.y, Int.zero_sub, Int.neg_mul_neg]
 ·rw [p.z, Int.zero_sub, Int.neg_mul_neg]
theorem zib {a b B : Nat} (ha : a <= B) (hb : b <= B) : Nat.gcd a b <= B := by
 rcases Nat.eq_zero_or_pos a with h | h
 ·rw [h, Nat.gcd_zero_left]; exact hb
 ·exact xa4 (Nat.gcd_le_left b h) ha
end Mth
namespace L2
open PySem.Spec PyProof.Rows
theorem zpo {H : Hp} {p : Addr} (h : H p = none) (o : HO) : zai H (upd H p o) := fun b u q => by rw [zah (zad q h)]; exact q
theorem zai.tup {K : xFg} {H H' : Hp} {a : Addr} {xs : List V} (e : zai H H') (h : SqT K H a xs) : SqT K H' a xs := by
 rcases h with (h | ⟨o, h⟩) | h
 ·exact .inl (.inl (e _ _ h))
 ·exact .inl (.inr ⟨o, e _ _ h⟩)
 ·exact .inr h
theorem zw1 {n : Nat} (h : n <= 1000) : n <= sizeLine := xc7 (zmI h)
section
variable {K : xFg} {a : Addr} {xs : List V} {H : Hp}
theorem lgo (h : SqL K H a xs) : (Itl K a).stop xs.length H /\ ∀ i, i < xs.length -> (Itl K a).go i H /\ ∀ v H', (Itl K a).yld i H v H' -> H' = H /\ xs[i]? = some v :=
 ⟨⟨xs, h, xai _⟩, fun i hi => ⟨⟨xs, xs[i], h, by simp [hi]⟩, fun v H' y => ⟨y.1, y.2 xs h⟩⟩⟩
theorem tgo (h : SqT K H a xs) : (Itt K a).stop xs.length H /\ ∀ i, i < xs.length -> (Itt K a).go i H /\ ∀ v H', (Itt K a).yld i H v H' -> H' = H /\ xs[i]? = some v :=
 ⟨⟨xs, h, xai _⟩, fun i hi => ⟨⟨xs, xs[i], h, by simp [hi]⟩, fun v H' y => ⟨y.1, y.2 xs h⟩⟩⟩
end
end L2
namespace L2
open PySem.Spec PyProof.Rows
structure Fly (B : Heap) (l : List Env) (x : Addr) (cls : Value) (dct : Option Addr) (fl : Value) (h : Heap) : Prop where
 stays : B.StaysIn h
 new : B.get? x = none
 frames : h.FunFrames B l
 obj : ∃ ox vs T oT ts, h.get? x = some ox /\ ox.cls = cls /\ ox.dict = dct /\ ox.data = .fields vs /\ vs[1]? = some (.ref T) /\ B.get? T = none /\ T ≠ x /\ h.get? T = some oT /\ oT.data = .fields ts /\ ts[3]? = some fl
theorem zmK (o : Obj) (f : Array Value -> Array Value) : (o.mapFields f).dict = o.dict := by
 obtain ⟨c, d, dt, sl⟩ := o; cases dt <;> rfl
section
variable {M : Model} {A : Around} {E : Value -> Shared -> Prop} {s : Shared} {B : Heap} {env : Env} {outer : List Env} {L x : Addr} {Q : Unit -> Shared -> Prop}
theorem zbP {h : Heap} {y : Addr} {oy : Obj} {ws : Array Value} (ey : h.get? y = some oy) (dy : oy.data = .fields ws) {b : Addr} {o : Obj} (eb : h.get? b = some o) (nf : ∀ us, o.data ≠ .fields us) : b ≠ y := fun z => by
 rw [z, ey] at eb
 have z' : oy = o := Option.some.inj eb
 rw [<- z'] at nf
 exact nf ws dy
theorem zic {ox : Obj} {vs : Array Value} {head : Value} {hadNext : Bool} (hfr : A.frames = some (env :: outer)) (hl : s.heap.FunFrames B (env :: outer)) (hf : env.frame = some L)
  (ex : s.heap.get? x = some ox) (hB : B.StaysIn s.heap) (nx : B.get? x = none) (dx : ox.data = .fields vs) (sz : 1 < vs.size)
  (k : ∀ h', Fly B (env :: outer) x ox.cls ox.dict (rawInt L) h' -> s.heap.UpToSlots h' -> Q () { s with heap := h' }) :
  wpAny M A (do let a <- frameOf env; let pl <- entryPlaceOf L hadNext; let b <- EntryCells.newEntry head a .none (rawInt L) .none pl; setField (.ref x) 1 b) Q E s := by
 have nfr : x ∉ (env :: outer).filterMap (·.frame) := fun hm => by
  obtain ⟨_, o, ho, nf⟩ := hl.mem hm
  exact zbP ex dx ho nf rfl
 refine wpAny_bind (wpAny_frameOf_fun hfr hl hf fun g1 so => wpAny_bind (wpAny_entryPlaceOf fun pl hpl => ?_))
 unfold EntryCells.newEntry newFields
 refine wpAny_bind (wpAny_newObj_type ?_ (hpl.sizeOk5 _ _ _ _ _))
 have ex1 : g1.get? x = some ox := (so.2.1 x nfr).trans ex
 have B1 : B.StaysIn g1 := fun b o eb => (so.2.1 b fun hm => by rw [(hl.mem hm).1] at eb; cases eb).trans (hB b o eb)
 generalize eo : ({ cls := .type "traceback", dict := none, data := .fields ([head, .ref L, .none, rawInt L, .none] ++ (if pl.isEmpty then List.replicate 6 Value.none else pl)).toArray } : Obj) = ob
 have ex2 := xaa (h := g1) ob ex1
 refine wpAny_setField ex2 dx sz (k _ ?_ ?_)
 ·have Tx : g1.objs.size ≠ x := xci (xaf ex1)
  have d3 := Obj.data_mapFields dx (·.setIfInBounds 1 (Value.ref g1.objs.size))
  have e3 := xb2 (Obj.mapFields (·.setIfInBounds 1 (Value.ref g1.objs.size))) ex2 (Obj.isFreed_of_fields d3)
  have freeOb : ob.isFreed = false := by rw [<- eo]; rfl
  have T3 := (xbp (g1.push ob) (Obj.mapFields (·.setIfInBounds 1 (Value.ref g1.objs.size))) (xba Tx)).trans (xal g1 freeOb)
  refine ⟨fun b o eb => ?_, nx, hl.of_keeps fun b o eb nf => ?_, _, _, g1.objs.size, ob, _, e3, Obj.cls_mapFields _ _, zmK _ _, d3, by simp [sz], B1.fresh, Tx, T3, by rw [<- eo], ?_⟩
  ·rw [xbp _ _ (fun z => by rw [<- z, nx] at eb; cases eb)]
   exact xaa _ (B1 b o eb)
  ·obtain ⟨sl, q⟩ := so.2.2 b o eb
   refine ⟨{ o with slots := sl }, ?_, rfl⟩
   rw [xbp _ _ (xba (zbP ex dx eb nf))]
   exact xaa _ q
  ·rcases hpl with rfl | ⟨_, _, _, _, _, _, _, rfl⟩ <;> simp
 ·intro b o eb nf
  obtain ⟨sl, q⟩ := so.2.2 b o eb
  refine ⟨sl, ?_⟩
  rw [xbp _ _ (xba (zbP ex dx eb nf))]
  exact xaa _ q
theorem zmL {ox : Obj} {vs : Array Value} (hfr : A.frames = some (env :: outer)) (hl : s.heap.FunFrames B (env :: outer)) (hf : env.frame = some L)
  (ex : s.heap.get? x = some ox) (hB : B.StaysIn s.heap) (nx : B.get? x = none) (dx : ox.data = .fields vs) (v1 : vs[1]? = some .none)
  (k : ∀ h', Fly B (env :: outer) x ox.cls ox.dict (rawInt L) h' -> s.heap.UpToSlots h' -> Q () { s with heap := h' }) : wpAny M A (noteFrame (.ref x) env) Q E s := by
 unfold noteFrame
 simp only [hf]
 refine wpAny_bind (wpAny_field ex dx v1 ?_)
 rw [if_neg (show ¬ ((Value.none != Value.none) = true) by decide)]
 exact zic hfr hl hf ex hB nx dx (xa3.mp v1).1 k
theorem zpp {cls : Value} {dct : Option Addr} (hfr : A.frames = some (env :: outer)) (hf : env.frame = some L) (F : Fly B (env :: outer) x cls dct .none s.heap)
  (k : ∀ h', Fly B (env :: outer) x cls dct (rawInt L) h' -> s.heap.UpToSlots h' -> Q () { s with heap := h' }) : wpAny M A (noteFrame (.ref x) env) Q E s := by
 obtain ⟨ox, vs, T, oT, ts, ex, hc, hd, dx, v1, nT, Tx, eT, dT, t3⟩ := F.obj
 subst hc hd
 unfold noteFrame
 simp only [hf]
 refine wpAny_bind (wpAny_field ex dx v1 ?_)
 rw [if_pos (show (Value.ref T != Value.none) = true by simp)]
 refine wpAny_bind (wpAny_field eT dT t3 ?_)
 rw [if_neg (show ¬ ((Value.none == rawInt L) = true) by simp [rawInt])]
 refine wpAny_bind (wpAny_setField eT dT (xa3.mp t3).1 ?_)
 have oth : ∀ b, b ≠ T -> (s.heap.update T (Obj.mapFields (·.setIfInBounds 3 Value.none))).get? b = s.heap.get? b := fun b hb => xbp _ _ (xba hb)
 have up : s.heap.UpToSlots (s.heap.update T (Obj.mapFields (·.setIfInBounds 3 Value.none))) := fun b o eb nf => ⟨o.slots, (oth b (zbP eT dT eb nf)).trans eb⟩
 refine zic hfr (F.frames.of_keeps fun b o eb nf => ⟨o, (oth b (zbP eT dT eb nf)).trans eb, rfl⟩) hf ((oth x (xba Tx)).trans ex) (fun b o eb => (oth b fun z => by rw [z, nT] at eb; cases eb).trans (F.stays b o eb)) F.new dx
  (xa3.mp v1).1 fun h' f u => k h' f (up.trans u)
theorem zjV {l : List Env} {cls fl : Value} {dct : Option Addr} (F : Fly B l x cls dct fl s.heap)
  (k : ∀ h', Fly B l x cls dct .none h' -> s.heap.UpToSlots h' -> Q () { s with heap := h' }) : wpAny M A (setFlight (.ref x) none) Q E s := by
 obtain ⟨ox, vs, T, oT, ts, ex, hc, hd, dx, v1, nT, Tx, eT, dT, t3⟩ := F.obj
 have sz : 3 < ts.size := (xa3.mp t3).1
 unfold setFlight
 refine wpAny_bind (wpAny_field ex dx v1 ?_)
 rw [if_pos (show (Value.ref T != Value.none) = true by simp)]
 have oth : ∀ b, b ≠ T -> (s.heap.update T (Obj.mapFields (·.setIfInBounds 3 ((none : Option Addr).elim Value.none fun f => rawInt f)))).get? b = s.heap.get? b := fun b hb => xbp _ _ (xba hb)
 refine wpAny_setField eT dT sz (k _ ⟨fun b o eb => (oth b fun z => by rw [z, nT] at eb; cases eb).trans (F.stays b o eb), F.new, F.frames.of_keeps fun b o eb nf => ⟨o, (oth b (zbP eT dT eb nf)).trans eb, rfl⟩,
  ox, vs, T, _, _, (oth x (xba Tx)).trans ex, hc, hd, dx, v1, nT, Tx, xb2 _ eT (Obj.isFreed_of_fields (Obj.data_mapFields dT _)), Obj.data_mapFields dT _, by simp [sz]⟩
  fun b o eb nf => ⟨o.slots, (oth b (zbP eT dT eb nf)).trans eb⟩)
theorem Fly.out {cls : Value} {dct : Option Addr} {fl : Value} {h : Heap} (F : Fly B (env :: outer) x cls dct fl h) : Fly B outer x cls dct fl h := ⟨F.stays, F.new, F.frames.2.2, F.obj⟩
end
end L2
namespace L2
open PySem.Spec PyProof.Rows
theorem zbv.there {P : Program} {w : World} {H : Hp} {h : Heap} {a : Addr} {o : HO} (x : zbv P w H h a o) : ∃ ob, h.get? a = some ob := by
 cases o with
 | lst xs => obtain ⟨_, _, _, _, e⟩ := x; exact ⟨_, e⟩
 | tup xs => obtain ⟨_, _, _, ob, e, _⟩ := x; exact ⟨ob, e⟩
 | dK kvs => obtain ⟨_, _, _, _, o, _, _, e, _⟩ := x; exact ⟨o, e⟩
 | dT kvs => obtain ⟨_, _, _, _, o, _, _, e, _⟩ := x; exact ⟨o, e⟩
 | set S n => obtain ⟨o, _, _, _, e, _⟩ := x; exact ⟨o, e⟩
 | ins C dx fs => obtain ⟨_, _, _, e, _⟩ := x; exact ⟨_, e⟩
 | own y => exact x
 | xd fs => obtain ⟨_, ⟨o, _, _, e, _⟩, _⟩ := x; exact ⟨o, e⟩
 | rng lo hi => obtain ⟨_, _, _, e⟩ := x; exact ⟨_, e⟩
 | frz ob u => obtain ⟨e, _⟩ := x; exact ⟨_, e⟩
 | tbl ps => exact ⟨_, (show h.get? a = some _ from x)⟩
 | met f y => exact ⟨_, (show h.get? a = some _ from x)⟩
 | ext φ => exact x.2.1
structure InB (B : Heap) (fs : List Addr) (h0 : Heap) (H' : Hp) (h' : Heap) : Prop where
 old : ∀ b o, h0.get? b = some o -> b ∉ fs -> ∀ o', h'.get? b = some o' -> B.get? b = some o'
 trk : ∀ b u, H' b = some u -> ∀ o', h'.get? b = some o' -> B.get? b = some o'
def CXe (P : Program) (w : World) : CXT := fun outer H s E e s' => ∃ (x C : Addr) (dct : Option Addr) (H' : Hp) (B : Heap), e = .ref x /\ s'.os = s.os /\ AllBare s'.gens /\ Un (frs outer) [] H H' s.heap s'.heap /\ HOk P w H' s'.heap /\
 Fly B outer x (.ref C) dct .none s'.heap /\ InB B (frs outer) s.heap H' s'.heap /\ H' x = none /\ E (.ref C) dct H'
section
variable {X : Cx} {pins : List (Addr × Obj)} {U : St} {H H' : Hp} {s s' : Shared} {x C : Addr} {B : Heap} {E : XK} {dct : Option Addr} {M : Model} {EE : Value -> Shared -> Prop}
theorem zjW {env : Env} {outer : List Env} {L : Addr} (hf : env.frame = some L) : frs (env :: outer) = L :: frs outer := by
 unfold frs; rw [xcj, hf]
theorem zlC {h' : Heap} {args : List Value} {tk : Nat} (I : Inv X pins U H s) (hst : X.stack = X.env :: X.outer) (hf : X.env.frame = some X.env.locals) (hex : X.ex = []) (m : Heap.MadeExcOf s.heap h' x (.ref C) args) (hE : E (.ref C) none H) :
  wpAny M X.A (leaving X.env (.ref x)) (fun _ s2 => CXe X.prog X.w X.outer X.H₀ X.s₀ E (.ref x) s2) EE { s with heap := h', toks := tk } := by
 have stk := I.stack
 have hfr : X.A.frames = some (X.env :: X.outer) := by rw [<- hst]; exact I.ok.frames
 rw [hst] at stk
 have fc : frs (X.env :: X.outer) = X.env.locals :: X.fs := zjW hf
 have hin : ∀ env ∈ (X.env :: X.outer), ∀ b, env.frame = some b -> b ∈ frs (X.env :: X.outer) := fun env he b hb => xby.mpr ⟨env, he, hb⟩
 generalize eB : PySem.W.hideAll s.heap (frs (X.env :: X.outer)) = B
 have inB : ∀ b o, s.heap.get? b = some o -> b ∉ frs (X.env :: X.outer) -> B.get? b = some o := fun b o e n => by rw [<- eB]; exact PySem.W.hideAll_get _ e n
 have ofB : ∀ b o, B.get? b = some o -> s.heap.get? b = some o := fun b o e => by rw [<- eB] at e; exact PySem.W.of_hideAll _ e
 have fl0 : s.heap.FunFrames B (X.env :: X.outer) := by rw [<- eB]; exact PySem.W.funFrames_hide stk hin
 have nx : B.get? x = none := by
  cases q : B.get? x with
  | none => rfl
  | some o => have := ofB x o q; rw [m.new] at this; cases this
 obtain ⟨t, et, _, _⟩ := m.there
 have tfree : ∀ b u, H b = some u -> b ∉ frs (X.env :: X.outer) := fun b u e hb => by
  have := I.stkFree b (by rw [hst]; exact hb)
  rw [e] at this; cases this
 have hHx : H x = none := by
  cases q : H x with
  | none => rfl
  | some u =>
   obtain ⟨ob, e⟩ := (I.hok x u q).there
   rw [m.new] at e; cases e
 unfold leaving
 refine wpAny_bind (zmL (s := { s with heap := h', toks := tk }) hfr (fl0.of_keeps fun b o e _ => ⟨o, m.keeps b o e, rfl⟩) hf et (fun b o e => m.keeps b o (ofB b o e)) nx rfl rfl fun h1 F1 u1 => zjV F1 fun h2 F2 u2 => ?_)
 have up : s.heap.UpToSlots h2 := (Heap.UpToSlots.of_keeps m.keeps).trans (u1.trans u2)
 have keep2 : ∀ b o, s.heap.get? b = some o -> b ∉ frs (X.env :: X.outer) -> h2.get? b = some o := fun b o e n => F2.stays b o (inB b o e n)
 have below : ∀ b o, X.s₀.heap.get? b = some o -> b ∉ X.fs -> b ∉ frs (X.env :: X.outer) := fun b o e nb hb => by
  rw [fc] at hb
  rcases xak.mp hb with z | z
  ·exact absurd (xaq (xaf e) I.ok.above) (by rw [z]; exact xbu _)
  ·exact nb z
 have noex : ∀ b, b ∉ X.ex := fun b z => by rw [hex] at z; cases z
 have slot2 : ∀ b o, s.heap.get? b = some o -> b ∈ X.fs -> ∃ sl, h2.get? b = some { o with slots := sl } := fun b o e hb => by
  obtain ⟨_, o1, e1, nf⟩ := stk.mem (b := b) (by show b ∈ frs (X.env :: X.outer); rw [fc]; exact xad _ hb)
  rw [e] at e1; cases e1
  exact up b o e nf
 refine ⟨x, C, none, H, B, rfl, I.os, I.bare, ⟨fun b o e n hb _ => keep2 b o (I.base.keep b o e n hb (noex b)) (below b o e hb), fun b o e n hb _ => ?_, fun b o e n _ => I.base.free b o e n (noex b), fun b o e _ => ?_, I.base.tups, I.base.frzs, I.base.tbls⟩,
  fun b u e => (I.hok b u e).stay (fun c v hc q => keep2 c v q ?_) (fun _ q => q) fun _ _ q => q, F2.out, ⟨fun b o e nb o' e' => ?_, fun b u e o' e' => ?_⟩, hHx, hE⟩
 ·obtain ⟨sl, e1⟩ := I.base.slot b o e n hb (noex b)
  obtain ⟨sl2, e2⟩ := slot2 b _ e1 hb
  exact ⟨sl2, e2⟩
 ·obtain ⟨o1, e1⟩ := I.base.there b o e (noex b)
  by_cases hb : b ∈ X.fs
  ·obtain ⟨sl2, e2⟩ := slot2 b _ e1 hb
   exact ⟨_, e2⟩
  ·exact ⟨o1, keep2 b o1 e1 (below b o e hb)⟩
 ·rcases hc with z | z
  ·rw [z]; exact tfree b u e
  ·exact tfree c _ z
 ·obtain ⟨o1, e1⟩ := I.base.there b o e (noex b)
  have q := inB b o1 e1 (below b o e nb)
  rw [F2.stays b o1 q] at e'
  cases e'; exact q
 ·obtain ⟨o1, e1⟩ := (I.hok b u e).there
  have q := inB b o1 e1 (tfree b u e)
  rw [F2.stays b o1 q] at e'
  cases e'; exact q
theorem zpq {e : Value} (I : Inv X pins U H s) (hst : X.stack = X.env :: X.outer) (hf : X.env.frame = some X.env.locals) (hex : X.ex = []) (h : CXe X.prog X.w X.stack H s E e s') :
  wpAny M X.A (leaving X.env e) (fun _ s2 => CXe X.prog X.w X.outer X.H₀ X.s₀ E e s2) EE s' := by
 obtain ⟨x, C, dct, H', B, rfl, ho, hg, un, hok, F, ib, nx, hE⟩ := h
 have stk := I.stack
 have hfr : X.A.frames = some (X.env :: X.outer) := by rw [<- hst]; exact I.ok.frames
 rw [hst] at stk F ib un
 have fc : frs (X.env :: X.outer) = X.env.locals :: X.fs := zjW hf
 unfold leaving
 refine wpAny_bind (zpp hfr hf F fun h1 F1 u1 => zjV F1 fun h2 F2 u2 => ?_)
 have up : s'.heap.UpToSlots h2 := u1.trans u2
 have below : ∀ b o, X.s₀.heap.get? b = some o -> b ∉ X.fs -> b ∉ frs (X.env :: X.outer) := fun b o e nb hb => by
  rw [fc] at hb
  rcases xak.mp hb with z | z
  ·exact absurd (xaq (xaf e) I.ok.above) (by rw [z]; exact xbu _)
  ·exact nb z
 have inFs : ∀ b, b ∈ X.fs -> b ∈ frs (X.env :: X.outer) := fun b hb => by rw [fc]; exact xad _ hb
 have noex : ∀ b, b ∉ X.ex := fun b z => by rw [hex] at z; cases z
 have no0 : ∀ b : Addr, b ∉ ([] : List Addr) := fun b => by simp
 have slot2 : ∀ b o, s.heap.get? b = some o -> H b = none -> b ∈ X.fs -> ∃ sl, h2.get? b = some { o with slots := sl } := fun b o e n hb => by
  obtain ⟨_, o1, e1, nf⟩ := stk.mem (b := b) (inFs b hb)
  rw [e] at e1; cases e1
  obtain ⟨sl, e2⟩ := un.slot b o e n (inFs b hb) (no0 b)
  obtain ⟨sl2, e3⟩ := up b _ e2 nf
  exact ⟨sl2, e3⟩
 have free1 : ∀ b o, X.s₀.heap.get? b = some o -> X.H₀ b = none -> H b = none := fun b o e n => I.base.free b o e n (noex b)
 refine ⟨x, C, dct, H', B, rfl, ho.trans I.os, hg, ⟨fun b o e n hb _ => ?_, fun b o e n hb _ => ?_, fun b o e n _ => ?_, fun b o e _ => ?_, fun b xs q => un.tups b xs (I.base.tups b xs q), fun b o u q => un.frzs b o u (I.base.frzs b o u q), fun b ps q => ?_⟩,
  fun b u e => (hok b u e).stay (fun c v hc q => F2.stays c v ?_) (fun _ q => q) fun _ _ q => q, F2.out, ⟨fun b o e nb o' e' => ?_, fun b u e o' e' => ?_⟩, nx, hE⟩
 ·have e1 := I.base.keep b o e n hb (noex b)
  have e2 := un.keep b o e1 (free1 b o e n) (below b o e hb) (no0 b)
  exact F2.stays b o (ib.old b o e1 (below b o e hb) o e2)
 ·obtain ⟨sl, e1⟩ := I.base.slot b o e n hb (noex b)
  obtain ⟨sl2, e2⟩ := slot2 b _ e1 (free1 b o e n) hb
  exact ⟨sl2, e2⟩
 ·obtain ⟨o1, e1⟩ := I.base.there b o e (noex b)
  exact un.free b o1 e1 (free1 b o e n) (no0 b)
 ·obtain ⟨o1, e1⟩ := I.base.there b o e (noex b)
  obtain ⟨o2, e2⟩ := un.there b o1 e1 (no0 b)
  by_cases hb : b ∈ X.fs
  ·have n : H b = none := I.stkFree b (by rw [hst]; exact inFs b hb)
   obtain ⟨sl2, e3⟩ := slot2 b _ e1 n hb
   exact ⟨_, e3⟩
  ·exact ⟨o2, F2.stays b o2 (ib.old b o1 e1 (below b o e hb) o2 e2)⟩
 ·obtain ⟨m1, e1⟩ := I.base.tbls b ps q
  obtain ⟨m2, e2⟩ := un.tbls b _ e1
  exact ⟨m1 ++ m2, by rw [e2, Array.append_assoc]⟩
 ·rcases hc with z | z
  ·subst z; exact ib.trk c u e v q
  ·exact ib.trk c _ z v q
 ·obtain ⟨o1, e1⟩ := I.base.there b o e (noex b)
  obtain ⟨o2, e2⟩ := un.there b o1 e1 (no0 b)
  have q := ib.old b o1 e1 (below b o e nb) o2 e2
  rw [F2.stays b o2 q] at e'
  cases e'; exact q
 ·obtain ⟨o1, e1⟩ := (hok b u e).there
  have q := ib.trk b u e o1 e1
  rw [F2.stays b o1 q] at e'
  cases e'; exact q
def zwm (x C : Addr) (dct : Option Addr) : HO := .ext fun h => ∃ o, h.get? x = some o /\ o.cls = .ref C /\ o.dict = dct /\ PySem.W.notCls o = true
end
end L2
namespace L2
open PySem.Spec PyProof.Rows PySem.W
section
variable {prog : Program} {w : World} {A : Around} {E : Value -> Shared -> Prop} {s : Shared} {K : Frag} {x D : Addr} {ox : Obj} {od : Option Obj} {name : Str} {tk : Tok}
theorem zmM {M : Model} {nameV : Value} {Q : Unit -> Shared -> Prop} (X : K.In s.heap) (I : InstAt s.heap x ox D od) (hb : mroIn K D (.type "BaseException") = some true) (hq : Q () s) :
  wpAny M A (checkBuiltinCall "BaseException.__getattribute__" ⟨[.ref x, nameV], []⟩) Q E s := by
 have hk : builtinKind "BaseException.__getattribute__" = some .slot := by decide +kernel
 have hsp : splitId "BaseException.__getattribute__" = some ("BaseException", "__getattribute__") := by decide +kernel
 have ha := F.args_bexc_ga (.ref x) nameV
 obtain ⟨hh, g, d, t, os⟩ := s
 have L0 : Looks M hh (isInstance (.ref x) (.type "BaseException")) true := (I.type (M := M)).andThen (looks_mroIn X hb)
 simp only [checkBuiltinCall, hk, hsp]
 refine wpAny_bind (L0.at ?_)
 repeat (any_goals (first | assumption | wp_step))
theorem zut {R : Result -> Shared -> Prop} {g a : Value} (X : K.In s.heap) (I : InstAt s.heap x ox D od) (hb : mroIn K D (.type "BaseException") = some true) (hf : findObj K D od name = some (.bind g a))
  (h : wpAny (model prog w) A.in1 (call g [a, .ref x, .ref D]) (fun v s' => R (.ok (.ret v)) s') (fun e s' => R (.error e) s') s) :
  codeAny (model prog w) A (.call (.builtin "BaseException.__getattribute__") ⟨[.ref x, .str name tk], []⟩) R s := by
 refine codeAny_call_builtin F.attr_ValueError.ga.plain F.entry_bexc_ga (zmM X I hb ?_)
 obtain ⟨hh, gg, d, t, os⟩ := s
 have L0 := I.type (M := model prog w)
 have L1 := looks_find (M := model prog w) X I hf
 unfold Builtin.«object.__getattribute__»
 refine wpAny_bind (wpAny_of_eq (a := (Value.ref x, [Value.str name tk])) rfl ?_)
 refine wpAny_bind (wpAny_of_eq (a := name) rfl ?_)
 refine wpAny_bind (L0.at (wpAny_bind (L1.at ?_)))
 show wpAny _ _ (do ret (<- holding [a] (call g [a, Value.ref x, Value.ref D]))) _ _ _
 exact wpAny_bind (wpAny_holding (wpAny_mono h (fun v s' q => wpAny_pure q) fun e s' q => q))
theorem zid {a g : Value} (hc : (clsIn K D).isSome = true) (ha : findIn K (.ref D) name = some (some a)) (hg : specialIn K a "__get__" = some (some g)) (ht : takesIn K a = some true) : findObj K D od name = some (.bind g a) := by
 obtain ⟨cd, hc⟩ := xbi.mp hc
 unfold findObj
 rw [hc, Option.bind_some, ha, Option.bind_some]
 simp [hg, ht]
structure ztF (K : Frag) (D : Addr) : Prop where
 cls : (clsIn K D).isSome = true
 ga : findIn K (.ref D) "__getattribute__" = some (some (.builtin "BaseException.__getattribute__"))
 gh : findIn K (.ref D) "__getattr__" = some none
 base : mroIn K D (.type "BaseException") = some true
 obj : mroIn K D (.type "object") = some true
 ca : findIn K (.ref D) "__class__" = some (some (.builtin "object.__class__"))
 cg : specialIn K (.builtin "object.__class__") "__get__" = some (some (.builtin "getset_descriptor.__get__"))
 ct : takesIn K (.builtin "object.__class__") = some true
theorem zmN {Q : Option Value -> Shared -> Prop} (c : ztF K D) (X : K.In s.heap) (I : InstAt s.heap x ox D od) (h : Q (some (.ref D)) { s with toks := s.toks + 1 }) :
  wpAny (model prog w) A (getAttr? (.ref x) "__class__") Q E s := by
 obtain ⟨hh, gg, d, t, os⟩ := s
 have L0 := I.type (M := model prog w)
 have L1 := looks_findIn (M := model prog w) X c.ga
 have L2 := looks_findIn (M := model prog w) X c.gh
 have hf : findObj K D od "__class__" = some (.bind (.builtin "getset_descriptor.__get__") (.builtin "object.__class__")) := zid c.cls c.ca c.cg c.ct
 have hx1 : (onTheHeap (Value.ref D) && Value.builtin "BaseException.__getattribute__" == Value.builtin "object.__getattribute__") = false := by
  rw [show (Value.builtin "BaseException.__getattribute__" == Value.builtin "object.__getattribute__") = false by decide +kernel]; rfl
 unfold getAttr? getAttrBy? getAttrBy
 refine wpAny_bind (wpAny_mkText (wpAny_bind (wpAny_attempt (wpAny_holding (wpAny_bind (L0.at (wpAny_bind (L1.at ?_))))))))
 dsimp only
 rw [hx1, if_neg xaw]
 unfold getAttrByItsOwn
 refine wpAny_bind ?_
 show wpAny _ _ (typeLookup (.ref D) "__getattr__") _ _ _
 refine L2.at ?_
 refine wpAny_bind (wpAny_attempt (wpAny_holding ?_))
 show wpAny _ _ (boundAndCalled (.builtin "BaseException.__getattribute__") (.ref x) (.str "__class__" t)) _ _ _
 unfold boundAndCalled
 refine wpAny_bind (wpAny_of_eq (F.attr_ValueError.ga.bind (.ref x)) ?_)
 refine wpAny_call (zut X I c.base hf ?_)
 refine wpAny_call (class_get X I c.obj ?_)
 exact handed_on rfl (wpAny_pure h)
theorem zpr (c : ztF K D) : KitX K (.ref x) (.ref D) (fun h => ∃ ox od, InstAt h x ox D od) where
 ty := fun _ _ _ ⟨_, _, I⟩ => I.type
 it := fun _ _ X _ => by
  obtain ⟨cdD, hcD⟩ := xbi.mp c.cls
  unfold clsIn at hcD
  split at hcD
  ·rename_i c' d' cd' sl' ho
   intro A' Q' E' s' k q
   unfold isType loadHead
   exact wpAny_bind (wpAny_loadPart (k _ _ (X _ _ ho)) (wpAny_pure q))
  ·cases hcD
 ne := fun h tp dd its n sl X htp => by
  obtain ⟨cdD, hcD⟩ := xbi.mp c.cls
  refine Bool.eq_false_iff.mpr fun q => ?_
  have e : D = tp := Value.ref.inj (beq_iff_eq.mp q)
  subst e
  unfold clsIn at hcD
  split at hcD
  ·rename_i c' d' cd' sl' ho
   have z := (X _ _ ho).symm.trans htp
   cases z
  ·cases hcD
 ca := fun X ⟨_, _, I⟩ k => zmN c X I k
end
end L2
namespace L2
open PySem.Spec PyProof.Rows
section
variable {P : Program} {w : World} {K : xFg} {mg : Str -> Option Value} {base : Heap}
theorem Fun.okX {CX : CXT} {x qual : Str} {st : Stmt} {f : Addr} {fd : FuncData} {N ps : List Str} {k : Nat} {sp : Sp} (F : Fun K x qual st f fd) (S : zdK N ps (zaf st)) (len : ∀ vs H Q E, sp vs H Q E -> vs.length = ps.length)
  (hbody : ∀ (cdv : Value) (A : Around) (outer : List Env) (s : Shared) (H : Hp) (vs : List V) (Q : VK) (E : XK), ze9 k (A.deeper (envOfC qual (zaf st) s.heap.objs.size f cdv)) -> sp vs H Q E ->
   ∃ t, PSs (zgl CX P w K mg base N qual (zaf st) f cdv A outer s H E) (zbx st) t /\ t { nx := fun _ H' => Q .non H', rt := Q } (start N vs) H) : zg3 P w K mg base CX (k + 1) f fd ps sp := by
 obtain ⟨oc, od, kV, doc, pm, an, cdv, ct, osl, rfl, lk, hcd⟩ := F.ex
 exact zwO lk hcd S len fun A outer s H vs Q E hr hsp => hbody cdv A outer s H vs Q E hr hsp
theorem zuu {N : List Str} {qual : Str} {scope : Scope} {f : Addr} {cdv : Value} {A : Around} {outer : List Env} {s : Shared} {H : Hp} {E : XK} : zh0 (CXe P w) (zgl (CXe P w) P w K mg base N qual scope f cdv A outer s H E) E :=
 fun pins U H1 s1 e s' I h => zpq (X := zgl (CXe P w) P w K mg base N qual scope f cdv A outer s H E) I rfl rfl rfl h
theorem zw2 {X : Cx} : zh0 (CXe P w) X E0 := fun _ _ _ _ _ _ _ h => by
 obtain ⟨_, _, _, _, _, _, _, _, _, _, _, _, _, z⟩ := h
 exact z.elim
end
theorem zsj {K : xFg} {h : Heap} {C : Addr} {bmB : List Value} {newId : String} (X : K.In h) (q : PySem.W.excIn K C bmB newId = true) :
  ∃ bm N nm qn bs hdct sn sub ab col dd k0 k1 k2 k3 k5 mN, h.get? C = some (excClassObj nm qn C N bs bm hdct sn sub ab col dd k0 k1 k2 k3 k5 newId) /\ h.Ns N mN /\ mN "__init__" = none /\ OwnTail h bmB bm := by
 unfold PySem.W.excIn at q
 split at q
 ·rename_i dd cd sl lk
  split at q
  ·rename_i C' bm k0 k1 k2 k3 nn k5 hm hs
   simp only [xax, beq_iff_eq, Bool.not_eq_true'] at q
   obtain ⟨⟨⟨⟨⟨rfl, rfl⟩, hdel⟩, ht⟩, hok⟩, hni⟩ := q
   obtain ⟨nm, bs, mro, ns, qn, hd, sn, sub, ab, col, del⟩ := cd
   dsimp only at hm hdel hok hni
   subst hm hdel
   obtain rfl : sl = #[k0, k1, k2, k3, some (.builtin nn), k5] := by
    obtain ⟨l⟩ := sl
    simp only at hs
    rw [hs]
   exact ⟨bm, ns, nm, qn, bs, hd, sn, sub, ab, col, dd, k0, k1, k2, k3, k5, _, X _ _ lk, .of_isNs (PySem.W.isNs_of_in X hok), PySem.W.nsMap_none_of_in X hok hni, PySem.W.tail_of_in X ht⟩
  ·cases q
 ·cases q
def zuv (C : Addr) (ta : TA) (E : XK) : TS := fun _ U H => ta U H fun vs H1 => vs.length <= sizeLine /\ E (.ref C) none H1
section
variable {P : Program} {w : World} {K : xFg} {mg : Str -> Option Value} {base : Heap} {N : List Str} {qual : Str} {scope : Scope} {f : Addr} {cdv : Value} {A : Around} {outer : List Env} {s0 : Shared} {H0 : Hp} {E : XK}
theorem zps {x : Str} {C : Addr} {e0 : Expr} {zaD : List Expr} {np cpos pos : Pos} {ta : TA} (q : PySem.W.excIn K C [.type "ValueError", .type "Exception", .type "BaseException", .type "object"] "ValueError.__new__" = true)
  (hg : Gl (zgl (CXe P w) P w K mg base N qual scope f cdv A outer s0 H0 E) x) (hm : mg x = some (.ref C)) (ha : PA (zgl (CXe P w) P w K mg base N qual scope f cdv A outer s0 H0 E) (e0 :: zaD) ta)
  (hdb : (x == ("__debug__" : Str)) = false := by decide)
  (he : starEach (e0 :: zaD) (envOfC qual scope s0.heap.objs.size f cdv) = (false, eval e0 (envOfC qual scope s0.heap.objs.size f cdv)) :: starEach zaD (envOfC qual scope s0.heap.objs.size f cdv) := by rfl)
  (hpl : (backTo cpos (starEach zaD (envOfC qual scope s0.heap.objs.size f cdv))).any (·.1) = false := by rfl) :
  PS (zgl (CXe P w) P w K mg base N qual scope f cdv A outer s0 H0 E) (.Raise (some (.Call (.Name x np) (e0 :: zaD) [] cpos)) none pos) (zuv C ta E) := by
 intro pins s U H D I h
 obtain ⟨bm, Nn, nm, qn, bs, hdct, sn, sub, ab, col, dd, k0, k1, k2, k3, k5, mN, hC, hN, hni, T⟩ := zsj I.mod.kin q
 refine wpAny_Raise_call_subT (C := C) (nm := nm) (q := qn) (N := Nn) (bs := bs) (bm := bm) (hdct := hdct) (sn := sn) (sub := sub) (ab := ab) (col := col) (dd := dd) (k0 := k0) (k1 := k1) (k2 := k2) (k3 := k3) (k5 := k5)
  PySem.F.excBase_ValueError (mN := mN) (T.hasType PySem.F.excBase_ValueError.hasBase) (I.ok.hd rfl) (by
   show (backTo cpos (starEach (e0 :: zaD) (envOfC qual scope s0.heap.objs.size f cdv))).any (·.1) = false
   rw [he]; show (false || (backTo cpos (starEach zaD (envOfC qual scope s0.heap.objs.size f cdv))).any (·.1)) = false; rw [hpl]; rfl) hni (zjj I hg hm ⟨rfl, ?_⟩ hdb)
 have ha' := ha cpos pins s U H _ I h
 show wpAny _ _ (evalArgs (.ref C) true (backTo cpos (starEach (e0 :: zaD) (envOfC qual scope s0.heap.objs.size f cdv))) []) _ _ _
 change wpAny _ _ (spliced (backTo cpos (starEach (e0 :: zaD) (envOfC qual scope s0.heap.objs.size f cdv)))) _ _ _ at ha'
 rw [he] at ha' ⊢
 refine Calls.evalArgs_plain (thn ha' fun us s2 ⟨vs, H1, I1, r, hz, hE⟩ => ?_)
 have hl : us.length <= sizeLine := by rw [<- r.length]; exact hz
 exact ⟨rfl, hl, I1.bk _ _ hC, hN.keeps I1.bk, T.keeps I1.bk, fun h' e m => zlC (tk := s2.toks) I1 rfl rfl rfl m hE⟩
end
end L2
namespace L2
open PySem.Spec PyProof.Rows
def XP (X : Cx) (CX : CXT) (pins : List (Addr × Obj)) (U : St) (E : XK) (e : Value) (s' : Shared) : Prop := ∃ s1 H1, Inv X pins U H1 s1 /\ CX X.stack H1 s1 E e s'
theorem zmO {X : Cx} : zbw X (.builtin "isinstance") (fun xs H Q => ∃ (a C : Addr) (c : V) (cv : Value) (b : Bool), xs = [.ref a, c] /\ H a = some (zwm a C none) /\ ((∃ D, c = .ref D /\ cv = .ref D) \/ ∃ T, c = .ty T /\ cv = .type T) /\ ztF X.K C /\ PySem.W.kitOne X.K (.ref C) cv = some b /\ Q (.bl b) H) := by
 intro pins s U H xs us Q I r h
 obtain ⟨a, C, c, cv, b, rfl, ha, hc, ec, hk, q⟩ := h
 obtain ⟨u, w', rfl, ru, rw'⟩ := zpf r
 obtain rfl : u = Value.ref a := ru
 have e : w' = cv := by
  rcases hc with ⟨D, rfl, rfl⟩ | ⟨T, rfl, rfl⟩
  ·exact rw'
  ·exact rw'
 subst e
 obtain ⟨⟨o, e1, e2, e3, e4⟩, _, _⟩ := I.hok a _ ha
 have hI : PySem.W.InstAt s.heap a o C none := ⟨e1, e2, e4, by rw [e3]; trivial⟩
 exact PySem.W.kia_one (zpr ec) I.kIn ⟨o, none, hI⟩ hk (fun z => nomatch z) fun tk => ⟨.bl b, H, I.tok tk, rfl, q⟩
end L2
namespace L2
open PySem.Spec PyProof.Rows
section
variable {X : Cx}
theorem zmP (bs : List Bool) : (List.range bs.length).all (fun i => bs.getD i false) = bs.all id := by
 rw [xcm]
 simp only [xay, xaz, id]
 constructor
 ·intro h b hb
  obtain ⟨i, hi, rfl⟩ := List.mem_iff_getElem.mp hb
  have q := h i hi
  simpa [List.getD, hi] using q
 ·intro h i hi
  have q := h _ (xbz hi)
  simpa [List.getD, hi] using q
theorem zmQ (bs : List Bool) : (List.range bs.length).any (fun i => bs.getD i false) = bs.any id := by
 rw [xcm]
 simp only [List.any_eq_true, xaz, id]
 constructor
 ·rintro ⟨i, hi, q⟩
  exact ⟨bs[i], xbz hi, by simpa [List.getD, hi] using q⟩
 ·rintro ⟨b, hb, q⟩
  obtain ⟨i, hi, rfl⟩ := List.mem_iff_getElem.mp hb
  exact ⟨i, hi, by simpa [List.getD, hi] using q⟩
theorem zjX {bs : List Bool} {its : List Value} (r : zaP (bs.map V.bl) its) {i : Nat} {v : Value} (h : its.toArray[i]? = some v) : v = .bool (bs.getD i false) := by
 have hl := r.length
 rw [xae] at hl
 have hi : i < bs.length := by
  rw [hl]
  have : its[i]? = some v := by simpa using h
  exact (xah.mp this).1
 obtain ⟨u, hu, ru⟩ := r.get (i := i) (x := .bl bs[i]) (by simp [hi])
 have e : its[i]? = some v := by simpa using h
 rw [hu] at e
 cases e
 rw [show v = .bool bs[i] from ru]
 simp [List.getD, hi]
theorem zpt (hc : X.calm = true) : zbw X (.builtin "all") (fun xs H Q => ∃ (p : Addr) (bs : List Bool), xs = [.ref p] /\ SqL X.K H p (bs.map V.bl) /\ Q (.bl (bs.all id)) H) := by
 intro pins s U H xs us Q I r h
 obtain ⟨p, bs, rfl, hq, q⟩ := h
 obtain ⟨u, rfl, e⟩ := zeu r
 cases e
 obtain ⟨its, rv, pl, hz⟩ := I.list hq
 have hl : its.toArray.size = bs.length := by rw [xag, <- rv.length, xae]
 have hlt : p < s.heap.objs.size := by obtain ⟨o, e, _⟩ := pl.isList; exact xaf e
 refine call_all_walk (wpAny_pyIter_list pl.isList ⟨_, _, _, _, _, _, fun i => bs.getD i false, rfl, Walks.list (A := X.A.in1) (I.ok.hd hc) s.heap.objs.size p (xat hlt) its.toArray, ⟨⟨_, xal _ rfl, rfl, rfl⟩, pl.isList.push _⟩, fun i v s' Q' E' hv hQ => ?_, fun h' tk k => ?_⟩)
 ·rw [zjX rv hv]; exact wpAny_truthy_bool hQ
 ·refine ⟨.bl (bs.all id), H, I.kept fun b o e => k b o (fun z => xat (xaf e) (by simpa using z)) (xaa _ e), ?_, q⟩
  rw [hl, zmP]; rfl
theorem zpu (hc : X.calm = true) : zbw X (.builtin "any") (fun xs H Q => ∃ (p : Addr) (bs : List Bool), xs = [.ref p] /\ SqL X.K H p (bs.map V.bl) /\ Q (.bl (bs.any id)) H) := by
 intro pins s U H xs us Q I r h
 obtain ⟨p, bs, rfl, hq, q⟩ := h
 obtain ⟨u, rfl, e⟩ := zeu r
 cases e
 obtain ⟨its, rv, pl, hz⟩ := I.list hq
 have hl : its.toArray.size = bs.length := by rw [xag, <- rv.length, xae]
 have hlt : p < s.heap.objs.size := by obtain ⟨o, e, _⟩ := pl.isList; exact xaf e
 refine call_any_walk (wpAny_pyIter_list pl.isList ⟨_, _, _, _, _, _, fun i => bs.getD i false, rfl, Walks.list (A := X.A.in1) (I.ok.hd hc) s.heap.objs.size p (xat hlt) its.toArray, ⟨⟨_, xal _ rfl, rfl, rfl⟩, pl.isList.push _⟩, fun i v s' Q' E' hv hQ => ?_, fun h' tk k => ?_⟩)
 ·rw [zjX rv hv]; exact wpAny_truthy_bool hQ
 ·refine ⟨.bl (bs.any id), H, I.kept fun b o e => k b o (fun z => xat (xaf e) (by simpa using z)) (xaa _ e), ?_, q⟩
  rw [hl, zmQ]; rfl
end
end L2
namespace Mth
def zar (x y z : Int) : Int := if z ≠ 0 then z else if y ≠ 0 then y else x
def g3 (x y z : Int) : Nat := Nat.gcd (Nat.gcd x.natAbs y.natAbs) z.natAbs
def zcr (x y z : Int) : Int := if zar x y z < 0 then 0 - ((g3 x y z : Nat) : Int) else ((g3 x y z : Nat) : Int)
abbrev NZ (x y z : Int) : Prop := ¬ (x = 0 /\ y = 0 /\ z = 0)
theorem zbQ {x y z : Int} (h : NZ x y z) : zg7 (zcr x y z) x y z (x.fdiv (zcr x y z)) (y.fdiv (zcr x y z)) (z.fdiv (zcr x y z)) := by
 obtain ⟨x', y', z', p⟩ := zlB x y z h
 have key : ∃ x' y' z', zg7 (zcr x y z) x y z x' y' z' := by
  unfold zcr
  by_cases c : zar x y z < 0
  ·rw [if_pos c]; exact ⟨-x', -y', -z', p.neg⟩
  ·rw [if_neg c]; exact ⟨x', y', z', p⟩
 obtain ⟨x', y', z', p⟩ := key
 rw [zfl p.ne p.x, zfl p.ne p.y, zfl p.ne p.z]
 exact p
theorem zg7.nz {s x y z x' y' z' : Int} (p : zg7 s x y z x' y' z') (h : NZ x y z) : NZ x' y' z' := fun q => h (by rw [p.x, p.y, p.z, q.1, q.2.1, q.2.2]; simp)
theorem zw3 {x y z : Int} (h : NZ x y z) : g3 x y z ≠ 0 := by
 unfold g3
 intro e
 have e1 := Nat.eq_zero_of_gcd_eq_zero_left e
 have e2 := Nat.eq_zero_of_gcd_eq_zero_right e
 have e3 := Nat.eq_zero_of_gcd_eq_zero_left e1
 have e4 := Nat.eq_zero_of_gcd_eq_zero_right e1
 exact h ⟨by omega, by omega, by omega⟩
theorem zjY (x y z : Int) : (zcr x y z).natAbs = g3 x y z := by
 unfold zcr
 split <;> omega
theorem zmR (s x y z : Int) : g3 (s * x) (s * y) (s * z) = s.natAbs * g3 x y z := by
 unfold g3
 rw [xcr, xcr, xcr, Nat.gcd_mul_left, Nat.gcd_mul_left]
theorem zlD {s : Int} (hs : s ≠ 0) (x y z : Int) : zar (s * x) (s * y) (s * z) = s * zar x y z := by
 unfold zar
 by_cases hz : z = 0
 ·subst hz
  by_cases hy : y = 0
  ·subst hy; simp
  ·have : s * y ≠ 0 := fun e => by rcases xbd.mp e with q | q <;> contradiction
   simp [hy, this]
 ·have : s * z ≠ 0 := fun e => by rcases xbd.mp e with q | q <;> contradiction
  simp [hz, this]
theorem zie {x y z : Int} (h : NZ x y z) : zar x y z ≠ 0 := by
 unfold zar
 by_cases hz : z = 0
 ·by_cases hy : y = 0
  ·have : x ≠ 0 := fun e => h ⟨e, hy, hz⟩
   simp [hz, hy, this]
  ·simp [hz, hy]
 ·simp [hz]
theorem zpv {x y z x' y' z' : Int} (h : NZ x y z) (p : zg7 (zcr x y z) x y z x' y' z') : zcr x' y' z' = 1 := by
 have hg : g3 x y z = (zcr x y z).natAbs * g3 x' y' z' := by
  have e := zmR (zcr x y z) x' y' z'
  rw [<- p.x, <- p.y, <- p.z] at e
  exact e
 rw [zjY] at hg
 have n0 := zw3 h
 have g1 : g3 x' y' z' = 1 := by
  have : g3 x y z * 1 = g3 x y z * g3 x' y' z' := by rw [Nat.mul_one]; exact hg
  exact (Nat.eq_of_mul_eq_mul_left (Nat.pos_of_ne_zero n0) this).symm
 have hl : zar x y z = zcr x y z * zar x' y' z' := by
  have e := zlD p.ne x' y' z'
  rw [<- p.x, <- p.y, <- p.z] at e
  exact e
 have ln := zie (p.nz h)
 have lp : 0 < zar x' y' z' := by
  by_cases c : zar x y z < 0
  ·have es : zcr x y z < 0 := by unfold zcr; rw [if_pos c]; omega
   rcases (show 0 < zar x' y' z' \/ zar x' y' z' <= 0 by omega) with q | q
   ·exact q
   ·have q' : zar x' y' z' < 0 := by omega
    have := Int.mul_pos_of_neg_of_neg es q'
    rw [<- hl] at this; omega
  ·have es : 0 < zcr x y z := by unfold zcr; rw [if_neg c]; omega
   rcases (show 0 < zar x' y' z' \/ zar x' y' z' <= 0 by omega) with q | q
   ·exact q
   ·have q' : zar x' y' z' < 0 := by omega
    have := Int.mul_neg_of_pos_of_neg es q'
    rw [<- hl] at this; omega
 unfold zcr
 rw [if_neg (by omega), g1]; rfl
theorem zdl (x : Int) : x.fdiv 1 = x := by
 rw [xcx _ (by decide)]; exact Int.ediv_one x
theorem zw4 {x y z : Int} {B : Nat} (hx : x.natAbs <= B) (hy : y.natAbs <= B) (hz : z.natAbs <= B) : g3 x y z <= B := zib (zib hx hy) hz
theorem zsk {x y z : Int} {B : Nat} (hx : x.natAbs <= B) (hy : y.natAbs <= B) (hz : z.natAbs <= B) : (zcr x y z).natAbs <= B := by rw [zjY]; exact zw4 hx hy hz
end Mth
namespace Mth
abbrev P3 := Int × Int × Int
def dot (p q : P3) : Int := p.1 * q.1 + p.2.1 * q.2.1 + p.2.2 * q.2.2
def crs (p q : P3) : P3 := (p.2.1 * q.2.2 - p.2.2 * q.2.1, p.2.2 * q.1 - p.1 * q.2.2, p.1 * q.2.1 - p.2.1 * q.1)
abbrev Nz (p : P3) : Prop := NZ p.1 p.2.1 p.2.2
abbrev sOf (p : P3) : Int := zcr p.1 p.2.1 p.2.2
def low (p : P3) : P3 := (p.1.fdiv (sOf p), p.2.1.fdiv (sOf p), p.2.2.fdiv (sOf p))
structure Nrm (p : P3) : Prop where
 nz : Nz p
 one : sOf p = 1
theorem zdA {p : P3} (h : Nz p) : sOf p ≠ 0 /\ p.1 = sOf p * (low p).1 /\ p.2.1 = sOf p * (low p).2.1 /\ p.2.2 = sOf p * (low p).2.2 :=
 ⟨(zbQ h).ne, (zbQ h).x, (zbQ h).y, (zbQ h).z⟩
theorem za9 {p : P3} (h : Nz p) : Nrm (low p) := ⟨(zbQ h).nz h, zpv h (zbQ h)⟩
theorem Nrm.low {p : P3} (h : Nrm p) : Mth.low p = p := by
 unfold Mth.low; rw [h.one, zdl, zdl, zdl]
theorem zcZ {p q : P3} (h : Nz q) : dot p (low q) = 0 ↔ dot p q = 0 := by
 obtain ⟨h0, h1, h2, h3⟩ := zdA h
 have e : dot p q = sOf q * dot p (low q) := by unfold dot; grind
 rw [e, xbd]
 exact ⟨.inr, fun z => z.resolve_left h0⟩
theorem zsl {p : P3} (h : Nz p) : (low p).1.natAbs <= p.1.natAbs /\ (low p).2.1.natAbs <= p.2.1.natAbs /\ (low p).2.2.natAbs <= p.2.2.natAbs := by
 obtain ⟨h0, h1, h2, h3⟩ := zdA h
 exact ⟨zfm h0 h1, zfm h0 h2, zfm h0 h3⟩
theorem Nrm.last {p : P3} (h : Nrm p) : 0 < zar p.1 p.2.1 p.2.2 /\ g3 p.1 p.2.1 p.2.2 = 1 := by
 have h1 := h.one
 have h2 := zie h.nz
 unfold sOf zcr at h1
 split at h1 <;> constructor <;> omega
theorem zlE {p q : P3} (hp : Nz p) (hq : Nz q) (h : crs p q = (0, 0, 0)) :
  zar q.1 q.2.1 q.2.2 * p.1 = zar p.1 p.2.1 p.2.2 * q.1 /\ zar q.1 q.2.1 q.2.2 * p.2.1 = zar p.1 p.2.1 p.2.2 * q.2.1 /\ zar q.1 q.2.1 q.2.2 * p.2.2 = zar p.1 p.2.1 p.2.2 * q.2.2 := by
 obtain ⟨a, b, c⟩ := p
 obtain ⟨x, y, z⟩ := q
 simp only [crs, Prod.mk.injEq] at h
 obtain ⟨h1, h2, h3⟩ := h
 simp only [Nz, NZ] at hp hq
 unfold zar
 simp only
 by_cases hc : c = 0
 ·subst hc
  by_cases hz : z = 0
  ·subst hz
   by_cases hb : b = 0
   ·subst hb
    by_cases hy : y = 0
    ·subst hy; grind
    ·have : a = 0 := by
      have := h3
      simp at this
      exact (xbd.mp this).resolve_right hy
     exact absurd ⟨this, rfl, rfl⟩ hp
   ·by_cases hy : y = 0
    ·subst hy
     have : x = 0 := by
      have := h3
      simp at this
      exact (xbd.mp this).resolve_left hb
     exact absurd ⟨this, rfl, rfl⟩ hq
    ·simp only [ne_eq, not_true_eq_false, if_false, hb, hy, not_false_eq_true, if_true]
     grind
  ·have hb : b = 0 := by
    have := h1
    simp at this
    exact (xbd.mp this).resolve_right hz
   have ha : a = 0 := by
    have := h2
    simp at this
    exact (xbd.mp this).resolve_right hz
   exact absurd ⟨ha, hb, rfl⟩ hp
 ·by_cases hz : z = 0
  ·subst hz
   have hy : y = 0 := by
    have := h1
    simp at this
    exact (xbd.mp this).resolve_left hc
   have hx : x = 0 := by
    have := h2
    simp at this
    exact (xbd.mp this).resolve_left hc
   exact absurd ⟨hx, hy, rfl⟩ hq
  ·simp only [ne_eq, hc, hz, not_false_eq_true, if_true]
   grind
theorem zak {p q : P3} (hp : Nrm p) (hq : Nrm q) (h : p ≠ q) : Nz (crs p q) := by
 intro hz
 apply h
 obtain ⟨e1, e2, e3⟩ := zlE hp.nz hq.nz (xan hz.1 (xan hz.2.1 hz.2.2))
 obtain ⟨sp, gp⟩ := hp.last
 obtain ⟨sq, gq⟩ := hq.last
 have g1 := zmR (zar q.1 q.2.1 q.2.2) p.1 p.2.1 p.2.2
 have g2 := zmR (zar p.1 p.2.1 p.2.2) q.1 q.2.1 q.2.2
 rw [e1, e2, e3, g2, gp, gq] at g1
 have e : zar q.1 q.2.1 q.2.2 = zar p.1 p.2.1 p.2.2 := by omega
 rw [e] at e1 e2 e3
 have ne : zar p.1 p.2.1 p.2.2 ≠ 0 := by omega
 exact xan (xc5 ne e1) (xan (xc5 ne e2) (xc5 ne e3))
def Col (ps : List P3) : Prop := ∀ p ∈ ps, ∀ q ∈ ps, ∀ r ∈ ps, dot p (crs q r) = 0
theorem zmS {L p q r : P3} (hL : Nz L) (hp : dot p L = 0) (hq : dot q L = 0) (hr : dot r L = 0) : dot p (crs q r) = 0 := by
 have e1 : dot p (crs q r) * L.1 = 0 := by unfold dot crs at *; grind
 have e2 : dot p (crs q r) * L.2.1 = 0 := by unfold dot crs at *; grind
 have e3 : dot p (crs q r) * L.2.2 = 0 := by unfold dot crs at *; grind
 by_cases h : dot p (crs q r) = 0
 ·exact h
 ·exact absurd ⟨(xbd.mp e1).resolve_left h, (xbd.mp e2).resolve_left h, (xbd.mp e3).resolve_left h⟩ hL
theorem Col.iff {ps : List P3} {p0 o : P3} (h0 : p0 ∈ ps) (ho : o ∈ ps) (hL : Nz (crs p0 o)) : Col ps ↔ ∀ p ∈ ps, dot p (crs p0 o) = 0 :=
 ⟨fun c p hp => c p hp p0 h0 o ho, fun c p hp q hq r hr => zmS hL (c p hp) (c q hq) (c r hr)⟩
theorem Col.same {ps : List P3} {p0 : P3} (h : ∀ p ∈ ps, p = p0) : Col ps := fun p hp q hq r hr => by
 rw [h p hp, h q hq, h r hr]; unfold dot crs; grind
end Mth
namespace Mth
abbrev M3 := P3 × P3 × P3
def mul (m : M3) (p : P3) : P3 := (dot m.1 p, dot m.2.1 p, dot m.2.2 p)
def cof (m : M3) : M3 := (crs m.2.1 m.2.2, crs m.2.2 m.1, crs m.1 m.2.1)
def det (m : M3) : Int := dot m.1 (crs m.2.1 m.2.2)
theorem zg8 (a b p q : P3) : dot a p * dot b q - dot b p * dot a q = dot (crs a b) (crs p q) := by unfold dot crs; grind
theorem zg9 (m : M3) (p q : P3) : crs (mul m p) (mul m q) = mul (cof m) (crs p q) := by
 have h1 := zg8 m.2.1 m.2.2 p q
 have h2 := zg8 m.2.2 m.1 p q
 have h3 := zg8 m.1 m.2.1 p q
 exact xan h1 (xan h2 h3)
theorem zw5 (m : M3) (p : P3) : det m * p.1 = dot m.1 p * (crs m.2.1 m.2.2).1 + dot m.2.1 p * (crs m.2.2 m.1).1 + dot m.2.2 p * (crs m.1 m.2.1).1 := by unfold det dot crs; grind
theorem zw6 (m : M3) (p : P3) : det m * p.2.1 = dot m.1 p * (crs m.2.1 m.2.2).2.1 + dot m.2.1 p * (crs m.2.2 m.1).2.1 + dot m.2.2 p * (crs m.1 m.2.1).2.1 := by unfold det dot crs; grind
theorem zw7 (m : M3) (p : P3) : det m * p.2.2 = dot m.1 p * (crs m.2.1 m.2.2).2.2 + dot m.2.1 p * (crs m.2.2 m.1).2.2 + dot m.2.2 p * (crs m.1 m.2.1).2.2 := by unfold det dot crs; grind
theorem zuw (m : M3) (p : P3) : det m * p.1 = dot (crs m.2.1 m.2.2) p * m.1.1 + dot (crs m.2.2 m.1) p * m.2.1.1 + dot (crs m.1 m.2.1) p * m.2.2.1 := by unfold det dot crs; grind
theorem zux (m : M3) (p : P3) : det m * p.2.1 = dot (crs m.2.1 m.2.2) p * m.1.2.1 + dot (crs m.2.2 m.1) p * m.2.1.2.1 + dot (crs m.1 m.2.1) p * m.2.2.2.1 := by unfold det dot crs; grind
theorem zuy (m : M3) (p : P3) : det m * p.2.2 = dot (crs m.2.1 m.2.2) p * m.1.2.2 + dot (crs m.2.2 m.1) p * m.2.1.2.2 + dot (crs m.1 m.2.1) p * m.2.2.2.2 := by unfold det dot crs; grind
theorem zcs {a b : Int} (h : a ≠ 0) (e : a * b = 0) : b = 0 := (xbd.mp e).resolve_left h
theorem zgB {m : M3} {p : P3} (h : det m ≠ 0) (hp : Nz p) : Nz (mul m p) := by
 rintro ⟨h1, h2, h3⟩
 have h1 : dot m.1 p = 0 := h1
 have h2 : dot m.2.1 p = 0 := h2
 have h3 : dot m.2.2 p = 0 := h3
 exact hp ⟨zcs h (by rw [zw5, h1, h2, h3]; simp), zcs h (by rw [zw6, h1, h2, h3]; simp), zcs h (by rw [zw7, h1, h2, h3]; simp)⟩
theorem zmT {m : M3} {p : P3} (h : det m ≠ 0) (hp : Nz p) : Nz (mul (cof m) p) := by
 rintro ⟨h1, h2, h3⟩
 have h1 : dot (crs m.2.1 m.2.2) p = 0 := h1
 have h2 : dot (crs m.2.2 m.1) p = 0 := h2
 have h3 : dot (crs m.1 m.2.1) p = 0 := h3
 exact hp ⟨zcs h (by rw [zuw, h1, h2, h3]; simp), zcs h (by rw [zux, h1, h2, h3]; simp), zcs h (by rw [zuy, h1, h2, h3]; simp)⟩
def tms (s : Int) (p : P3) : P3 := (s * p.1, s * p.2.1, s * p.2.2)
theorem zct {p : P3} (h : Nz p) : p = tms (sOf p) (low p) := by
 obtain ⟨_, h1, h2, h3⟩ := zdA h
 exact xan h1 (xan h2 h3)
theorem zfn (s t : Int) (p q : P3) : crs (tms s p) (tms t q) = tms (s * t) (crs p q) := by
 unfold crs tms; exact xan (by grind) (xan (by grind) (by grind))
theorem zha (m : M3) (s : Int) (p : P3) : mul m (tms s p) = tms s (mul m p) := by
 unfold mul tms dot; exact xan (by grind) (xan (by grind) (by grind))
theorem zhb {s : Int} {p : P3} (hs : s ≠ 0) (h : tms s p = (0, 0, 0)) : p = (0, 0, 0) := by
 unfold tms at h
 simp only [Prod.mk.injEq] at h
 exact xan (zcs hs h.1) (xan (zcs hs h.2.1) (zcs hs h.2.2))
theorem zlF {p : P3} (h : Nz p) : p ≠ (0, 0, 0) := fun e => h (by rw [e]; exact ⟨rfl, rfl, rfl⟩)
theorem zsm {p : P3} (h : p ≠ (0, 0, 0)) : Nz p := fun ⟨a, b, c⟩ => h (xan a (xan b c))
theorem zqN {s : Int} {p : P3} (hs : s ≠ 0) (h : Nz p) : Nz (tms s p) := zsm fun e => zlF h (zhb hs e)
theorem zci {a b : Int} (ha : a ≠ 0) (hb : b ≠ 0) : a * b ≠ 0 := fun e => by rcases xbd.mp e with q | q <;> contradiction
theorem zfo {u v : P3} (hu : Nz u) (hv : Nz v) (h : crs u v = (0, 0, 0)) : low u = low v := by
 refine xar fun hne => ?_
 have hz := zak (za9 hu) (za9 hv) hne
 have e := h
 rw [zct hu, zct hv, zfn] at e
 exact zlF hz (zhb (zci (zdA hu).1 (zdA hv).1) e)
theorem zsn {u v : P3} (hu : Nz u) (hv : Nz v) (h : low u = low v) : crs u v = (0, 0, 0) := by
 rw [zct hu, zct hv, zfn, h]
 unfold tms crs
 exact xan (by grind) (xan (by grind) (by grind))
theorem zbj {s : Int} {p : P3} (hs : s ≠ 0) (h : Nz p) : low (tms s p) = low p := zfo (zqN hs h) h (by unfold crs tms; exact xan (by grind) (xan (by grind) (by grind)))
theorem zhc (a : P3) : dot a (0, 0, 0) = 0 := by unfold dot; simp
theorem zmU {p q L : P3} (h1 : dot p L = 0) (h2 : dot q L = 0) : crs (crs p q) L = (0, 0, 0) := by
 have e1 : (crs (crs p q) L).1 = dot p L * q.1 - dot q L * p.1 := by unfold crs dot; grind
 have e2 : (crs (crs p q) L).2.1 = dot p L * q.2.1 - dot q L * p.2.1 := by unfold crs dot; grind
 have e3 : (crs (crs p q) L).2.2 = dot p L * q.2.2 - dot q L * p.2.2 := by unfold crs dot; grind
 rw [h1, h2] at e1 e2 e3
 exact xan (by rw [e1]; simp) (xan (by rw [e2]; simp) (by rw [e3]; simp))
theorem zpw {m : M3} {L p q : P3} (h : det m ≠ 0) (hL : Nz L) (hp : Nrm p) (hq : Nrm q) (hne : p ≠ q) (h1 : dot p L = 0) (h2 : dot q L = 0) :
  low (mul m p) ≠ low (mul m q) /\ Nz (crs (low (mul m p)) (low (mul m q))) /\ low (mul (cof m) L) = low (crs (low (mul m p)) (low (mul m q))) := by
 have np := zgB h hp.nz
 have nq := zgB h hq.nz
 have hz := zak hp hq hne
 have nc : Nz (crs (mul m p) (mul m q)) := by rw [zg9]; exact zmT h hz
 have ne : low (mul m p) ≠ low (mul m q) := fun e => zlF nc (zsn np nq e)
 have nl := zak (za9 np) (za9 nq) ne
 refine ⟨ne, nl, zfo (zmT h hL) nl ?_⟩
 have e : crs (mul (cof m) L) (mul (cof m) (crs p q)) = (0, 0, 0) := by
  rw [zg9]
  have z : crs L (crs p q) = (0, 0, 0) := by
   have := zmU h1 h2
   unfold crs at this ⊢
   simp only [Prod.mk.injEq] at this ⊢
   refine ⟨?_, ?_, ?_⟩ <;> grind
  rw [z]; unfold mul; rw [zhc, zhc, zhc]
 rw [<- zg9] at e
 have e2 : crs (mul m p) (mul m q) = tms (sOf (mul m p) * sOf (mul m q)) (crs (low (mul m p)) (low (mul m q))) := by
  rw [<- zfn, <- zct np, <- zct nq]
 rw [e2] at e
 have e3 : crs (mul (cof m) L) (tms (sOf (mul m p) * sOf (mul m q)) (crs (low (mul m p)) (low (mul m q)))) = tms (sOf (mul m p) * sOf (mul m q)) (crs (mul (cof m) L) (crs (low (mul m p)) (low (mul m q)))) := by
  generalize crs (low (mul m p)) (low (mul m q)) = w
  generalize mul (cof m) L = v
  generalize sOf (mul m p) * sOf (mul m q) = t
  unfold crs tms; exact xan (by grind) (xan (by grind) (by grind))
 rw [e3] at e
 exact zhb (zci (zdA np).1 (zdA nq).1) e
end Mth
namespace Mth
def ztG (ns : List Int) : Nat := ns.foldl (fun g n => Nat.gcd g n.natAbs) 0
def zaV : List Int -> Int
 | [] => 0
 | n :: ns => if n = 0 then zaV ns else n
def zfp (ns : List Int) : Int := if zaV ns < 0 then -((ztG ns : Nat) : Int) else ((ztG ns : Nat) : Int)
def zuz (ns : List Int) : List Int := ns.map fun n => n.fdiv (zfp ns)
theorem zif : ∀ (ns : List Int) (g : Nat), (ns.foldl (fun g n => Nat.gcd g n.natAbs) g ∣ g) /\ ∀ n ∈ ns, ns.foldl (fun g n => Nat.gcd g n.natAbs) g ∣ n.natAbs
 | [], g => ⟨Nat.dvd_refl _, fun n h => by cases h⟩
 | m :: ns, g => by
  obtain ⟨h1, h2⟩ := zif ns (Nat.gcd g m.natAbs)
  refine ⟨Nat.dvd_trans h1 (xdl _ _), fun n hn => ?_⟩
  rcases xak.mp hn with rfl | hn
  ·exact Nat.dvd_trans h1 (Nat.gcd_dvd_right _ _)
  ·exact h2 n hn
theorem zig (c : Int) : ∀ (ns : List Int) (g : Nat), (ns.map (c * ·)).foldl (fun g n => Nat.gcd g n.natAbs) (c.natAbs * g) = c.natAbs * ns.foldl (fun g n => Nat.gcd g n.natAbs) g
 | [], g => rfl
 | m :: ns, g => by
  rw [xa0, xb5, xb5, xcr, Nat.gcd_mul_left]
  exact zig c ns _
theorem zpx (c : Int) (ns : List Int) : ztG (ns.map (c * ·)) = c.natAbs * ztG ns := by
 have := zig c ns 0
 rw [Nat.mul_zero] at this
 exact this
theorem zcu {c : Int} (hc : c ≠ 0) : ∀ ns : List Int, zaV (ns.map (c * ·)) = c * zaV ns
 | [] => by simp [zaV]
 | n :: ns => by
  rw [xa0]
  unfold zaV
  by_cases h : n = 0
  ·subst h; simp [zcu hc ns]
  ·rw [if_neg h, if_neg (zci hc h)]
theorem zfq : ∀ {ns : List Int}, zaV ns ≠ 0 -> zaV ns ∈ ns
 | [], h => absurd rfl h
 | n :: ns, h => by
  unfold zaV at h ⊢
  by_cases e : n = 0
  ·rw [if_pos e] at h ⊢; exact xad _ (zfq h)
  ·rw [if_neg e]; exact xab
theorem zev : ∀ {ns : List Int} {n : Int}, n ∈ ns -> n ≠ 0 -> zaV ns ≠ 0
 | m :: ns, n, h, hn => by
  unfold zaV
  by_cases e : m = 0
  ·rw [if_pos e]
   rcases xak.mp h with rfl | h
   ·exact absurd e hn
   ·exact zev h hn
  ·rw [if_neg e]; exact e
theorem zhd {ns : List Int} {n : Int} (h : n ∈ ns) : ((ztG ns : Nat) : Int) ∣ n := Int.ofNat_dvd_left.mpr ((zif ns 0).2 n h)
theorem zso {ns : List Int} (h : zaV ns ≠ 0) : ztG ns ≠ 0 := fun e => h (by
 have := zhd (zfq h)
 rw [e] at this
 obtain ⟨k, hk⟩ := this
 rw [hk]; simp)
theorem zjn {ns : List Int} (h : zaV ns ≠ 0) : zfp ns ≠ 0 := by
 have := zso h
 unfold zfp; split <;> omega
theorem zpy {ns : List Int} {n : Int} (h : n ∈ ns) : zfp ns ∣ n := by
 unfold zfp; split
 ·exact Int.neg_dvd.mpr (zhd h)
 ·exact zhd h
theorem zgC {ns : List Int} (h : zaV ns ≠ 0) {n : Int} (hn : n ∈ ns) : n = zfp ns * n.fdiv (zfp ns) := by
 obtain ⟨k, hk⟩ := zpy hn
 rw [zfl (zjn h) hk]; exact hk
theorem zpz {c : Int} (hc : c ≠ 0) {ns : List Int} (h : zaV ns ≠ 0) : zfp (ns.map (c * ·)) = c * zfp ns := by
 unfold zfp
 rw [zcu hc, zpx, Int.natCast_mul]
 rcases Int.lt_or_gt_of_ne hc with h1 | h1
 ·have e : ((c.natAbs : Nat) : Int) = -c := by omega
  rw [e]
  rcases Int.lt_or_gt_of_ne h with h2 | h2
  ·rw [if_neg (by have := Int.mul_pos_of_neg_of_neg h1 h2; omega), if_pos h2]; grind
  ·rw [if_pos (Int.mul_neg_of_neg_of_pos h1 h2), if_neg (by omega)]; grind
 ·have e : ((c.natAbs : Nat) : Int) = c := by omega
  rw [e]
  rcases Int.lt_or_gt_of_ne h with h2 | h2
  ·rw [if_pos (Int.mul_neg_of_pos_of_neg h1 h2), if_pos h2]; grind
  ·rw [if_neg (by have := Int.mul_pos h1 h2; omega), if_neg (by omega)]
theorem zpA {c : Int} (hc : c ≠ 0) {ns : List Int} (h : zaV ns ≠ 0) : zuz (ns.map (c * ·)) = zuz ns := by
 unfold zuz
 rw [zpz hc h, xb1]
 apply xck
 intro n hn
 have e := zgC h hn
 show (c * n).fdiv (c * zfp ns) = n.fdiv (zfp ns)
 refine zfl (zci hc (zjn h)) ?_
 rw [Int.mul_assoc, <- e]
def flat (m : M3) : List Int := [m.1.1, m.1.2.1, m.1.2.2, m.2.1.1, m.2.1.2.1, m.2.1.2.2, m.2.2.1, m.2.2.2.1, m.2.2.2.2]
def cmul (c : Int) (m : M3) : M3 := (tms c m.1, tms c m.2.1, tms c m.2.2)
def zjZ (m : M3) : M3 := ((m.1.1.fdiv (zfp (flat m)), m.1.2.1.fdiv (zfp (flat m)), m.1.2.2.fdiv (zfp (flat m))), (m.2.1.1.fdiv (zfp (flat m)), m.2.1.2.1.fdiv (zfp (flat m)), m.2.1.2.2.fdiv (zfp (flat m))), (m.2.2.1.fdiv (zfp (flat m)), m.2.2.2.1.fdiv (zfp (flat m)), m.2.2.2.2.fdiv (zfp (flat m))))
theorem zhe (m : M3) : flat (zjZ m) = zuz (flat m) := rfl
theorem zdQ (c : Int) (m : M3) : flat (cmul c m) = (flat m).map (c * ·) := rfl
theorem zj0 {m m' : M3} (h : flat m = flat m') : m = m' := by
 obtain ⟨⟨a, b, c⟩, ⟨d, e, f⟩, ⟨g, i, j⟩⟩ := m
 obtain ⟨⟨a', b', c'⟩, ⟨d', e', f'⟩, ⟨g', i', j'⟩⟩ := m'
 simp only [flat, List.cons.injEq] at h
 simp only [Prod.mk.injEq]
 exact ⟨⟨h.1, h.2.1, h.2.2.1⟩, ⟨h.2.2.2.1, h.2.2.2.2.1, h.2.2.2.2.2.1⟩, h.2.2.2.2.2.2.1, h.2.2.2.2.2.2.2.1, h.2.2.2.2.2.2.2.2.1⟩
abbrev NzM (m : M3) : Prop := zaV (flat m) ≠ 0
theorem NzM.cmul {m : M3} {c : Int} (hc : c ≠ 0) (h : NzM m) : NzM (cmul c m) := by
 unfold NzM; rw [zdQ, zcu hc]; exact zci hc h
theorem zc0 {m : M3} {c : Int} (hc : c ≠ 0) (h : NzM m) : zjZ (cmul c m) = zjZ m := zj0 (by rw [zhe, zhe, zdQ, zpA hc h])
theorem zlG {m : M3} (h : NzM m) : m = cmul (zfp (flat m)) (zjZ m) := by
 have p := fun {n : Int} (hn : n ∈ flat m) => zgC h hn
 refine zj0 ?_
 rw [zdQ, zhe]
 unfold zuz
 rw [xb1]
 conv => lhs; rw [<- List.map_id (flat m)]
 exact xck fun n hn => p hn
theorem NzM.of_det {m : M3} (h : det m ≠ 0) : NzM m := fun e => h (by
 have z : ∀ n ∈ flat m, n = 0 := fun n hn => xar fun hz => zev hn hz e
 obtain ⟨⟨a, b, c⟩, ⟨d, e, f⟩, ⟨g, i, j⟩⟩ := m
 simp only [flat, xak, xbf, or_false, forall_eq_or_imp, forall_eq] at z
 obtain ⟨rfl, rfl, rfl, _⟩ := z
 unfold det dot; simp)
def tr (m : M3) : M3 := ((m.1.1, m.2.1.1, m.2.2.1), (m.1.2.1, m.2.1.2.1, m.2.2.2.1), (m.1.2.2, m.2.1.2.2, m.2.2.2.2))
def mm (b a : M3) : M3 := (mul (tr a) b.1, mul (tr a) b.2.1, mul (tr a) b.2.2)
def adj (m : M3) : M3 := tr (cof m)
def I3 : M3 := ((1, 0, 0), (0, 1, 0), (0, 0, 1))
theorem zuA (b a : M3) (p : P3) : mul (mm b a) p = mul b (mul a p) := by
 unfold mul mm tr mul dot
 exact xan (by grind) (xan (by grind) (by grind))
theorem zcv (c : Int) (m : M3) (p : P3) : mul (cmul c m) p = tms c (mul m p) := by
 unfold mul cmul tms dot
 exact xan (by grind) (xan (by grind) (by grind))
theorem zpB (c : Int) (b a : M3) : mm (cmul c b) a = cmul c (mm b a) := by
 unfold mm cmul; rw [zha, zha, zha]
theorem zpC (c : Int) (b a : M3) : mm b (cmul c a) = cmul c (mm b a) := by
 have e : tr (cmul c a) = cmul c (tr a) := rfl
 unfold mm; rw [e, zcv, zcv, zcv]; rfl
theorem zih {m m' : M3} (h1 : m.1.1 = m'.1.1) (h2 : m.1.2.1 = m'.1.2.1) (h3 : m.1.2.2 = m'.1.2.2) (h4 : m.2.1.1 = m'.2.1.1) (h5 : m.2.1.2.1 = m'.2.1.2.1) (h6 : m.2.1.2.2 = m'.2.1.2.2) (h7 : m.2.2.1 = m'.2.2.1) (h8 : m.2.2.2.1 = m'.2.2.2.1) (h9 : m.2.2.2.2 = m'.2.2.2.2) : m = m' :=
 xan (xan h1 (xan h2 h3)) (xan (xan h4 (xan h5 h6)) (xan h7 (xan h8 h9)))
theorem zqO (m : M3) : mm (adj m) m = cmul (det m) I3 := by
 refine zih ?_ ?_ ?_ ?_ ?_ ?_ ?_ ?_ ?_ <;> simp only [mm, adj, tr, cof, crs, mul, dot, cmul, tms, I3, det] <;> grind
theorem zuB (m : M3) : mm m (adj m) = cmul (det m) I3 := by
 refine zih ?_ ?_ ?_ ?_ ?_ ?_ ?_ ?_ ?_ <;> simp only [mm, adj, tr, cof, crs, mul, dot, cmul, tms, I3, det] <;> grind
theorem zmV (m : M3) : adj (adj m) = cmul (det m) m := by
 refine zih ?_ ?_ ?_ ?_ ?_ ?_ ?_ ?_ ?_ <;> simp only [adj, tr, cof, crs, dot, cmul, tms, det] <;> grind
theorem zpD (c : Int) (m : M3) : adj (cmul c m) = cmul (c * c) (adj m) := by
 refine zih ?_ ?_ ?_ ?_ ?_ ?_ ?_ ?_ ?_ <;> simp only [adj, tr, cof, crs, cmul, tms] <;> grind
theorem zuC : zjZ I3 = I3 := by decide
theorem zsp : NzM I3 := by decide
theorem zw8 (p : P3) : mul I3 p = p := by unfold mul I3 dot; exact xan (by simp) (xan (by simp) (by simp))
theorem zqP {c : Int} (hc : c ≠ 0) : zjZ (cmul c I3) = I3 := by rw [zc0 hc zsp, zuC]
theorem NzM.adj {m : M3} (h : det m ≠ 0) : NzM (adj m) := fun e => by
 have z : ∀ n ∈ flat (Mth.adj m), n = 0 := fun n hn => xar fun hz => zev hn hz e
 have a := zqO m
 have e1 : (mm (Mth.adj m) m).1.1 = (Mth.cmul (det m) I3).1.1 := by rw [a]
 generalize Mth.adj m = b at *
 obtain ⟨⟨b1, b2, b3⟩, ⟨b4, b5, b6⟩, ⟨b7, b8, b9⟩⟩ := b
 simp only [flat, xak, xbf, or_false, forall_eq_or_imp, forall_eq] at z
 obtain ⟨rfl, rfl, rfl, _⟩ := z
 simp [mm, mul, dot, Mth.cmul, tms, I3] at e1
 exact h e1.symm
end Mth
namespace Mth
theorem NzM.of_cmul {m : M3} {c : Int} (hc : c ≠ 0) (h : NzM (Mth.cmul c m)) : NzM m := fun e => h (by rw [zdQ, zcu hc, e]; simp)
theorem zjo {s : Int} {p : P3} (h : Nz (tms s p)) : Nz p := zsm fun e => zlF h (by rw [e]; unfold tms; simp)
theorem zj1 {m : M3} {p : P3} (hp : Nz p) (h : Nz (mul m p)) : Nz (mul m (low p)) /\ low (mul m (low p)) = low (mul m p) := by
 have e2 : mul m p = tms (sOf p) (mul m (low p)) := by rw [<- zha, <- zct hp]
 have hn : Nz (mul m (low p)) := zjo (by rw [<- e2]; exact h)
 exact ⟨hn, by rw [e2, zbj (zdA hp).1 hn]⟩
theorem zpE (p q : P3) : dot p q = dot q p := by unfold dot; grind
structure Back (a k : M3) : Prop where
 two : NzM (mm k a)
 one : zjZ (mm k a) = I3
 two' : NzM (mm a k)
 one' : zjZ (mm a k) = I3
 nzA : NzM (adj k)
 adj : zjZ a = a -> zjZ (Mth.adj k) = a
 led : ∀ p, Nz p -> Nz (mul k (mul a p)) /\ low (mul k (mul a p)) = low p
theorem zsq {a : M3} (ha : det a ≠ 0) : Back a (zjZ (adj a)) := by
 have nz := NzM.adj ha
 have s0 := zjn nz
 have e := zlG nz
 generalize hk : zjZ (adj a) = k at *
 generalize zfp (flat (adj a)) = s at *
 have e1 : cmul s (mm k a) = cmul (det a) I3 := by rw [<- zpB, <- e, zqO]
 have e2 : cmul s (mm a k) = cmul (det a) I3 := by rw [<- zpC, <- e, zuB]
 have z1 : NzM (mm k a) := NzM.of_cmul s0 (by rw [e1]; exact zsp.cmul ha)
 have z2 : NzM (mm a k) := NzM.of_cmul s0 (by rw [e2]; exact zsp.cmul ha)
 have e3 : cmul (s * s) (adj k) = cmul (det a) a := by rw [<- zpD, <- e, zmV]
 have z3 : NzM (adj k) := NzM.of_cmul (zci s0 s0) (by rw [e3]; exact (NzM.of_det ha).cmul ha)
 refine ⟨z1, ?_, z2, ?_, z3, fun h => ?_, fun p hp => ?_⟩
 ·rw [<- zc0 s0 z1, e1, zqP ha]
 ·rw [<- zc0 s0 z2, e2, zqP ha]
 ·rw [<- zc0 (zci s0 s0) z3, e3, zc0 ha (NzM.of_det ha), h]
 ·have f : tms s (mul k (mul a p)) = tms (det a) p := by
   rw [<- zuA, <- zcv, e1, zcv, zw8]
  have hn : Nz (mul k (mul a p)) := zjo (by rw [f]; exact zqN ha hp)
  exact ⟨hn, by rw [<- zbj s0 hn, f, zbj ha hp]⟩
end Mth
namespace Mth
def za5 (x y z : P3) : Int := dot x (crs y z)
theorem zmW (m : M3) (x v : P3) : dot (mul m x) (mul (cof m) v) = det m * dot x v := by
 obtain ⟨a, b, c⟩ := m
 have h1 := zuw (a, b, c) v
 have h2 := zux (a, b, c) v
 have h3 := zuy (a, b, c) v
 have e : dot (mul (a, b, c) x) (mul (cof (a, b, c)) v) = x.1 * (dot (crs b c) v * a.1 + dot (crs c a) v * b.1 + dot (crs a b) v * c.1) + x.2.1 * (dot (crs b c) v * a.2.1 + dot (crs c a) v * b.2.1 + dot (crs a b) v * c.2.1) + x.2.2 * (dot (crs b c) v * a.2.2 + dot (crs c a) v * b.2.2 + dot (crs a b) v * c.2.2) := by
  show dot (dot a x, dot b x, dot c x) (dot (crs b c) v, dot (crs c a) v, dot (crs a b) v) = _
  generalize dot (crs b c) v = p
  generalize dot (crs c a) v = q
  generalize dot (crs a b) v = r
  unfold dot; grind
 rw [e, <- h1, <- h2, <- h3]
 unfold dot; grind
theorem zpF (a b c : Int) (x y z : P3) : za5 (tms a x) (tms b y) (tms c z) = a * b * c * za5 x y z := by
 unfold za5
 rw [zfn]
 unfold dot tms; grind
structure G4 (a b c d : P3) : Prop where
 d0 : za5 d b c ≠ 0
 d1 : za5 a d c ≠ 0
 d2 : za5 a b d ≠ 0
 d3 : za5 a b c ≠ 0
def Sp (a b c d : P3) : M3 := tr (tms (za5 d b c) a, tms (za5 a d c) b, tms (za5 a b d) c)
theorem zj2 (u v w p : P3) : mul (tr (u, v, w)) p = (p.1 * u.1 + p.2.1 * v.1 + p.2.2 * w.1, p.1 * u.2.1 + p.2.1 * v.2.1 + p.2.2 * w.2.1, p.1 * u.2.2 + p.2.1 * v.2.2 + p.2.2 * w.2.2) := by
 unfold mul tr dot
 exact xan (by grind) (xan (by grind) (by grind))
theorem Sp_0 (a b c d : P3) : mul (Sp a b c d) (1, 0, 0) = tms (za5 d b c) a := by
 unfold Sp; rw [zj2]; unfold tms; simp
theorem Sp_1 (a b c d : P3) : mul (Sp a b c d) (0, 1, 0) = tms (za5 a d c) b := by
 unfold Sp; rw [zj2]; unfold tms; simp
theorem Sp_2 (a b c d : P3) : mul (Sp a b c d) (0, 0, 1) = tms (za5 a b d) c := by
 unfold Sp; rw [zj2]; unfold tms; simp
theorem Sp_3 (a b c d : P3) : mul (Sp a b c d) (1, 1, 1) = tms (za5 a b c) d := by
 unfold Sp; rw [zj2]
 unfold tms za5 dot crs
 exact xan (by grind) (xan (by grind) (by grind))
theorem zqQ (m : M3) : det (tr m) = det m := by unfold det tr dot crs; grind
theorem zuD (a b c d : P3) : det (Sp a b c d) = za5 d b c * za5 a d c * za5 a b d * za5 a b c := by
 unfold Sp
 rw [zqQ]
 show za5 (tms _ a) (tms _ b) (tms _ c) = _
 rw [zpF]
theorem G4.det {a b c d : P3} (h : G4 a b c d) : Mth.det (Sp a b c d) ≠ 0 := by
 rw [zuD]
 exact zci (zci (zci h.d0 h.d1) h.d2) h.d3
end Mth
namespace Mth
theorem zsr (m : M3) : cof (adj m) = cmul (det m) (tr m) := by
 have h : tr (adj (adj m)) = tr (cmul (det m) m) := by rw [zmV]
 exact h
theorem zmX (m : M3) : cof (cof m) = cmul (det m) m := by
 have h := zsr (tr m)
 rw [zqQ] at h
 have e : adj (tr m) = cof m := by unfold adj cof tr crs; exact zih (by grind) (by grind) (by grind) (by grind) (by grind) (by grind) (by grind) (by grind) (by grind)
 rw [e] at h
 exact h
theorem zpG (p : P3) : crs p p = (0, 0, 0) := by unfold crs; exact xan (by grind) (xan (by grind) (by grind))
structure Kept (m : M3) (p q : P3) : Prop where
 zL : Nz (crs p q)
 zp : Nz (mul m p)
 zq : Nz (mul m q)
 ne : low (mul m p) ≠ low (mul m q)
 zF : Nz (mul (cof m) (low (crs p q)))
 zC : Nz (crs (low (mul m p)) (low (mul m q)))
 eq : low (crs (low (mul m p)) (low (mul m q))) = low (mul (cof m) (low (crs p q)))
theorem kept {m : M3} {p q : P3} (hm : det m ≠ 0) (hp : Nrm p) (hq : Nrm q) (hne : p ≠ q) : Kept m p q := by
 have zL := zak hp hq hne
 have zp := zgB hm hp.nz
 have zq := zgB hm hq.nz
 have zM : Nz (mul (cof m) (crs p q)) := zmT hm zL
 obtain ⟨zF, eF⟩ := zj1 (m := cof m) zL zM
 have ep := zct zp
 have eq := zct zq
 have c : tms (sOf (mul m p) * sOf (mul m q)) (crs (low (mul m p)) (low (mul m q))) = mul (cof m) (crs p q) := by
  rw [<- zfn, <- ep, <- eq, zg9]
 have n := zci (zdA zp).1 (zdA zq).1
 have zC : Nz (crs (low (mul m p)) (low (mul m q))) := zjo (by rw [c]; exact zM)
 exact ⟨zL, zp, zq, fun h => zlF zC (by rw [h]; exact zpG _), zF, zC, by rw [eF, <- c, zbj n zC]⟩
theorem zmY (m : M3) : det (cof m) = det m * det m := by
 have := zmW (cof m) (1, 0, 0) (1, 0, 0)
 rw [zmX] at this
 have e : dot (mul (cof m) (1, 0, 0)) (mul (cmul (det m) m) (1, 0, 0)) = det m * det m := by
  rw [zcv, zpE]
  have t := zmW m (1, 0, 0) (1, 0, 0)
  have u : dot (tms (det m) (mul m (1, 0, 0))) (mul (cof m) (1, 0, 0)) = det m * dot (mul m (1, 0, 0)) (mul (cof m) (1, 0, 0)) := by unfold tms dot; grind
  rw [u, t]; unfold dot; simp
 rw [e] at this
 have d1 : dot ((1, 0, 0) : P3) (1, 0, 0) = 1 := by decide
 rw [d1] at this; omega
theorem zss {m : M3} {l k : P3} (hm : det m ≠ 0) (hl : Nrm l) (hk : Nrm k) (hne : l ≠ k) : Nz (mul m (low (crs l k))) /\ low (crs (low (mul (cof m) l)) (low (mul (cof m) k))) = low (mul m (low (crs l k))) := by
 have h := kept (m := cof m) (by rw [zmY]; exact zci hm hm) hl hk hne
 have z := zgB hm (za9 h.zL).nz
 refine ⟨z, ?_⟩
 rw [h.eq, zmX, zcv, zbj hm z]
theorem zj3 {m : M3} {p : P3} (hm : det m ≠ 0) (hp : Nrm p) : Nz (mul (zjZ (adj m)) (low (mul m p))) /\ low (mul (zjZ (adj m)) (low (mul m p))) = p := by
 obtain ⟨z, e⟩ := (zsq hm).led p hp.nz
 obtain ⟨z', e'⟩ := zj1 (zgB hm hp.nz) z
 exact ⟨z', by rw [e', e, hp.low]⟩
end Mth
namespace Mth
def C3 (x y z : P3) : Prop := za5 x y z = 0
theorem zw9 (x y z : P3) : za5 y x z = - za5 x y z := by unfold za5 dot crs; grind
theorem zxa (x y z : P3) : za5 x z y = - za5 x y z := by unfold za5 dot crs; grind
theorem C3.s12 {x y z : P3} (h : C3 x y z) : C3 y x z := by unfold C3 at *; rw [zw9, h]; rfl
theorem C3.s23 {x y z : P3} (h : C3 x y z) : C3 x z y := by unfold C3 at *; rw [zxa, h]; rfl
theorem C3.rot {x y z : P3} (h : C3 x y z) : C3 z x y := h.s23.s12
theorem C3.aab (x y : P3) : C3 x x y := by unfold C3 za5 dot crs; grind
theorem C3.aba (x y : P3) : C3 x y x := (C3.aab x y).s23
theorem C3.baa (x y : P3) : C3 y x x := (C3.aba x y).s12
theorem zjp {u v x y z : P3} (hu : Nrm u) (hv : Nrm v) (ne : u ≠ v) (h1 : C3 x u v) (h2 : C3 y u v) (h3 : C3 z u v) : C3 x y z :=
 zmS (zak hu hv ne) h1 h2 h3
theorem bent {a b c d e : P3} (na : Nrm a) (nb : Nrm b) (nc : Nrm c) (nd : Nrm d) (ne : Nrm e) (h : ¬ C3 a b c) (hd : C3 a b d) (da : d ≠ a) (db : d ≠ b) (he : C3 b c e) (eb : e ≠ b) (ec : e ≠ c) :
  ¬ C3 a c d /\ ¬ C3 a c e /\ ¬ C3 a d e /\ ¬ C3 c d e := by
 refine ⟨fun q => h ?_, fun q => h ?_, fun q => h ?_, fun q => h ?_⟩
 ·exact zjp na nd (fun z => da z.symm) (C3.aab a d) hd.s12 q.s12
 ·exact zjp nc ne (fun z => ec z.symm) q he (C3.aab c e)
 ·have e1 : C3 a e b := zjp na nd (fun z => da z.symm) (C3.aab a d) q.rot hd.s12
  exact zjp ne nb eb e1 (C3.aba b e) he.rot.rot
 ·have e1 : C3 c d b := zjp nc ne (fun z => ec z.symm) (C3.aab c e) q.s12 he
  exact zjp nd nb db hd.s23 (C3.aba b d) e1
theorem zxb {Q : Nat -> Nat -> Nat -> Nat -> Prop} {n : Nat} (s1 : ∀ i j k l, Q i j k l -> Q j i k l) (s2 : ∀ i j k l, Q i j k l -> Q i k j l) (s3 : ∀ i j k l, Q i j k l -> Q i j l k)
  (h : ∀ a b c d, a < b -> b < c -> c < d -> d < n -> Q a b c d) : ∀ i j k l, i < n -> j < n -> k < n -> l < n -> i ≠ j -> i ≠ k -> i ≠ l -> j ≠ k -> j ≠ l -> k ≠ l -> Q i j k l := by
 have t4 : ∀ i j k l, i < n -> j < n -> k < n -> l < n -> i < j -> j < k -> l ≠ i -> l ≠ j -> l ≠ k -> Q i j k l := by
  intro i j k l hi hj hk hl h1 h2 n1 n2 n3
  by_cases a : k < l
  ·exact h _ _ _ _ h1 h2 a hl
  ·by_cases b : j < l
   ·exact s3 _ _ _ _ (h _ _ _ _ h1 b (by omega) hk)
   ·by_cases c : i < l
    ·exact s3 _ _ _ _ (s2 _ _ _ _ (h _ _ _ _ c (by omega) h2 hk))
    ·exact s3 _ _ _ _ (s2 _ _ _ _ (s1 _ _ _ _ (h _ _ _ _ (by omega) h1 h2 hk)))
 have t3 : ∀ i j k l, i < n -> j < n -> k < n -> l < n -> i < j -> k ≠ i -> k ≠ j -> l ≠ i -> l ≠ j -> l ≠ k -> Q i j k l := by
  intro i j k l hi hj hk hl h1 a1 a2 n1 n2 n3
  by_cases b : j < k
  ·exact t4 _ _ _ _ hi hj hk hl h1 b n1 n2 n3
  ·by_cases c : i < k
   ·exact s2 _ _ _ _ (t4 _ _ _ _ hi hk hj hl c (by omega) n1 n3 n2)
   ·exact s2 _ _ _ _ (s1 _ _ _ _ (t4 _ _ _ _ hk hi hj hl (by omega) h1 n3 n1 n2))
 intro i j k l hi hj hk hl a b c d e f
 by_cases g : i < j
 ·exact t3 _ _ _ _ hi hj hk hl g (fun z => b z.symm) (fun z => d z.symm) (fun z => c z.symm) (fun z => e z.symm) (fun z => f z.symm)
 ·exact s1 _ _ _ _ (t3 _ _ _ _ hj hi hk hl (by omega) (fun z => d z.symm) (fun z => b z.symm) (fun z => e z.symm) (fun z => c z.symm) (fun z => f z.symm))
theorem zpI {f : Nat -> P3} {n : Nat} (hn : ∀ i, i < n -> Nrm (f i)) (hne : ∀ i j, i < n -> j < n -> i ≠ j -> f i ≠ f j)
  (h : ∀ a b c d, a < b -> b < c -> c < d -> d < n -> C3 (f a) (f b) (f c) \/ C3 (f a) (f b) (f d) \/ C3 (f a) (f c) (f d) \/ C3 (f b) (f c) (f d)) :
  (∀ i j k, i < n -> j < n -> k < n -> C3 (f i) (f j) (f k)) \/ ∃ m, m < n /\ ∀ i j k, i < n -> j < n -> k < n -> i ≠ m -> j ≠ m -> k ≠ m -> C3 (f i) (f j) (f k) := by
 have Q := zxb (n := n) (Q := fun a b c d => C3 (f a) (f b) (f c) \/ C3 (f a) (f b) (f d) \/ C3 (f a) (f c) (f d) \/ C3 (f b) (f c) (f d))
  (fun i j k l q => by rcases q with q | q | q | q; exact .inl q.s12; exact .inr (.inl q.s12); exact .inr (.inr (.inr q)); exact .inr (.inr (.inl q)))
  (fun i j k l q => by rcases q with q | q | q | q; exact .inl q.s23; exact .inr (.inr (.inl q)); exact .inr (.inl q); exact .inr (.inr (.inr q.s12)))
  (fun i j k l q => by rcases q with q | q | q | q; exact .inr (.inl q); exact .inl q; exact .inr (.inr (.inl q.s23)); exact .inr (.inr (.inr q.s23))) h
 by_cases all : ∀ i j k, i < n -> j < n -> k < n -> C3 (f i) (f j) (f k)
 ·exact .inl all
 right
 obtain ⟨i, j, k, hi, hj, hk, hc⟩ : ∃ i j k, i < n /\ j < n /\ k < n /\ ¬ C3 (f i) (f j) (f k) := by
  apply xar
  intro z
  apply all
  intro i j k hi hj hk
  apply xar
  intro y
  exact z ⟨i, j, k, hi, hj, hk, y⟩
 have ij : i ≠ j := fun e => hc (by rw [e]; exact C3.aab _ _)
 have ik : i ≠ k := fun e => hc (by rw [e]; exact C3.aba _ _)
 have jk : j ≠ k := fun e => hc (by rw [e]; exact C3.baa _ _)
 have fin : ∀ i j k, i < n -> j < n -> k < n -> i ≠ j -> (∀ l, l < n -> l ≠ i -> l ≠ j -> l ≠ k -> C3 (f i) (f j) (f l)) -> ∃ m, m < n /\ ∀ a b c, a < n -> b < n -> c < n -> a ≠ m -> b ≠ m -> c ≠ m -> C3 (f a) (f b) (f c) := by
  intro i j k hi hj hk ij hl
  have on : ∀ a, a < n -> a ≠ k -> C3 (f a) (f i) (f j) := fun a ha hak => by
   by_cases e1 : a = i
   ·rw [e1]; exact C3.aab _ _
   ·by_cases e2 : a = j
    ·rw [e2]; exact C3.aba _ _
    ·exact (hl a ha e1 e2 hak).rot
  exact ⟨k, hk, fun a b c ha hb hc a1 a2 a3 => zjp (hn i hi) (hn j hj) (hne i j hi hj ij) (on a ha a1) (on b hb a2) (on c hc a3)⟩
 have two : ∀ a b c d e, a < n -> b < n -> c < n -> d < n -> e < n -> a ≠ c -> d ≠ a -> d ≠ b -> d ≠ c -> e ≠ a -> e ≠ b -> e ≠ c -> d ≠ e -> ¬ C3 (f a) (f b) (f c) -> C3 (f a) (f b) (f d) -> C3 (f b) (f c) (f e) -> False := by
  intro a b c d e ha hb hc hd he ac da db dc ea eb ec de h1 h2 h3
  obtain ⟨q1, q2, q3, q4⟩ := bent (hn a ha) (hn b hb) (hn c hc) (hn d hd) (hn e he) h1 h2 (hne d a hd ha da) (hne d b hd hb db) h3 (hne e b he hb eb) (hne e c he hc ec)
  rcases Q a c d e ha hc hd he ac (fun z => da z.symm) (fun z => ea z.symm) (fun z => dc z.symm) (fun z => ec z.symm) de with z | z | z | z
  ·exact q1 z
  ·exact q2 z
  ·exact q3 z
  ·exact q4 z
 have out : ∀ l, l < n -> l ≠ i -> l ≠ j -> l ≠ k -> C3 (f i) (f j) (f l) \/ C3 (f i) (f k) (f l) \/ C3 (f j) (f k) (f l) := fun l hl a b c => by
  rcases Q i j k l hi hj hk hl ij ik (fun z => a z.symm) jk (fun z => b z.symm) (fun z => c z.symm) with z | z | z | z
  ·exact (hc z).elim
  ·exact .inl z
  ·exact .inr (.inl z)
  ·exact .inr (.inr z)
 by_cases h1 : ∀ l, l < n -> l ≠ i -> l ≠ j -> l ≠ k -> C3 (f i) (f j) (f l)
 ·exact fin i j k hi hj hk ij h1
 by_cases h2 : ∀ l, l < n -> l ≠ i -> l ≠ k -> l ≠ j -> C3 (f i) (f k) (f l)
 ·exact fin i k j hi hk hj ik h2
 by_cases h3 : ∀ l, l < n -> l ≠ j -> l ≠ k -> l ≠ i -> C3 (f j) (f k) (f l)
 ·exact fin j k i hj hk hi jk h3
 exfalso
 have ex : ∀ {P : Nat -> Prop} {a b c : Nat}, ¬ (∀ l, l < n -> l ≠ a -> l ≠ b -> l ≠ c -> P l) -> ∃ l, l < n /\ l ≠ a /\ l ≠ b /\ l ≠ c /\ ¬ P l := fun {P a b c} z => by
  apply xar
  intro y
  apply z
  intro l h1 h2 h3 h4
  apply xar
  intro w
  exact y ⟨l, h1, h2, h3, h4, w⟩
 obtain ⟨x, hx, x1, x2, x3, nx⟩ := ex h1
 obtain ⟨y, hy, y1, y2, y3, ny⟩ := ex h2
 obtain ⟨z, hz, z1, z2, z3, nz⟩ := ex h3
 have hcc : ¬ C3 (f j) (f i) (f k) := fun q => hc q.s12
 have hck : ¬ C3 (f i) (f k) (f j) := fun q => hc q.s23
 rcases out x hx x1 x2 x3 with q | q | q
 ·exact nx q
 ·
  have xy : x ≠ y := fun e => ny (by rw [<- e]; exact q)
  rcases out y hy y1 y3 y2 with r | r | r
  ·
   exact two j i k y x hj hi hk hy hx jk y3 y1 y2 x2 x1 x3 (fun e => xy e.symm) hcc r.s12 q
  ·exact ny r
  ·
   exact two i k j x y hi hk hj hx hy ij x1 x3 x2 y1 y2 y3 xy hck q r.s12
 ·
  have xz : x ≠ z := fun e => nz (by rw [<- e]; exact q)
  rcases out z hz z3 z1 z2 with r | r | r
  ·
   exact two i j k z x hi hj hk hz hx ik z3 z1 z2 x1 x2 x3 (fun e => xz e.symm) hc r q
  ·
   exact two i k j z x hi hk hj hz hx ij z3 z2 z1 x1 x3 x2 (fun e => xz e.symm) hck r q.s12
  ·exact nz r
end Mth
namespace Mth
def cr (p q r s : P3) : P3 := low (crs (low (crs p q)) (low (crs r s)))
theorem zwn {m : M3} (hm : det m ≠ 0) {x y : P3} (hx : Nrm x) (hy : Nrm y) (h : x ≠ y) : low (mul m x) ≠ low (mul m y) := fun e => h (by
 have b1 := (zj3 hm hx).2
 have b2 := (zj3 hm hy).2
 rw [e] at b1
 rw [<- b1, b2])
theorem zhf {m : M3} (hm : det m ≠ 0) {p q : P3} (hp : Nrm p) (hq : Nrm q) (h : p ≠ q) : low (crs (low (mul m p)) (low (mul m q))) = low (mul (cof m) (low (crs p q))) := by
 have nz := zak hp hq h
 exact (zpw hm (za9 nz).nz hp hq h ((zcZ nz).mpr (by unfold dot crs; grind)) ((zcZ nz).mpr (by unfold dot crs; grind))).2.2.symm
theorem zuE {m : M3} (hm : det m ≠ 0) {p q r s : P3} (hp : Nrm p) (hq : Nrm q) (hr : Nrm r) (hs : Nrm s) (h1 : p ≠ q) (h2 : r ≠ s) (h3 : low (crs p q) ≠ low (crs r s)) : cr (low (mul m p)) (low (mul m q)) (low (mul m r)) (low (mul m s)) = low (mul m (cr p q r s)) := by
 unfold cr
 rw [zhf hm hp hq h1, zhf hm hr hs h2]
 exact (zss hm (za9 (zak hp hq h1)) (za9 (zak hr hs h2)) h3).2
def Clo (S : P3 -> Prop) : Prop := ∀ p q r s, S p -> S q -> S r -> S s -> p ≠ q -> r ≠ s -> low (crs p q) ≠ low (crs r s) -> S (cr p q r s)
theorem Clo.led {S : P3 -> Prop} (c : Clo S) {m : M3} (hm : det m ≠ 0) {p q r s : P3} (hp : Nrm p) (hq : Nrm q) (hr : Nrm r) (hs : Nrm s) (sp : S (low (mul m p))) (sq : S (low (mul m q))) (sr : S (low (mul m r))) (ss : S (low (mul m s))) (h1 : p ≠ q) (h2 : r ≠ s) (h3 : low (crs p q) ≠ low (crs r s)) {t : P3} (e : cr p q r s = t) : S (low (mul m t)) := by
 rw [<- e, <- zuE hm hp hq hr hs h1 h2 h3]
 refine c _ _ _ _ sp sq sr ss (zwn hm hp hq h1) (zwn hm hr hs h2) ?_
 rw [zhf hm hp hq h1, zhf hm hr hs h2]
 exact zwn (by rw [zmY]; exact zci hm hm) (za9 (zak hp hq h1)) (za9 (zak hr hs h2)) h3
theorem zii (x y : Int) : Nrm (x, y, 1) := by
 refine ⟨fun h => absurd h.2.2 (by show ¬ (1 : Int) = 0; decide), ?_⟩
 show zcr x y 1 = 1
 unfold zcr
 rw [show zar x y 1 = 1 from rfl, if_neg (by decide)]
 show ((Nat.gcd (Nat.gcd x.natAbs y.natAbs) 1 : Nat) : Int) = 1
 rw [Nat.gcd_one_right]; rfl
theorem zuF (x y : Int) : low (x, y, 1) = (x, y, 1) := (zii x y).low
theorem zuG (y z : Int) (hz : 0 <= z) (hy : 0 <= y) (h : 0 < z \/ 0 < y) : Nrm (-1, y, z) := by
 refine ⟨fun h => absurd h.1 (by show ¬ (-1 : Int) = 0; decide), ?_⟩
 show zcr (-1) y z = 1
 unfold zcr
 rw [if_neg (by unfold zar; split; omega; split <;> omega)]
 unfold g3
 show ((Nat.gcd (Nat.gcd 1 y.natAbs) z.natAbs : Nat) : Int) = 1
 rw [Nat.gcd_one_left, Nat.gcd_one_left]; rfl
theorem zlH {S : P3 -> Prop} (c : Clo S) {m : M3} (hm : det m ≠ 0) (x : S (low (mul m (1, 0, 0)))) (y : S (low (mul m (0, 1, 0)))) (o : S (low (mul m (0, 0, 1)))) (u : S (low (mul m (1, 1, 1)))) : ∀ n : Nat, S (low (mul m ((n : Int), 0, 1))) := by
 have nx : Nrm (1, 0, 0) := ⟨fun h => absurd h.1 (by decide), by decide⟩
 have ny : Nrm (0, 1, 0) := ⟨fun h => absurd h.2.1 (by decide), by decide⟩
 have ng : Nrm (1, 1, 0) := ⟨fun h => absurd h.1 (by decide), by decide⟩
 have no := zii 0 0
 have nu := zii 1 1
 have g : S (low (mul m (1, 1, 0))) := c.led hm no nu nx ny o u x y (by decide) (by decide) (by decide) (by decide)
 intro n
 induction n with
 | zero => exact o
 | succ n ih =>
  have e1 : low (crs ((n : Int), 0, 1) (1, 1, 0)) = (-1, 1, (n : Int)) := by
   rw [show crs ((n : Int), 0, 1) (1, 1, 0) = (-1, 1, (n : Int)) by unfold crs; exact xan (by simp) (xan (by simp) (by simp))]
   exact (zuG 1 n (by omega) (by omega) (.inr (by decide))).low
  have e2 : low (crs (1, 1, 1) (1, 0, 0)) = (0, -1, 1) := by decide
  have a : S (low (mul m ((n : Int) + 1, 1, 1))) := by
   refine c.led hm (zii n 0) ng nu nx ih g u x (by simp) (by decide) ?_ ?_
   ·rw [e1, e2]
    simp
   ·unfold cr
    rw [e1, e2, show crs (-1, 1, (n : Int)) (0, -1, 1) = ((n : Int) + 1, 1, 1) by unfold crs; exact xan (by simp; omega) (xan (by simp) (by simp))]
    exact zuF _ _
  have e3 : low (crs ((n : Int) + 1, 1, 1) (0, 1, 0)) = (-1, 0, (n : Int) + 1) := by
   rw [show crs ((n : Int) + 1, 1, 1) (0, 1, 0) = (-1, 0, (n : Int) + 1) by unfold crs; exact xan (by simp) (xan (by simp) (by simp))]
   exact (zuG 0 (n + 1) (by omega) (by omega) (.inl (by omega))).low
  have e4 : low (crs (0, 0, 1) (1, 0, 0)) = (0, 1, 0) := by decide
  refine c.led hm (zii _ 1) ny no nx a y o x (by simp) (by decide) ?_ ?_
  ·rw [e3, e4]
   simp
  ·unfold cr
   rw [e3, e4, show crs (-1, 0, (n : Int) + 1) (0, 1, 0) = tms (-1) (((n + 1 : Nat) : Int), 0, 1) by unfold crs tms; exact xan (by simp) (xan (by simp) (by simp))]
   rw [zbj (by decide) (zii _ _).nz]
   exact zuF _ _
theorem zfb {s : Int} {p : P3} (hs : s ≠ 0) (hp : Nrm p) : low (tms s p) = p := by rw [zbj hs hp.nz, hp.low]
theorem zst {S : P3 -> Prop} (c : Clo S) {a b e d : P3} (na : Nrm a) (nb : Nrm b) (ne : Nrm e) (nd : Nrm d) (sa : S a) (sb : S b) (se : S e) (sd : S d) (g : G4 a b e d) : ∃ f : Nat -> P3, (∀ n, S (f n)) /\ ∀ i j, i ≠ j -> f i ≠ f j := by
 have hm := g.det
 refine ⟨fun n => low (mul (Sp a b e d) ((n : Int), 0, 1)), zlH c hm ?_ ?_ ?_ ?_, fun i j h => zwn hm (zii _ _) (zii _ _) fun z => h ?_⟩
 ·rw [Sp_0, zfb g.d0 na]; exact sa
 ·rw [Sp_1, zfb g.d1 nb]; exact sb
 ·rw [Sp_2, zfb g.d2 ne]; exact se
 ·rw [Sp_3, zfb g.d3 nd]; exact sd
 ·have : (i : Int) = (j : Int) := congrArg (fun p : P3 => p.1) z
  omega
theorem zsu {x l k : P3} (hx : Nrm x) (nz : Nz (crs l k)) (h1 : dot x l = 0) (h2 : dot x k = 0) : low (crs l k) = x := by
 have e : ∀ a b : P3, dot a b = dot b a := fun a b => by unfold dot; grind
 rw [zfo nz hx.nz (zmU (by rw [e]; exact h1) (by rw [e]; exact h2)), hx.low]
end Mth
namespace SetT
open PySem.SetTable
theorem zj4 : ∀ (n : Nat) (l : List Nat), (∀ j, j < n -> j ∈ l) -> n <= l.length
 | 0, _, _ => xb0 _
 | n + 1, l, h => by
  have hn : n ∈ l := h n (xcu _)
  have := zj4 n (l.erase n) fun j hj => (xdt (by omega)).mpr (h j (by omega))
  rw [xc9 hn] at this
  have : 0 < l.length := xdi hn
  omega
theorem no_has (j : Nat) : has #[] j = false := rfl
theorem slot_cases {t : SetTable} (hd : t.dummies = #[]) (j : Nat) : t.slot j = .empty \/ ∃ i, t.slot j = .live i /\ t.place[i]? = some j := by
 unfold slot
 simp only
 by_cases h : (t.place[below t.place j]? == some j) = true
 ·rw [if_pos h]
  exact .inr ⟨_, rfl, eq_of_beq h⟩
 ·rw [if_neg h, hd, no_has]
  exact .inl rfl
theorem zlI {t : SetTable} (hd : t.dummies = #[]) {n : Nat} (hn : t.place.size < n) : ∃ j, j < n /\ t.slot j = .empty := by
 refine xar fun h => ?_
 have : n <= t.place.toList.length := zj4 n _ fun j hj => by
  rcases slot_cases hd j with e | ⟨i, _, hi⟩
  ·exact absurd ⟨j, hj, e⟩ h
  ·rw [<- xas] at hi
   exact xbn hi
 rw [xaj] at this
 omega
def iter (t : SetTable) : Nat -> Probe -> Probe
 | 0, p => p
 | k + 1, p => iter t k (t.advance p)
theorem iter_add (t : SetTable) : ∀ (a b : Nat) (p : Probe), iter t (a + b) p = iter t b (iter t a p)
 | 0, b, p => by rw [xbk]; rfl
 | a + 1, b, p => by rw [Nat.succ_add]; exact iter_add t a b (t.advance p)
theorem adv_dummy (t : SetTable) (p : Probe) : (t.advance p).dummy = p.dummy := by
 unfold advance; split <;> rfl
theorem go_ok {t : SetTable} (hd : t.dummies = #[]) (hashAt : Nat -> Int) (h : Int) : ∀ (k n : Nat) (p : Probe), p.dummy = none -> t.slot (iter t k p).j = .empty -> k < n ->
  (∃ j, SetTable.probe.go t hashAt h n p = some (.empty j none)) \/ ∃ j i m, m < k /\ SetTable.probe.go t hashAt h n p = some (.candidate j i (iter t (m + 1) p)) /\ t.slot j = .live i /\ t.place[i]? = some j := by
 intro k
 induction k with
 | zero =>
  intro n p hp he hn
  obtain ⟨n, rfl⟩ : ∃ m, n = m + 1 := ⟨n - 1, by omega⟩
  have he : t.slot p.j = .empty := he
  refine .inl ⟨p.j, ?_⟩
  unfold SetTable.probe.go
  rw [he, hp]
 | succ k ih =>
  intro n p hp he hn
  obtain ⟨n, rfl⟩ : ∃ m, n = m + 1 := ⟨n - 1, by omega⟩
  rcases slot_cases hd p.j with e | ⟨i, e, hi⟩
  ·refine .inl ⟨p.j, ?_⟩
   unfold SetTable.probe.go
   rw [e, hp]
  ·by_cases hh : (hashAt i == h) = true
   ·refine .inr ⟨p.j, i, 0, by omega, ?_, e, hi⟩
    unfold SetTable.probe.go
    rw [e]
    simp only [hh, if_true]
    rfl
   ·rcases ih n (t.advance p) (by rw [adv_dummy]; exact hp) he (by omega) with ⟨j, q⟩ | ⟨j, i', m, hm, q, q2, q3⟩
    ·refine .inl ⟨j, ?_⟩
     unfold SetTable.probe.go
     rw [e]
     simp only [hh, if_false]
     exact q
    ·refine .inr ⟨j, i', m + 1, by omega, ?_, q2, q3⟩
     unfold SetTable.probe.go
     rw [e]
     simp only [hh, if_false]
     exact q
def start (mask i perturb : Nat) : Probe := { j := i, more := runEnd mask i - i, i, perturb, dummy := none }
theorem zj5 (mask i : Nat) : runEnd mask i - i <= 9 := by unfold runEnd; split <;> omega
theorem zmZ {t : SetTable} : ∀ (m : Nat) (p : Probe), p.more = m -> p.dummy = none -> iter t (m + 1) p = start t.mask (leap t.mask p.i p.perturb).1 (leap t.mask p.i p.perturb).2
 | 0, p, hm, hd => by
  show t.advance p = _
  unfold advance start
  rw [if_neg (by omega), hd]
 | m + 1, p, hm, hd => by
  show iter t (m + 1) (t.advance p) = _
  have e : t.advance p = { p with j := p.j + 1, more := p.more - 1 } := by unfold advance; rw [if_pos (by omega)]
  rw [e]
  exact zmZ m { p with j := p.j + 1, more := p.more - 1 } (by show p.more - 1 = m; omega) hd
def zaW (mask : Nat) : Nat -> Nat × Nat -> Nat × Nat
 | 0, s => s
 | n + 1, s => zaW mask n (leap mask s.1 s.2)
theorem zdL (mask : Nat) : ∀ (n : Nat) (s : Nat × Nat), zaW mask (n + 1) s = leap mask (zaW mask n s).1 (zaW mask n s).2
 | 0, _ => rfl
 | n + 1, s => zdL mask n (leap mask s.1 s.2)
theorem zfr {t : SetTable} : ∀ (n : Nat) (s : Nat × Nat), ∃ k, k <= 10 * n /\ iter t k (start t.mask s.1 s.2) = start t.mask (zaW t.mask n s).1 (zaW t.mask n s).2
 | 0, s => ⟨0, xai _, rfl⟩
 | n + 1, s => by
  obtain ⟨k, hk, e⟩ := zfr n (leap t.mask s.1 s.2)
  have hr := zmZ (t := t) _ (start t.mask s.1 s.2) rfl rfl
  refine ⟨(runEnd t.mask s.1 - s.1 + 1) + k, ?_, ?_⟩
  ·have := zj5 t.mask s.1; omega
  ·rw [iter_add]
   have hr : iter t (runEnd t.mask s.1 - s.1 + 1) (start t.mask s.1 s.2) = start t.mask (leap t.mask s.1 s.2).1 (leap t.mask s.1 s.2).2 := hr
   rw [hr]; exact e
theorem zdB (mask : Nat) : ∀ (n : Nat) (s : Nat × Nat), (zaW mask n s).2 = s.2 / 32 ^ n
 | 0, s => by simp [zaW]
 | n + 1, s => by
  rw [zdL]
  show (zaW mask n s).2 / 32 = _
  rw [zdB mask n s, Nat.div_div_eq_div_mul, <- Nat.pow_succ]
def zuH (mask : Nat) : Nat -> Nat -> Nat
 | 0, i => i
 | n + 1, i => zuH mask n ((i * 5 + 1) % (mask + 1))
theorem zfs (mask : Nat) : ∀ (n i : Nat), zaW mask n (i, 0) = (zuH mask n i, 0)
 | 0, i => rfl
 | n + 1, i => by
  show zaW mask n (leap mask i 0) = _
  have : leap mask i 0 = ((i * 5 + 1) % (mask + 1), 0) := by unfold leap; simp
  rw [this, zfs mask n]; rfl
theorem zgD (mask : Nat) : ∀ (a b : Nat) (s : Nat × Nat), zaW mask (a + b) s = zaW mask b (zaW mask a s)
 | 0, b, s => by rw [xbk]; rfl
 | a + 1, b, s => by rw [Nat.succ_add]; exact zgD mask a b (leap mask s.1 s.2)
theorem all7 : (List.range 8).all (fun i => (List.range 8).all fun j => (List.range 8).any fun n => zuH 7 n i == j) = true := by decide +kernel
theorem zxc : (List.range 32).all (fun i => (List.range 32).all fun j => (List.range 32).any fun n => zuH 31 n i == j) = true := by decide +kernel
theorem zpJ {mask : Nat} (hm : mask = 7 \/ mask = 31) {i j : Nat} (hi : i <= mask) (hj : j <= mask) : ∃ n, n <= mask /\ zuH mask n i = j := by
 rcases hm with rfl | rfl
 ·have h := xay.mp (xay.mp all7 i (xaz.mpr (by omega))) j (xaz.mpr (by omega))
  obtain ⟨n, h1, h2⟩ := List.any_eq_true.mp h
  exact ⟨n, by have := xaz.mp h1; omega, eq_of_beq h2⟩
 ·have h := xay.mp (xay.mp zxc i (xaz.mpr (by omega))) j (xaz.mpr (by omega))
  obtain ⟨n, h1, h2⟩ := List.any_eq_true.mp h
  exact ⟨n, by have := xaz.mp h1; omega, eq_of_beq h2⟩
theorem zm0 {mask : Nat} (n : Nat) {s : Nat × Nat} (hs : s.1 <= mask) : (zaW mask n s).1 <= mask := by
 cases n with
 | zero => exact hs
 | succ n =>
  rw [zdL]
  show (_ % (mask + 1)) <= mask
  have := xcv ((zaW mask n s).1 * 5 + 1 + (zaW mask n s).2 / 32) (show 0 < mask + 1 by omega)
  omega
theorem zgE {mask : Nat} (hm : mask = 7 \/ mask = 31) {s : Nat × Nat} (hs : s.1 <= mask) (hb : s.2 < 2 ^ 64) {j : Nat} (hj : j <= mask) : ∃ n, n <= mask + 13 /\ (zaW mask n s).1 = j := by
 have e : (zaW mask 13 s).2 = 0 := by rw [zdB]; exact Nat.div_eq_of_lt (xaq hb (by decide))
 obtain ⟨n, h1, h2⟩ := zpJ hm (zm0 13 hs) hj
 refine ⟨13 + n, by omega, ?_⟩
 rw [zgD]
 have : zaW mask 13 s = ((zaW mask 13 s).1, 0) := xan rfl e
 rw [this, zfs]; exact h2
theorem zm1 (h : Int) : bits h < 2 ^ 64 := by
 unfold bits
 have h1 := Int.emod_nonneg h (show (2 ^ 64 : Int) ≠ 0 by decide)
 have h2 := Int.emod_lt_of_pos h (show (0 : Int) < 2 ^ 64 by decide)
 omega
theorem meets_empty {t : SetTable} (hd : t.dummies = #[]) (hm : t.mask = 7 \/ t.mask = 31) (hs : t.place.size <= t.mask) (h : Int) : ∃ k, k < 10 * turns t.mask /\ t.slot (iter t k (t.probeStart h)).j = .empty := by
 obtain ⟨j, hj, he⟩ := zlI hd (n := t.mask + 1) (by omega)
 have hi : bits h % (t.mask + 1) <= t.mask := by have := xcv (bits h) (show 0 < t.mask + 1 by omega); omega
 obtain ⟨n, h1, h2⟩ := zgE hm (s := (bits h % (t.mask + 1), bits h)) hi (zm1 h) (show j <= t.mask by omega)
 obtain ⟨k, hk, e⟩ := zfr (t := t) n (bits h % (t.mask + 1), bits h)
 refine ⟨k, by unfold turns; omega, ?_⟩
 have e : iter t k (t.probeStart h) = _ := e
 rw [e]
 show t.slot (zaW t.mask n (bits h % (t.mask + 1), bits h)).1 = .empty
 rw [h2]; exact he
theorem fm_all {α β : Type} (f : α -> Option β) : ∀ l : List α, (∀ a ∈ l, (f a).isSome = true) -> (l.filterMap f).length = l.length
 | [], _ => rfl
 | a :: l, h => by
  obtain ⟨b, hb⟩ := xbi.mp (h a xab)
  rw [xa8 hb, xam, xam, fm_all f l fun x hx => h x (xad _ hx)]
theorem zhg {β : Type} (f : Nat -> Option β) : ∀ l : List Nat, (l.filterMap fun j => (f j).map (j, ·)).length = (l.filterMap f).length
 | [] => rfl
 | a :: l => by
  cases h : f a with
  | none => rw [xbl (by rw [h]; rfl), xbl h, zhg f l]
  | some b => rw [xa8 (by rw [h]; rfl), xa8 h, xam, xam, zhg f l]
theorem zj6 {β : Type} {f g : Nat -> Option β} : ∀ l : List Nat, (∀ x ∈ l, g x = f x) -> l.filterMap g = l.filterMap f
 | [], _ => rfl
 | a :: l, h => by
  have ih := zj6 l fun x hx => h x (xad _ hx)
  have ha := h a xab
  cases e : f a with
  | none => rw [xbl e, xbl (by rw [ha]; exact e), ih]
  | some b => rw [xa8 e, xa8 (by rw [ha]; exact e), ih]
theorem zqR {β : Type} {f g : Nat -> Option β} {j : Nat} (hj : f j = none) (hg : (g j).isSome = true) (ho : ∀ i, i ≠ j -> g i = f i) : ∀ l : List Nat, l.Nodup -> j ∈ l -> (l.filterMap g).length = (l.filterMap f).length + 1
 | a :: l, hn, hm => by
  rw [xbh] at hn
  by_cases e : a = j
  ·subst e
   obtain ⟨b, hb⟩ := xbi.mp hg
   have same : l.filterMap g = l.filterMap f := zj6 l fun x hx => ho x fun z => hn.1 (z ▸ hx)
   rw [xa8 hb, xbl hj, xam, same]
  ·have hm' : j ∈ l := (xak.mp hm).elim (fun z => absurd z.symm e) id
   have ih := zqR hj hg ho l hn.2 hm'
   cases h : f a with
   | none => rw [xbl h, xbl (by rw [ho a e]; exact h), ih]
   | some b => rw [xa8 h, xa8 (by rw [ho a e]; exact h), xam, xam, ih]
def cnt (n : Nat) (owner : Array (Option Nat)) : Nat := ((List.range n).filterMap fun j => owner.getD j none).length
theorem zpK {n : Nat} {owner : Array (Option Nat)} (h : cnt n owner < n) : ∃ j, j < n /\ owner.getD j none = none := by
 refine xar fun q => ?_
 have : cnt n owner = (List.range n).length := fm_all _ _ fun j hj => by
  cases e : owner.getD j none with
  | none => exact absurd ⟨j, xaz.mp hj, e⟩ q
  | some b => rfl
 rw [List.length_range] at this
 omega
theorem zhh {owner : Array (Option Nat)} {j : Nat} (h : j < owner.size) (a b : Option Nat) : owner.getD j a = owner.getD j b := by
 rw [xa2, xa2, xa1 h]; rfl
theorem zsv {mask : Nat} {owner : Array (Option Nat)} : ∀ (n fuel i perturb : Nat), (owner.getD (zaW mask n (i, perturb)).1 (some 0)).isNone = true -> n < fuel -> ∃ j, SetTable.layClean.free mask owner fuel i perturb = some j /\ (owner.getD j (some 0)).isNone = true := by
 intro n
 induction n with
 | zero =>
  intro fuel i perturb h hf
  obtain ⟨f, rfl⟩ : ∃ f, fuel = f + 1 := ⟨fuel - 1, by omega⟩
  unfold SetTable.layClean.free
  cases hx : (List.range (runEnd mask i + 1 - i)).find? fun k => (owner.getD (i + k) (some 0)).isNone with
  | some k => exact ⟨i + k, rfl, List.find?_some (p := fun k => (owner.getD (i + k) (some 0)).isNone) hx⟩
  | none =>
   have := List.find?_eq_none.mp hx 0 (xaz.mpr (by unfold runEnd; split <;> omega))
   exact absurd h this
 | succ n ih =>
  intro fuel i perturb h hf
  obtain ⟨f, rfl⟩ : ∃ f, fuel = f + 1 := ⟨fuel - 1, by omega⟩
  unfold SetTable.layClean.free
  cases hx : (List.range (runEnd mask i + 1 - i)).find? fun k => (owner.getD (i + k) (some 0)).isNone with
  | some k => exact ⟨i + k, rfl, List.find?_some (p := fun k => (owner.getD (i + k) (some 0)).isNone) hx⟩
  | none => exact ih f _ _ h (by omega)
theorem zm2 {mask : Nat} (hm : mask = 7 \/ mask = 31) : ∀ (hs : List Int) (owner : Array (Option Nat)) (k : Nat), owner.size = mask + 1 -> cnt (mask + 1) owner = k -> (∀ j v, owner.getD j none = some v -> v < k) -> k + hs.length <= mask + 1 ->
  ∃ owner', hs.foldl (fun acc h => do
   let (owner, k) <- acc
   let j <- SetTable.layClean.free mask owner (turns mask) (bits h % (mask + 1)) (bits h)
   pure (owner.setIfInBounds j (some k), k + 1)) (some (owner, k)) = some (owner', k + hs.length) /\ cnt (mask + 1) owner' = k + hs.length /\ ∀ j v, owner'.getD j none = some v -> v < k + hs.length
 | [], owner, k, _, h2, h3, _ => ⟨owner, rfl, h2, h3⟩
 | h :: hs, owner, k, h1, h2, h3, h4 => by
  rw [xam] at h4 ⊢
  obtain ⟨j, hj, he⟩ := zpK (n := mask + 1) (owner := owner) (by omega)
  have hi : bits h % (mask + 1) <= mask := by have := xcv (bits h) (show 0 < mask + 1 by omega); omega
  obtain ⟨n, q1, q2⟩ := zgE hm (s := (bits h % (mask + 1), bits h)) hi (zm1 h) (show j <= mask by omega)
  obtain ⟨j', f1, f2⟩ := zsv (mask := mask) (owner := owner) n (turns mask) (bits h % (mask + 1)) (bits h) (by rw [q2, zhh (by omega) (some 0) none, he]; rfl) (by unfold turns; omega)
  have hj' : j' < owner.size := by
   refine xar fun z => ?_
   rw [xa2, xcp (by omega)] at f2
   cases f2
  have hn : owner.getD j' none = none := by
   rw [zhh hj' none (some 0)]
   exact Option.isNone_iff_eq_none.mp f2
  have hset : ∀ i, (owner.setIfInBounds j' (some k)).getD i none = if i = j' then some k else owner.getD i none := by
   intro i
   rw [xa2, xa2, Array.getElem?_setIfInBounds]
   by_cases e : i = j'
   ·subst e; rw [if_pos rfl, if_pos rfl, if_pos hj']; rfl
   ·rw [if_neg (xba e), if_neg e]
  obtain ⟨o', g1, g2, g3⟩ := zm2 hm hs (owner.setIfInBounds j' (some k)) (k + 1) (by rw [Array.size_setIfInBounds]; exact h1) (by
   unfold cnt
   rw [zqR (f := fun j => owner.getD j none) (j := j') hn (by rw [hset, if_pos rfl]; rfl) (fun i hi => by rw [hset, if_neg hi]) _ List.nodup_range (xaz.mpr (by omega))]
   rw [<- h2]; rfl) (by
   intro i v hv
   rw [hset] at hv
   by_cases e : i = j'
   ·rw [if_pos e] at hv; cases hv; omega
   ·rw [if_neg e] at hv; have := h3 i v hv; omega) (by omega)
  refine ⟨o', ?_, by rw [g2]; omega, fun i v hv => by have := g3 i v hv; omega⟩
  rw [xb5]
  have e1 : (do
   let (owner, k) <- some (owner, k)
   let j <- SetTable.layClean.free mask owner (turns mask) (bits h % (mask + 1)) (bits h)
   pure (owner.setIfInBounds j (some k), k + 1)) = some (owner.setIfInBounds j' (some k), k + 1) := by
   show (SetTable.layClean.free mask owner (turns mask) (bits h % (mask + 1)) (bits h)).bind _ = _
   rw [f1]; rfl
  rw [e1, g1]
  congr 2
  omega
theorem relaid_ok (t : SetTable) (hashes : Array Int) {n : Nat} (hn : hashes.size = n) (h : n <= 32) : ∃ t' order, t.relaid hashes 20 = some (t', order) /\ t'.mask = 31 /\ t'.dummies = #[] /\ t'.place.size = n /\ order.size = n /\ ∀ k ∈ order.toList, k < n := by
 have e0 : sizeAbove 20 - 1 = 31 := by decide
 obtain ⟨o, g1, g2, g3⟩ := zm2 (mask := 31) (.inr rfl) hashes.toList (Array.replicate 32 none) 0 (by simp) (by decide) (by
  intro j v hv
  rw [xa2, Array.getElem?_replicate] at hv
  split at hv <;> cases hv) (by rw [xaj]; omega)
 rw [xbk, xaj, hn] at g2
 have hl : layClean 31 hashes = some o := by
  unfold layClean
  rw [<- Array.foldl_toList, g1]; rfl
 unfold relaid
 rw [e0]
 unfold laid
 rw [hl]
 refine ⟨_, _, rfl, rfl, rfl, ?_, ?_, ?_⟩
 ·show (List.toArray _).size = n
  rw [xag, xae, zhg, <- g2]; rfl
 ·show (List.toArray _).size = n
  rw [xag, xae, zhg, <- g2]; rfl
 ·intro k hk
  rw [xcz] at hk
  obtain ⟨⟨j, v⟩, hm, rfl⟩ := xav.mp hk
  obtain ⟨i, hi, hv⟩ := xby.mp hm
  cases hx : o.getD i none with
  | none => rw [hx] at hv; cases hv
  | some u =>
   rw [hx] at hv
   have hv : some (i, u) = some (j, v) := hv
   cases hv
   have := g3 _ _ hx
   rw [xbk, xaj, hn] at this
   exact this
end SetT
namespace SetT
open PySem.SetTable
theorem zuI {t : SetTable} : ∀ (k : Nat) (p : Probe), k <= p.more -> (iter t k p).j = p.j + k
 | 0, p, _ => rfl
 | k + 1, p, h => by
  show (iter t k (t.advance p)).j = _
  have e : t.advance p = { p with j := p.j + 1, more := p.more - 1 } := by unfold advance; rw [if_pos (by omega)]
  rw [e, zuI k _ (by show k <= p.more - 1; omega)]
  show p.j + 1 + k = _
  omega
theorem zqS (mask i : Nat) (h : i <= mask) : i + (runEnd mask i - i) <= mask := by unfold runEnd; split <;> omega
theorem zm3 {t : SetTable} : ∀ (k : Nat) (p : Probe), p.j + p.more <= t.mask -> (iter t k p).j <= t.mask
 | 0, p, h => by show p.j <= _; omega
 | k + 1, p, h => by
  show (iter t k (t.advance p)).j <= _
  refine zm3 k _ ?_
  unfold advance
  split
  ·show p.j + 1 + (p.more - 1) <= _; omega
  ·refine zqS _ _ ?_
   show (_ % (t.mask + 1)) <= t.mask
   have := xcv (p.i * 5 + 1 + p.perturb / 32) (show 0 < t.mask + 1 by omega)
   omega
theorem zlJ {t : SetTable} {owner : Array (Option Nat)} : ∀ (fuel i perturb j : Nat), SetTable.layClean.free t.mask owner fuel i perturb = some j ->
  ∃ m, m < 10 * fuel /\ (iter t m (start t.mask i perturb)).j = j /\ (owner.getD j (some 0)).isNone = true /\ ∀ m', m' < m -> (owner.getD (iter t m' (start t.mask i perturb)).j (some 0)).isNone = false := by
 intro fuel
 induction fuel with
 | zero => intro i perturb j h; cases h
 | succ f ih =>
  intro i perturb j h
  unfold SetTable.layClean.free at h
  have hr := zj5 t.mask i
  have jk : ∀ k, k <= runEnd t.mask i - i -> (iter t k (start t.mask i perturb)).j = i + k := fun k hk => zuI k (start t.mask i perturb) hk
  cases hx : (List.range (runEnd t.mask i + 1 - i)).find? fun k => (owner.getD (i + k) (some 0)).isNone with
  | some k =>
   rw [hx] at h
   have h : some (i + k) = some j := h
   cases h
   have hp : (owner.getD (i + k) (some 0)).isNone = true := List.find?_some (p := fun k => (owner.getD (i + k) (some 0)).isNone) hx
   obtain ⟨_, as, bs, e, nb⟩ := List.find?_eq_some_iff_append.mp hx
   have hk : k < runEnd t.mask i + 1 - i := by
    have := List.mem_of_find?_eq_some hx
    exact xaz.mp this
   have re : i <= runEnd t.mask i := by unfold runEnd; split <;> omega
   refine ⟨k, by omega, jk k (by omega), hp, fun m' hm => ?_⟩
   rw [jk m' (by omega)]
   have : m' ∈ as := by
    have e2 : (as ++ k :: bs)[m']? = some m' := by rw [<- e, xb7 (by omega)]
    have ek : as.length = k := by
     have e3 : (as ++ k :: bs)[as.length]? = some k := by rw [xcy (xai _), Nat.sub_self]; rfl
     rw [<- e, xb7] at e3
     ·exact Option.some.inj e3
     ·have := congrArg List.length e
      rw [List.length_range, xbc, xam] at this
      omega
    rw [xce (by omega)] at e2
    exact xbn e2
   simpa using nb m' this
  | none =>
   rw [hx] at h
   have h : SetTable.layClean.free t.mask owner f (leap t.mask i perturb).1 (leap t.mask i perturb).2 = some j := h
   obtain ⟨m, m1, m2, m3, m4⟩ := ih _ _ j h
   have rt : iter t (runEnd t.mask i - i + 1) (start t.mask i perturb) = start t.mask (leap t.mask i perturb).1 (leap t.mask i perturb).2 := zmZ (t := t) _ (start t.mask i perturb) rfl rfl
   have no := List.find?_eq_none.mp hx
   have re : i <= runEnd t.mask i := by unfold runEnd; split <;> omega
   refine ⟨(runEnd t.mask i - i + 1) + m, by omega, by rw [iter_add, rt]; exact m2, m3, fun m' hm => ?_⟩
   by_cases hc : m' <= runEnd t.mask i - i
   ·rw [jk m' hc]
    exact Bool.eq_false_iff.mpr (no m' (xaz.mpr (by omega)))
   ·obtain ⟨u, rfl⟩ : ∃ u, m' = (runEnd t.mask i - i + 1) + u := ⟨m' - (runEnd t.mask i - i + 1), by omega⟩
    rw [iter_add, rt]
    exact m4 u (by omega)
def zxd (t : SetTable) (owner : Array (Option Nat)) (hf : Nat -> Int) (k : Nat) : Prop :=
 ∀ c, c < k -> ∃ j, j <= t.mask /\ owner.getD j none = some c /\ ∃ m, m < 10 * turns t.mask /\ (iter t m (t.probeStart (hf c))).j = j /\ ∀ m', m' < m -> (owner.getD (iter t m' (t.probeStart (hf c))).j none).isSome = true
theorem zhi {t : SetTable} (h : Int) (m : Nat) : (iter t m (t.probeStart h)).j <= t.mask := by
 refine zm3 m _ ?_
 show bits h % (t.mask + 1) + (runEnd t.mask (bits h % (t.mask + 1)) - bits h % (t.mask + 1)) <= t.mask
 refine zqS _ _ ?_
 have := xcv (bits h) (show 0 < t.mask + 1 by omega)
 omega
theorem zij {t : SetTable} (hf : Nat -> Int) : ∀ (hs : List Int) (owner owner' : Array (Option Nat)) (k k' : Nat), owner.size = t.mask + 1 -> (∀ i, i < hs.length -> hs[i]? = some (hf (k + i))) -> zxd t owner hf k ->
  hs.foldl (fun acc h => do
   let (owner, k) <- acc
   let j <- SetTable.layClean.free t.mask owner (turns t.mask) (bits h % (t.mask + 1)) (bits h)
   pure (owner.setIfInBounds j (some k), k + 1)) (some (owner, k)) = some (owner', k') -> owner'.size = t.mask + 1 /\ zxd t owner' hf (k + hs.length)
 | [], owner, owner', k, k', h1, _, h3, e => by
  have e : some (owner, k) = some (owner', k') := e
  cases e
  exact ⟨h1, h3⟩
 | h :: hs, owner, owner', k, k', h1, h2, h3, e => by
  rw [xb5] at e
  have hh : hf k = h := by have := h2 0 (by simp); simpa using this.symm
  cases hfr : SetTable.layClean.free t.mask owner (turns t.mask) (bits h % (t.mask + 1)) (bits h) with
  | none =>
   exfalso
   have e1 : (do
    let (owner, k) <- some (owner, k)
    let j <- SetTable.layClean.free t.mask owner (turns t.mask) (bits h % (t.mask + 1)) (bits h)
    pure (owner.setIfInBounds j (some k), k + 1)) = (none : Option (Array (Option Nat) × Nat)) := by
    show (SetTable.layClean.free t.mask owner (turns t.mask) (bits h % (t.mask + 1)) (bits h)).bind _ = _
    rw [hfr]; rfl
   rw [e1] at e
   have nn : ∀ l : List Int, l.foldl (fun acc h => do
    let (owner, k) <- acc
    let j <- SetTable.layClean.free t.mask owner (turns t.mask) (bits h % (t.mask + 1)) (bits h)
    pure (owner.setIfInBounds j (some k), k + 1)) (none : Option (Array (Option Nat) × Nat)) = none := by
    intro l
    induction l with
    | nil => rfl
    | cons a l ih => rw [xb5]; exact ih
   rw [nn] at e
   cases e
  | some j' =>
   have e1 : (do
    let (owner, k) <- some (owner, k)
    let j <- SetTable.layClean.free t.mask owner (turns t.mask) (bits h % (t.mask + 1)) (bits h)
    pure (owner.setIfInBounds j (some k), k + 1)) = some (owner.setIfInBounds j' (some k), k + 1) := by
    show (SetTable.layClean.free t.mask owner (turns t.mask) (bits h % (t.mask + 1)) (bits h)).bind _ = _
    rw [hfr]; rfl
   rw [e1] at e
   obtain ⟨m, m1, m2, m3, m4⟩ := zlJ (t := t) _ _ _ _ hfr
   have m2 : (iter t m (t.probeStart h)).j = j' := m2
   have m4 : ∀ m', m' < m -> (owner.getD (iter t m' (t.probeStart h)).j (some 0)).isNone = false := m4
   have jl : j' <= t.mask := by rw [<- m2]; exact zhi h m
   have hn : owner.getD j' none = none := by
    rw [zhh (by omega) none (some 0)]
    exact Option.isNone_iff_eq_none.mp m3
   have hset : ∀ i, (owner.setIfInBounds j' (some k)).getD i none = if i = j' then some k else owner.getD i none := by
    intro i
    rw [xa2, xa2, Array.getElem?_setIfInBounds]
    by_cases e : i = j'
    ·subst e; rw [if_pos rfl, if_pos rfl, if_pos (by omega)]; rfl
    ·rw [if_neg (xba e), if_neg e]
   have keep : ∀ i, (owner.getD i none).isSome = true -> ((owner.setIfInBounds j' (some k)).getD i none).isSome = true := fun i hi => by
    rw [hset]; split
    ·rfl
    ·exact hi
   have L2 : zxd t (owner.setIfInBounds j' (some k)) hf (k + 1) := by
    intro c hc
    by_cases ec : c = k
    ·subst ec
     refine ⟨j', jl, by rw [hset, if_pos rfl], m, m1, by rw [hh]; exact m2, fun m' hm => ?_⟩
     rw [hh]
     refine keep _ ?_
     have := m4 m' hm
     rw [zhh (by have := zhi (t := t) h m'; omega) none (some 0)]
     cases hx : owner.getD (iter t m' (t.probeStart h)).j (some 0) with
     | none => rw [hx] at this; cases this
     | some _ => rfl
    ·obtain ⟨j, j1, j2, m, n1, n2, n3⟩ := h3 c (by omega)
     refine ⟨j, j1, ?_, m, n1, n2, fun m' hm => keep _ (n3 m' hm)⟩
     rw [hset, if_neg (fun z => by rw [z, hn] at j2; cases j2)]
     exact j2
   have := zij hf hs _ owner' (k + 1) k' (by rw [Array.size_setIfInBounds]; exact h1) (fun i hi => by
    have := h2 (i + 1) (by simp; omega)
    rw [xde] at this
    rw [this, show k + (i + 1) = k + 1 + i by omega]) L2 e
   rw [xam, show k + (hs.length + 1) = k + 1 + hs.length by omega]
   exact this
theorem fm_get {α β : Type} (f : α -> Option β) : ∀ (l : List α), (∀ a ∈ l, (f a).isSome = true) -> ∀ i : Nat, (l.filterMap f)[i]? = (l[i]?).bind f
 | [], _, i => by simp
 | a :: l, h, i => by
  obtain ⟨b, hb⟩ := xbi.mp (h a xab)
  rw [xa8 hb]
  cases i with
  | zero => simp [hb]
  | succ i => rw [xde, xde]; exact fm_get f l (fun x hx => h x (xad _ hx)) i
theorem zm4 {β : Type} (f : Nat -> Option β) : ∀ l : List Nat, l.Pairwise (· < ·) -> ((l.filterMap fun j => (f j).map (j, ·)).map (·.1)).Pairwise (· < ·)
 | [], _ => List.Pairwise.nil
 | a :: l, h => by
  rw [xbt] at h
  cases e : f a with
  | none => rw [xbl (by rw [e]; rfl)]; exact zm4 f l h.2
  | some b =>
   rw [xa8 (b := (a, b)) (by rw [e]; rfl), xa0, xbt]
   refine ⟨fun x hx => ?_, zm4 f l h.2⟩
   obtain ⟨⟨j, v⟩, hm, rfl⟩ := xav.mp hx
   obtain ⟨i, hi, hv⟩ := xby.mp hm
   cases hx : f i with
   | none => rw [hx] at hv; cases hv
   | some u =>
    rw [hx] at hv
    have hv : some (i, u) = some (j, v) := hv
    cases hv
    exact h.1 _ hi
theorem zqT {β : Type} {f : Nat -> Option β} {l : List Nat} {j : Nat} {b : β} (hj : j ∈ l) (hb : f j = some b) : (j, b) ∈ l.filterMap fun j => (f j).map (j, ·) := xby.mpr ⟨j, hj, by rw [hb]; rfl⟩
end SetT
namespace TxtA
open PySem.StrLaws PySem.Builtin.Str
def flat (y : List Nat) : List (List Nat) -> List Nat
 | [] => []
 | [r] => r
 | r :: r' :: rs => r ++ y ++ flat y (r' :: rs)
end TxtA
namespace DL
open L2
inductive D where
 | non | bl (b : Bool) | int (i : Int) | str (x : Str) | ty (n : String) | cls (c : Str)
 | tup (xs : List D) | lst (xs : List D) | dct (ks : List Key) (vs : List D) | exc (c : Str) (as : List D)
instance : Inhabited D := ⟨.non⟩
inductive R (α : Type) where
 | ok (a : α) | err (e : D) | bad
def R.bind {α β : Type} : R α -> (α -> R β) -> R β
 | .ok a, k => k a
 | .err e, _ => .err e
 | .bad, _ => .bad
def RW {α : Type} (r : R α) (Q : α -> Prop) (E : D -> Prop) : Prop := match r with
 | .ok a => Q a
 | .err e => E e
 | .bad => False
theorem RW.mono {α : Type} {r : R α} {Q Q' : α -> Prop} {E E' : D -> Prop} (h : RW r Q E) (hq : ∀ a, r = .ok a -> Q a -> Q' a) (he : ∀ e, E e -> E' e) : RW r Q' E' := by
 cases r with
 | ok a => exact hq a rfl h
 | err e => exact he e h
 | bad => exact h
theorem RW.of_bind {α β : Type} {r : R α} {k : α -> R β} {Q : β -> Prop} {E : D -> Prop} (h : RW (r.bind k) Q E) : RW r (fun a => RW (k a) Q E) E := by
 cases r with
 | ok a => exact h
 | err e => exact h
 | bad => exact h
def zb4 : List Str := ["ChalkError", "NoPlace", "Same", "NoFloor", "Endless", "NoDeed", "NoText", "NoName", "TooMany", "NoChange", "NoFrame", "NoValue", "Unlike", "NoRatio", "NoBow", "NoRow"]
def zqU (c d : Str) : Option Bool := bif zb4.contains c && zb4.contains d then some (c == d || d == "ChalkError") else none
structure zo3 (K : xFg) (mg : Str -> Option Value) (c : Str) (C : Addr) : Prop where
 here : mg c = some (.ref C)
 exc : ztF K C
 isi : ∀ d Dd b, zqU c d = some b -> mg d = some (.ref Dd) -> PySem.W.kitOne K (.ref C) (.ref Dd) = some b
 val : PySem.W.kitOne K (.ref C) (.type "ValueError") = some true
 ctc : ∀ d Dd, zqU c d = some true -> mg d = some (.ref Dd) -> PySem.W.exmOne K (.ref C) (.ref Dd) = some true
def zm5 (G : Hp) (dct : Option Addr) (vs : List V) : Prop := (dct = none /\ vs = []) \/ ∃ dx v, dct = some dx /\ vs = [v] /\ G dx = some (.xd [("at", v)])
mutual
def Rep (K : xFg) (mg : Str -> Option Value) (G : Hp) : D -> V -> Prop
 | .non, v => v = .non
 | .bl b, v => v = .bl b
 | .int i, v => v = .int i
 | .str x, v => v = .str x
 | .ty n, v => v = .ty n
 | .cls c, v => ∃ C, v = .ref C /\ mg c = some (.ref C)
 | .tup ds, v => ∃ a vs, v = .ref a /\ SqT K G a vs /\ Reps K mg G ds vs
 | .lst ds, v => ∃ a vs, v = .ref a /\ SqL K G a vs /\ Reps K mg G ds vs
 | .dct ks ds, v => ∃ a vs, v = .ref a /\ Rd G a (.dK (ks.zip vs)) /\ ks.length = vs.length /\ Reps K mg G ds vs
 | .exc c as, v => ∃ x C dct vs, v = .ref x /\ G x = some (zwm x C dct) /\ zo3 K mg c C /\ zm5 G dct vs /\ Reps K mg G as vs
def Reps (K : xFg) (mg : Str -> Option Value) (G : Hp) : List D -> List V -> Prop
 | [], vs => vs = []
 | d :: ds, vs => ∃ v r, vs = v :: r /\ Rep K mg G d v /\ Reps K mg G ds r
end
def ExcR (K : xFg) (mg : Str -> Option Value) (G : Hp) (e : D) (C : Addr) (dct : Option Addr) : Prop := ∃ c as vs, e = .exc c as /\ zo3 K mg c C /\ zm5 G dct vs /\ Reps K mg G as vs
section
variable {K : xFg} {mg : Str -> Option Value} {G G' H H' : Hp}
theorem zai.sqT {a : Addr} {xs : List V} (e : zai G G') (h : SqT K G a xs) : SqT K G' a xs := e.tup h
theorem zai.rd {a : Addr} {u : HO} (e : zai G G') (h : Rd G a u) : Rd G' a u := by
 rcases h with h | ⟨o, h⟩
 ·exact .inl (e _ _ h)
 ·exact .inr ⟨o, e _ _ h⟩
theorem zm5.mono {dct : Option Addr} {vs : List V} (e : zai G G') (h : zm5 G dct vs) : zm5 G' dct vs := by
 rcases h with h | ⟨dx, v, h1, h2, h3⟩
 ·exact .inl h
 ·exact .inr ⟨dx, v, h1, h2, e _ _ h3⟩
mutual
theorem Rep.mono (e : zai G G') : ∀ {d : D} {v : V}, Rep K mg G d v -> Rep K mg G' d v
 | .non, _, h => h
 | .bl _, _, h => h
 | .int _, _, h => h
 | .str _, _, h => h
 | .ty _, _, h => h
 | .cls _, _, h => h
 | .tup _, _, ⟨a, vs, h1, h2, h3⟩ => ⟨a, vs, h1, zai.sqT e h2, Reps.mono e h3⟩
 | .lst _, _, ⟨a, vs, h1, h2, h3⟩ => ⟨a, vs, h1, e.seq h2, Reps.mono e h3⟩
 | .dct _ _, _, ⟨a, vs, h1, h2, h3, h4⟩ => ⟨a, vs, h1, zai.rd e h2, h3, Reps.mono e h4⟩
 | .exc _ _, _, ⟨x, C, dct, vs, h1, h2, h3, h4, h5⟩ => ⟨x, C, dct, vs, h1, e _ _ h2, h3, h4.mono e, Reps.mono e h5⟩
theorem Reps.mono (e : zai G G') : ∀ {ds : List D} {vs : List V}, Reps K mg G ds vs -> Reps K mg G' ds vs
 | [], _, h => h
 | _ :: _, _, ⟨v, r, h1, h2, h3⟩ => ⟨v, r, h1, Rep.mono e h2, Reps.mono e h3⟩
end
theorem Reps.length : ∀ {ds : List D} {vs : List V}, Reps K mg G ds vs -> ds.length = vs.length
 | [], _, h => by cases h; rfl
 | _ :: _, _, ⟨v, r, h1, _, h3⟩ => by cases h1; rw [xam, xam, Reps.length h3]
theorem Reps.nil : Reps K mg G [] [] := rfl
theorem Reps.cons {d : D} {v : V} {ds : List D} {vs : List V} (h : Rep K mg G d v) (t : Reps K mg G ds vs) : Reps K mg G (d :: ds) (v :: vs) := ⟨v, vs, rfl, h, t⟩
theorem Reps.append : ∀ {ds es : List D} {vs ws : List V}, Reps K mg G ds vs -> Reps K mg G es ws -> Reps K mg G (ds ++ es) (vs ++ ws)
 | [], _, _, _, h, t => by cases h; exact t
 | _ :: _, _, _, _, ⟨v, r, h1, h2, h3⟩, t => by cases h1; exact ⟨v, r ++ _, rfl, h2, h3.append t⟩
theorem Reps.get : ∀ {ds : List D} {vs : List V} {i : Nat} {d : D}, Reps K mg G ds vs -> ds[i]? = some d -> ∃ v, vs[i]? = some v /\ Rep K mg G d v
 | [], _, _, _, _, e => by simp at e
 | _ :: _, _, 0, _, ⟨v, r, h1, h2, _⟩, e => by simp at e; subst e; subst h1; exact ⟨v, rfl, h2⟩
 | _ :: ds, _, i + 1, d, ⟨v, r, h1, _, h3⟩, e => by
  subst h1
  obtain ⟨w, e1, e2⟩ := Reps.get (i := i) (d := d) h3 (by simpa using e)
  exact ⟨w, by simpa using e1, e2⟩
theorem Reps.set : ∀ {ds : List D} {vs : List V} {d : D} {v : V} (i : Nat), Reps K mg G ds vs -> Rep K mg G d v -> Reps K mg G (ds.set i d) (vs.set i v)
 | [], _, _, _, _, h, _ => by cases h; exact rfl
 | _ :: _, _, _, _, 0, ⟨_, r, h1, _, h3⟩, h => by subst h1; exact ⟨_, r, rfl, h, h3⟩
 | _ :: _, _, _, _, i + 1, ⟨w, r, h1, h2, h3⟩, h => by subst h1; exact ⟨w, _, rfl, h2, h3.set i h⟩
theorem Reps.drop : ∀ {ds : List D} {vs : List V} (n : Nat), Reps K mg G ds vs -> Reps K mg G (ds.drop n) (vs.drop n)
 | _, _, 0, h => h
 | [], _, _ + 1, h => by cases h; exact rfl
 | _ :: _, _, n + 1, ⟨_, _, h1, _, h3⟩ => by subst h1; exact h3.drop n
theorem Reps.take : ∀ {ds : List D} {vs : List V} (n : Nat), Reps K mg G ds vs -> Reps K mg G (ds.take n) (vs.take n)
 | _, _, 0, h => by simp only [List.take_zero]; exact rfl
 | [], _, _ + 1, h => by cases h; exact rfl
 | _ :: _, _, n + 1, ⟨v, _, h1, h2, h3⟩ => by subst h1; exact ⟨v, _, rfl, h2, h3.take n⟩
theorem Reps.ints (ns : List Int) : Reps K mg G (ns.map D.int) (ns.map V.int) := by
 induction ns with
 | nil => exact rfl
 | cons n r ih => exact ⟨_, _, rfl, rfl, ih⟩
theorem Reps.of_ints : ∀ {ns : List Int} {vs : List V}, Reps K mg G (ns.map D.int) vs -> vs = ns.map V.int
 | [], _, h => h
 | _ :: _, _, ⟨_, _, h1, h2, h3⟩ => by subst h1; cases h2; rw [Reps.of_ints h3]; rfl
theorem Reps.of_bools : ∀ {bs : List Bool} {vs : List V}, Reps K mg G (bs.map D.bl) vs -> vs = bs.map V.bl
 | [], _, h => h
 | _ :: _, _, ⟨_, _, h1, h2, h3⟩ => by subst h1; cases h2; rw [Reps.of_bools h3]; rfl
theorem Reps.at {ds : List D} {vs : List V} {i : Int} {d : D} (h : Reps K mg G ds vs) (e : atI ds i = some d) : ∃ v, atI vs i = some v /\ Rep K mg G d v := by
 unfold atI at e ⊢
 rw [h.length] at e
 cases q : ixN vs.length i with
 | none => rw [q] at e; cases e
 | some j => rw [q] at e; exact h.get e
structure zaS (G H G' H' : Hp) : Prop where
 g : zai G G'
 h : zai H H'
 e : zai G' H'
 c : ∀ a o, H a = some o -> G a = none -> G' a = none
theorem zaS.refl (e : zai G H) : zaS G H G H := ⟨zai.refl _, zai.refl _, e, fun _ _ _ h => h⟩
theorem zaS.trans {G1 H1 : Hp} (a : zaS G H G1 H1) (b : zaS G1 H1 G' H') : zaS G H G' H' :=
 ⟨a.g.trans b.g, a.h.trans b.h, b.e, fun x o p q => b.c x o (a.h x o p) (a.c x o p q)⟩
theorem zbd {p : Addr} {o : HO} (h : H p = none) : zai H (upd H p o) := zpo h o
theorem zaS.pub {p : Addr} {o : HO} (e : zai G H) (h : H p = none) : zaS G H (upd G p o) (upd H p o) := by
 refine ⟨zbd (e.free h), zbd h, fun b u q => ?_, fun a u p1 q1 => ?_⟩
 ·by_cases hb : b = p
  ·subst hb; rw [zae] at q ⊢; exact q
  ·rw [zah hb] at q ⊢; exact e b u q
 ·have hb : a ≠ p := zad p1 h
  rw [zah hb]; exact q1
theorem zaS.hid {p : Addr} {o : HO} (e : zai G H) (h : H p = none) : zaS G H G (upd H p o) :=
 ⟨zai.refl _, zbd h, e.trans (zbd h), fun _ _ _ q => q⟩
theorem zaS.heap (e : zai G H) (h : zai H H') : zaS G H G H' := ⟨zai.refl _, h, e.trans h, fun _ _ _ q => q⟩
end
abbrev DSt := List (Option D)
structure Ok0 (K : xFg) (mg : Str -> Option Value) (Ud : DSt) (U : St) (G H : Hp) : Prop where
 ext : zai G H
 len : Ud.length = U.length
 val : ∀ (i : Nat) (d : D), Ud[i]? = some (some d) -> ∃ v, U[i]? = some (some v) /\ Rep K mg G d v
section
variable {K : xFg} {mg : Str -> Option Value} {G G' H H' : Hp} {Ud : DSt} {U : St}
theorem Ok0.step (o : Ok0 K mg Ud U G H) (s : zaS G H G' H') : Ok0 K mg Ud U G' H' :=
 ⟨s.e, o.len, fun i d q => let ⟨v, h1, h2⟩ := o.val i d q; ⟨v, h1, h2.mono s.g⟩⟩
theorem Ok0.set {i : Nat} {d : D} {v : V} (o : Ok0 K mg Ud U G H) (h : Rep K mg G d v) : Ok0 K mg (Ud.set i (some d)) (U.set i (some v)) G H := by
 refine ⟨o.ext, by simp [o.len], fun j e q => ?_⟩
 by_cases hj : j = i
 ·subst hj
  have hl : j < Ud.length := by have := (xah.mp q).1; simpa using this
  rw [xa7 hl] at q
  cases q
  exact ⟨v, by rw [xa7 (by rw [<- o.len]; exact hl)], h⟩
 ·rw [xau (xba hj)] at q ⊢
  exact o.val j e q
theorem Ok0.cons {x : Option D} {y : Option V} (o : Ok0 K mg Ud U G H) (h : ∀ d, x = some d -> ∃ v, y = some v /\ Rep K mg G d v) : Ok0 K mg (x :: Ud) (y :: U) G H := by
 refine ⟨o.ext, by simp [o.len], fun j e q => ?_⟩
 cases j with
 | zero =>
  have q' : x = some e := by simpa using q
  obtain ⟨v, h1, h2⟩ := h e q'
  exact ⟨v, by simp [h1], h2⟩
 | succ j => exact o.val j e (by simpa using q)
theorem Ok0.nones (o : Ok0 K mg Ud U G H) : ∀ k : Nat, Ok0 K mg (List.replicate k none ++ Ud) (List.replicate k none ++ U) G H
 | 0 => o
 | k + 1 => (Ok0.nones o k).cons (x := none) (y := none) (fun d e => by cases e)
end
section
variable (K : xFg) (mg : Str -> Option Value) (E : XK)
def zag (Q : VK) (G H : Hp) (d : D) : Prop := ∀ v G' H', zaS G H G' H' -> Rep K mg G' d v -> Q v H'
def zdR (Q : Bool -> Hp -> Prop) (G H : Hp) (b : Bool) : Prop := ∀ G' H', zaS G H G' H' -> Q b H'
def zj7 (Q : List V -> Hp -> Prop) (G H : Hp) (ds : List D) : Prop := ∀ vs G' H', zaS G H G' H' -> Reps K mg G' ds vs -> Q vs H'
def zc1 (Q : VK) (G H : Hp) (ds : List D) : Prop := ∀ a vs G' H', zaS G H G' H' -> H a = none -> H' a = some (.lst vs) -> G' a = none -> Reps K mg G' ds vs -> Q (.ref a) H'
def zau (G H : Hp) (e : D) : Prop := ∀ G' H' C dct, zaS G H G' H' -> ExcR K mg G' e C dct -> E (.ref C) dct H'
def tE (f : DSt -> R D) : TE := fun U H Q => ∃ G Ud, Ok0 K mg Ud U G H /\ RW (f Ud) (zag K mg Q G H) (zau K mg E G H)
def tT (f : DSt -> R Bool) : TT := fun U H Q => ∃ G Ud, Ok0 K mg Ud U G H /\ RW (f Ud) (zdR Q G H) (zau K mg E G H)
def tAr (f : DSt -> R (List D)) : TA := fun U H Q => ∃ G Ud, Ok0 K mg Ud U G H /\ RW (f Ud) (zj7 K mg Q G H) (zau K mg E G H)
def tFr (f : DSt -> R (List D)) : TE := fun U H Q => ∃ G Ud, Ok0 K mg Ud U G H /\ RW (f Ud) (zc1 K mg Q G H) (zau K mg E G H)
end
def DE (X : Cx) (E : XK) (e : Expr) (f : DSt -> R D) : Prop := PE X e (tE X.K X.mg E f)
def DT (X : Cx) (E : XK) (e : Expr) (f : DSt -> R Bool) : Prop := PT X e (tT X.K X.mg E f)
def DW (X : Cx) (E : XK) (e : Expr) (f : DSt -> R Bool) : Prop := PW X e (tT X.K X.mg E f)
def DA (X : Cx) (E : XK) (es : List Expr) (f : DSt -> R (List D)) : Prop := PA X es (tAr X.K X.mg E f)
def DF (X : Cx) (E : XK) (e : Expr) (f : DSt -> R (List D)) : Prop := PE X e (tFr X.K X.mg E f)
section
variable {X : Cx} {E : XK} {K : xFg} {mg : Str -> Option Value} {G G1 H H1 : Hp}
theorem PE.mono' {e : Expr} {t t' : TE} (h : PE X e t) (m : ∀ U H Q, t' U H Q -> t U H Q) : PE X e t' := fun pins s U H Q I q => h pins s U H Q I (m U H Q q)
theorem PT.mono' {e : Expr} {t t' : TT} (h : PT X e t) (m : ∀ U H Q, t' U H Q -> t U H Q) : PT X e t' := fun pins s U H Q I q => h pins s U H Q I (m U H Q q)
theorem PW.mono' {e : Expr} {t t' : TT} (h : PW X e t) (m : ∀ U H Q, t' U H Q -> t U H Q) : PW X e t' := fun wh pins s U H Q I q => h wh pins s U H Q I (m U H Q q)
theorem PA.mono' {es : List Expr} {t t' : TA} (h : PA X es t) (m : ∀ U H Q, t' U H Q -> t U H Q) : PA X es t' := fun pos pins s U H Q I q => h pos pins s U H Q I (m U H Q q)
theorem PS.mono' {st : Stmt} {t t' : TS} (h : PS X st t) (m : ∀ D U H, t' D U H -> t D U H) : PS X st t' := fun pins s U H D I q => h pins s U H D I (m D U H q)
theorem PSs.mono' {st : List Stmt} {t t' : TS} (h : PSs X st t) (m : ∀ D U H, t' D U H -> t D U H) : PSs X st t' := fun pins s U H D I q => h pins s U H D I (m D U H q)
theorem zag.step {Q : VK} {d : D} (h : zag K mg Q G H d) (s : zaS G H G1 H1) : zag K mg Q G1 H1 d := fun v G' H' s' r => h v G' H' (s.trans s') r
theorem zau.step {e : D} (h : zau K mg E G H e) (s : zaS G H G1 H1) : zau K mg E G1 H1 e := fun G' H' C dct s' r => h G' H' C dct (s.trans s') r
theorem zdR.step {Q : Bool -> Hp -> Prop} {b : Bool} (h : zdR Q G H b) (s : zaS G H G1 H1) : zdR Q G1 H1 b := fun G' H' s' => h G' H' (s.trans s')
theorem zc1.step {Q : VK} {ds : List D} (h : zc1 K mg Q G H ds) (s : zaS G H G1 H1) : zc1 K mg Q G1 H1 ds := fun a vs G' H' s' n e g r => h a vs G' H' (s.trans s') (s.h.free n) e g r
theorem zag.now {Q : VK} {d : D} {v : V} (h : zag K mg Q G H d) (e : zai G H) (r : Rep K mg G d v) : Q v H := h v G H (.refl e) r
theorem DF.de {e : Expr} {f : DSt -> R (List D)} (h : DF X E e f) : DE X E e (fun U => (f U).bind fun ds => .ok (.lst ds)) := by
 refine PE.mono' h fun U H Q ⟨G, Ud, ok, q⟩ => ⟨G, Ud, ok, q.of_bind.mono (fun ds _ q => ?_) fun _ z => z⟩
 intro a vs G' H' s n e g r
 have q' : zag X.K X.mg Q G H (.lst ds) := q
 have sg : zai G' (upd G' a (.lst vs)) := zbd g
 refine q' (.ref a) (upd G' a (.lst vs)) H' ⟨s.g.trans sg, s.h, fun b u p => ?_, fun b u p1 p2 => ?_⟩ ⟨a, vs, rfl, SqL.of zae, r.mono sg⟩
 ·by_cases hb : b = a
  ·subst hb; rw [zae] at p; cases p; exact e
  ·rw [zah hb] at p; exact s.e b u p
 ·have hb : b ≠ a := zad p1 n
  rw [zah hb]; exact s.c b u p1 p2
def zac (i : Nat) : DSt -> R D := fun U => match U[i]? with
 | some (some d) => .ok d
 | _ => .bad
theorem zuJ (i : Nat) {x : Str} {pos : Pos} (hN : X.N[i]? = some x := by rfl) (hv : Vis X.env.scope x := by first | exact Or.inl rfl | exact Or.inr (Or.inl rfl) | exact Or.inr (Or.inr rfl)) (hd : (x == ("__debug__" : Str)) = false := by decide)
  (hcd : (x == ("__classdict__" : Str)) = false := by decide) : DE X E (.Name x pos) (zac i) := by
 refine PE.mono' (pv i hN hv hd hcd) fun U H Q ⟨G, Ud, ok, q⟩ => ?_
 unfold zac at q
 split at q
 ·rename_i d e
  obtain ⟨v, h1, h2⟩ := ok.val i d e
  exact ⟨v, h1, zag.now q ok.ext h2⟩
 ·exact q.elim
def eC (d : D) : DSt -> R D := fun _ => .ok d
theorem zgF {i j pos} : DE X E (.Constant (.int i) j pos) (eC (.int i)) := PE.mono' zqF fun _ _ _ ⟨_, _, ok, q⟩ => zag.now q ok.ext rfl
theorem zuK {b j pos} : DE X E (.Constant (.bool b) j pos) (eC (.bl b)) := PE.mono' zwy fun _ _ _ ⟨_, _, ok, q⟩ => zag.now q ok.ext rfl
theorem zj8 {j pos} : DE X E (.Constant .none j pos) (eC .non) := PE.mono' ztV fun _ _ _ ⟨_, _, ok, q⟩ => zag.now q ok.ext rfl
theorem zm6 {x j pos} : DE X E (.Constant (.str x) j pos) (eC (.str x)) := PE.mono' ztW fun _ _ _ ⟨_, _, ok, q⟩ => zag.now q ok.ext rfl
theorem zsw {x : Str} {d : D} {v : V} {u : Value} {pos : Pos} (hm : X.mg x = some u) (r : RelV v u) (rp : ∀ G, Rep X.K X.mg G d v) (hg : Gl X x := by rfl) (hd : (x == ("__debug__" : Str)) = false := by decide) : DE X E (.Name x pos) (eC d) :=
 PE.mono' (zrX hg hm r hd) fun _ _ _ ⟨_, _, ok, q⟩ => zag.now q ok.ext (rp _)
theorem zpL {x : Str} {n : String} {pos : Pos} (hm : X.mg x = none) (hv : bootBuiltins x = some (.type n) := by rfl) (hg : Gl X x := by rfl) (hn : x ≠ "__name__" := by decide) (hd : (x == ("__debug__" : Str)) = false := by decide) : DE X E (.Name x pos) (eC (.ty n)) :=
 PE.mono' (zrY hg hm hv (v := .ty n) rfl hn hd) fun _ _ _ ⟨_, _, ok, q⟩ => zag.now q ok.ext rfl
def zxe {α : Type} : DSt -> R α := fun _ => .bad
def OpD (K : xFg) (mg : Str -> Option Value) (r : R2) (g : D -> D -> R D) : Prop :=
 ∀ (G H : Hp) (a b : D) (x y : V) (Q : VK), zai G H -> Rep K mg G a x -> Rep K mg G b y -> RW (g a b) (zag K mg Q G H) (fun _ => False) -> r x y H Q
def eOp (g : D -> D -> R D) (fa fb : DSt -> R D) : DSt -> R D := fun U => (fa U).bind fun x => (fb U).bind fun y => g x y
theorem zbR {f : DSt -> R D} {α : Type} {k : D -> R α} {U : St} {H : Hp} {Q : VK} {P : Hp -> Hp -> α -> Prop} {G : Hp} {Ud : DSt}
  (ok : Ok0 K mg Ud U G H) (q : RW ((f Ud).bind k) (P G H) (zau K mg E G H))
  (h : ∀ d v G' H', zaS G H G' H' -> Ok0 K mg Ud U G' H' -> Rep K mg G' d v -> RW (k d) (P G H) (zau K mg E G' H') -> Q v H') : tE K mg E f U H Q :=
 ⟨G, Ud, ok, q.of_bind.mono (fun d _ q v G' H' s r => h d v G' H' s (ok.step s) r (q.mono (fun _ _ z => z) fun e z => z.step s)) fun _ z => z⟩
theorem noX {α : Type} {r : R α} {Q : α -> Prop} {E' : D -> Prop} (hr : ∀ e, r ≠ .err e) (h : RW r Q E') : RW r Q (fun _ => False) := by
 cases r with
 | ok a => exact h
 | err e => exact absurd rfl (hr e)
 | bad => exact h
def zew (g : D -> D -> R D) : Prop := ∀ a b e, g a b ≠ .err e
theorem zj9 {r : R2} {g : D -> D -> R D} (hd : OpD X.K X.mg r g) (hn : zew g) {fa fb : DSt -> R D} {U : St} {H : Hp} {Q : VK} (h : tE X.K X.mg E (eOp g fa fb) U H Q) : tOp r (tE X.K X.mg E fa) (tE X.K X.mg E fb) U H Q := by
 obtain ⟨G, Ud, ok, q⟩ := h
 refine zbR (P := zag X.K X.mg Q) ok q fun a x G1 H1 s1 ok1 r1 q1 => ?_
 refine zbR (P := fun _ _ => zag X.K X.mg Q G H) ok1 q1 fun b y G2 H2 s2 ok2 r2 q2 => ?_
 exact hd G2 H2 a b x y Q ok2.ext (r1.mono s2.g) r2 (noX (hn a b) (q2.mono (fun _ _ z => z.step (s1.trans s2)) fun _ z => z))
variable {a b c : Expr} {fa fb fc : DSt -> R D} {pos : Pos}
theorem zjq {op : Operator} {r : R2} {g : D -> D -> R D} (ho : OpR X (binaryOp op) r) (hd : OpD X.K X.mg r g) (hn : zew g) (ha : DE X E a fa) (hb : DE X E b fb) : DE X E (.BinOp a op b pos) (eOp g fa fb) :=
 PE.mono' (zwH ho ha hb) fun _ _ _ h => zj9 hd hn h
theorem zuL {op : CmpOp} {r : R2} {g : D -> D -> R D} (ho : OpR X (compareOp op) r) (hd : OpD X.K X.mg r g) (hn : zew g) (ha : DE X E a fa) (hb : DE X E b fb) (hm : behindInMarks op b = false := by first | exact zaz _ (by decide) (by decide) | rfl) : DE X E (.Compare a [op] [b] pos) (eOp g fa fb) :=
 PE.mono' (zr5 ho ha hb hm) fun _ _ _ h => zj9 hd hn h
def asB : D -> R Bool
 | .bl b => .ok b
 | _ => .bad
def zaq (f : DSt -> R D) : DSt -> R Bool := fun U => (f U).bind asB
theorem zhj {t : TE} {f : DSt -> R D} (h : ∀ U H Q, tE X.K X.mg E f U H Q -> t U H Q) {U : St} {H : Hp} {Q : Bool -> Hp -> Prop} (q : tT X.K X.mg E (zaq f) U H Q) : zr6 t U H Q := by
 obtain ⟨G, Ud, ok, q⟩ := q
 refine h U H _ ⟨G, Ud, ok, q.of_bind.mono (fun d _ q v G' H' s r => ?_) fun _ z => z⟩
 cases d with
 | bl k => cases r; exact ⟨k, rfl, (show zdR Q G H k from q) G' H' s⟩
 | _ => exact (show False from q).elim
theorem zuM {op : CmpOp} {r : R2} {g : D -> D -> R D} (ho : OpR X (compareOp op) r) (hd : OpD X.K X.mg r g) (hn : zew g) (ha : DE X E a fa) (hb : DE X E b fb) (hm : behindInMarks op b = false := by first | exact zaz _ (by decide) (by decide) | rfl) : DT X E (.Compare a [op] [b] pos) (zaq (eOp g fa fb)) :=
 PT.mono' (zr7 ho ha hb hm) fun _ _ _ q => zhj (fun _ _ _ h => zj9 hd hn h) q
def zik (g g' : D -> D -> R D) (fa fb fc : DSt -> R D) : DSt -> R D := fun U => (fa U).bind fun x => (fb U).bind fun y => (g x y).bind fun z => (asB z).bind fun k => bif k then (fc U).bind fun w => g' y w else .ok (.bl false)
theorem zm7 {r r' : R2} {g g' : D -> D -> R D} (hd : OpD X.K X.mg r g) (hn : zew g) (hd' : OpD X.K X.mg r' g') (hn' : zew g') {U : St} {H : Hp} {Q : VK} (h : tE X.K X.mg E (zik g g' fa fb fc) U H Q) :
  zqK r r' (tE X.K X.mg E fa) (tE X.K X.mg E fb) (tE X.K X.mg E fc) U H Q := by
 obtain ⟨G, Ud, ok, q⟩ := h
 refine zbR (P := zag X.K X.mg Q) ok q fun a x G1 H1 s1 ok1 r1 q1 => ?_
 refine zbR (P := fun _ _ => zag X.K X.mg Q G H) ok1 q1 fun b y G2 H2 s2 ok2 r2 q2 => ?_
 refine hd G2 H2 a b x y _ ok2.ext (r1.mono s2.g) r2 ?_
 have s12 := s1.trans s2
 cases ez : g a b with
 | bad => rw [ez] at q2; exact q2.elim
 | err e => exact absurd ez (hn a b e)
 | ok z =>
  rw [ez] at q2
  intro v G3 H3 s3 r3
  cases z with
  | bl k =>
   cases r3
   have ok3 := ok2.step s3
   have s13 := s12.trans s3
   refine ⟨k, rfl, ?_⟩
   cases k with
   | false =>
    rw [if_neg xaw]
    have q3 : zag X.K X.mg Q G H (.bl false) := q2
    exact q3 _ G3 H3 s13 rfl
   | true =>
    rw [if_pos rfl]
    have q3 : RW ((fc Ud).bind fun w => g' b w) (zag X.K X.mg Q G H) (zau X.K X.mg E G2 H2) := q2
    refine zbR (k := fun w => g' b w) (P := fun _ _ => zag X.K X.mg Q G H) ok3 (q3.mono (fun _ _ z => z) fun _ z => z.step s3) fun c w G4 H4 s4 ok4 r4 q4 => ?_
    exact hd' G4 H4 b c y w Q ok4.ext (r2.mono (s3.g.trans s4.g)) r4 (noX (hn' b c) (q4.mono (fun _ _ z => z.step (s13.trans s4)) fun _ z => z))
  | _ => exact (show False from q2).elim
theorem zpM {op op' : CmpOp} {r r' : R2} {g g' : D -> D -> R D} (ho : OpR X (compareOp op) r) (hd : OpD X.K X.mg r g) (hn : zew g) (ho' : OpR X (compareOp op') r') (hd' : OpD X.K X.mg r' g') (hn' : zew g') (ha : DE X E a fa) (hb : DE X E b fb) (hc : DE X E c fc)
  (hm : lastMarks [op, op'] [b, c] = false := by with_unfolding_all rfl) : DT X E (.Compare a [op, op'] [b, c] pos) (zaq (zik g g' fa fb fc)) :=
 PT.mono' (zpe ho ho' ha hb hc hm) fun _ _ _ q => zhj (fun _ _ _ h => zm7 hd hn hd' hn' h) q
theorem zgG {e : Expr} {f : DSt -> R D} (h : DE X E e f) (he : ∀ whole, isTrue e X.env whole = (do let v <- whole; standAt e.pos; holding [v] (truthy v)) := by intro _; rfl) : DT X E e (zaq f) :=
 PT.mono' (ztX h he) fun U H Q q => zhj (t := tE X.K X.mg E f) (fun _ _ _ h => h) q
theorem DW.dt {e : Expr} {f : DSt -> R Bool} (h : DW X E e f) : DT X E e f := h _
variable {zaD : List Expr} {ga gb : DSt -> R Bool}
def zwo (fa fb : DSt -> R Bool) : DSt -> R Bool := fun U => (fa U).bind fun k => bif k then fb U else .ok false
def eOr (fa fb : DSt -> R Bool) : DSt -> R Bool := fun U => (fa U).bind fun k => bif k then .ok true else fb U
def zlK (fa : DSt -> R Bool) : DSt -> R Bool := fun U => (fa U).bind fun k => .ok (!k)
theorem zjr {f : DSt -> R Bool} {α : Type} {k : Bool -> R α} {U : St} {H : Hp} {Q : Bool -> Hp -> Prop} {P : α -> Prop} {G : Hp} {Ud : DSt}
  (ok : Ok0 K mg Ud U G H) (q : RW ((f Ud).bind k) P (zau K mg E G H))
  (h : ∀ b G' H', zaS G H G' H' -> Ok0 K mg Ud U G' H' -> RW (k b) P (zau K mg E G' H') -> Q b H') : tT K mg E f U H Q :=
 ⟨G, Ud, ok, q.of_bind.mono (fun d _ q G' H' s => h d G' H' s (ok.step s) (q.mono (fun _ _ z => z) fun e z => z.step s)) fun _ z => z⟩
theorem zm8 (ha : DT X E a ga) : DW X E (.BoolOp .And [a] pos) ga := zrZ ha
theorem zm9 (ha : DT X E a ga) : DW X E (.BoolOp .Or [a] pos) ga := ztY ha
theorem zna (ha : DT X E a ga) (hb : DW X E (.BoolOp .And (b :: zaD) pos) gb) : DW X E (.BoolOp .And (a :: b :: zaD) pos) (zwo ga gb) := by
 refine PW.mono' (ztZ ha hb) fun U H Q ⟨G, Ud, ok, q⟩ => ?_
 refine zjr ok q fun k G' H' s ok' q' => ?_
 cases k with
 | true => rw [if_pos rfl]; exact ⟨G', Ud, ok', q'.mono (fun _ _ z => z.step s) fun _ z => z⟩
 | false => rw [if_neg xaw]; exact (show zdR Q G H false from q') G' H' s
theorem znb (ha : DT X E a ga) (hb : DW X E (.BoolOp .Or (b :: zaD) pos) gb) : DW X E (.BoolOp .Or (a :: b :: zaD) pos) (eOr ga gb) := by
 refine PW.mono' (zwz ha hb) fun U H Q ⟨G, Ud, ok, q⟩ => ?_
 refine zjr ok q fun k G' H' s ok' q' => ?_
 cases k with
 | true => rw [if_pos rfl]; exact (show zdR Q G H true from q') G' H' s
 | false => rw [if_neg xaw]; exact ⟨G', Ud, ok', q'.mono (fun _ _ z => z.step s) fun _ z => z⟩
theorem zft (ha : DT X E a ga) : DT X E (.UnaryOp .Not a pos) (zlK ga) := by
 refine PT.mono' (zt0 ha) fun U H Q ⟨G, Ud, ok, q⟩ => ?_
 exact zjr ok q fun k G' H' s _ q' => (show zdR Q G H (!k) from q') G' H' s
def zuN (fa fb : DSt -> R D) : DSt -> R D := fun U => (fa U).bind fun x => (asB x).bind fun k => bif k then fb U else .ok (.bl false)
def vOr (fa fb : DSt -> R D) : DSt -> R D := fun U => (fa U).bind fun x => (asB x).bind fun k => bif k then .ok (.bl true) else fb U
def zxf (fa : DSt -> R D) : DSt -> R D := fun U => (fa U).bind fun x => (asB x).bind fun k => .ok (.bl !k)
theorem znc {op} {f : DSt -> R D} (h : DE X E a f) : DE X E (.BoolOp op [a] pos) f := zt1 h
theorem znd (ha : DE X E a fa) (hb : DE X E (.BoolOp .And (b :: zaD) pos) fb) : DE X E (.BoolOp .And (a :: b :: zaD) pos) (zuN fa fb) := by
 refine PE.mono' (zt2 ha hb) fun U H Q ⟨G, Ud, ok, q⟩ => ?_
 refine zbR (P := zag X.K X.mg Q) ok q fun d v G' H' s ok' r q' => ?_
 cases d with
 | bl k =>
  cases r
  refine ⟨k, rfl, ?_⟩
  cases k with
  | true => rw [if_pos rfl]; exact ⟨G', Ud, ok', q'.mono (fun _ _ z => z.step s) fun _ z => z⟩
  | false => rw [if_neg xaw]; exact (show zag X.K X.mg Q G H (.bl false) from q') _ G' H' s rfl
 | _ => exact (show False from q').elim
theorem zuO (ha : DE X E a fa) : DE X E (.UnaryOp .Not a pos) (zxf fa) := by
 refine PE.mono' (zt3 ha) fun U H Q ⟨G, Ud, ok, q⟩ => ?_
 refine zbR (P := zag X.K X.mg Q) ok q fun d v G' H' s ok' r q' => ?_
 cases d with
 | bl k => cases r; exact ⟨k, rfl, (show zag X.K X.mg Q G H (.bl !k) from q') _ G' H' s rfl⟩
 | _ => exact (show False from q').elim
def eIf (c : DSt -> R Bool) (fa fb : DSt -> R D) : DSt -> R D := fun U => (c U).bind fun k => bif k then fa U else fb U
def UnD (K : xFg) (mg : Str -> Option Value) (r : V -> Hp -> VK -> Prop) (g : D -> R D) : Prop :=
 ∀ (G H : Hp) (a : D) (x : V) (Q : VK), zai G H -> Rep K mg G a x -> RW (g a) (zag K mg Q G H) (fun _ => False) -> r x H Q
def eUn (g : D -> R D) (fa : DSt -> R D) : DSt -> R D := fun U => (fa U).bind g
theorem zxg {op : UnaryOp} {r : V -> Hp -> VK -> Prop} {g : D -> R D} (ho : UnR X (unaryOp op) r) (hd : UnD X.K X.mg r g) (hn : ∀ a e, g a ≠ .err e) (ha : DE X E a fa) : DE X E (.UnaryOp op a pos) (eUn g fa) := by
 refine PE.mono' (zuc ho ha) fun U H Q ⟨G, Ud, ok, q⟩ => ?_
 refine zbR (P := zag X.K X.mg Q) ok q fun d v G' H' s ok' r q' => ?_
 exact hd G' H' d v Q ok'.ext r (noX (hn d) (q'.mono (fun _ _ z => z.step s) fun _ z => z))
def zaj : DSt -> R (List D) := fun _ => .ok []
def zaa (fa : DSt -> R D) (fs : DSt -> R (List D)) : DSt -> R (List D) := fun U => (fa U).bind fun x => (fs U).bind fun xs => .ok (x :: xs)
variable {es : List Expr} {fs : DSt -> R (List D)}
theorem zbS : DA X E [] zaj := PA.mono' zjT fun U H Q ⟨G, Ud, ok, q⟩ => (show zj7 X.K X.mg Q G H [] from q) [] G H (.refl ok.ext) Reps.nil
theorem zaI (ha : DE X E a fa) (hr : DA X E es fs) (hs : starEach (a :: es) X.env = (false, eval a X.env) :: starEach es X.env := by rfl) : DA X E (a :: es) (zaa fa fs) := by
 refine PA.mono' (zg2 ha hr hs) fun U H Q ⟨G, Ud, ok, q⟩ => ?_
 refine zbR (P := zj7 X.K X.mg Q) ok q fun d v G' H' s ok' r q' => ?_
 refine ⟨G', Ud, ok', q'.of_bind.mono (fun ds _ z vs G2 H2 s2 r2 => ?_) fun _ z => z⟩
 exact (show zj7 X.K X.mg Q G H (d :: ds) from z) _ G2 H2 (s.trans s2) (Reps.cons (r.mono s2.g) r2)
def few (n : Nat) : Bool := decide (n <= 1000)
theorem zne {n : Nat} (h : few n = true) : n <= sizeLine := zw1 (of_decide_eq_true h)
def zil (fs : DSt -> R (List D)) : DSt -> R D := fun U => (fs U).bind fun ds => bif few ds.length then .ok (.tup ds) else .bad
theorem znf {α : Type} {k : List D -> R α} {U : St} {H : Hp} {Q : List V -> Hp -> Prop} {P : α -> Prop} {G : Hp} {Ud : DSt}
  (ok : Ok0 K mg Ud U G H) (q : RW ((fs Ud).bind k) P (zau K mg E G H))
  (h : ∀ ds vs G' H', zaS G H G' H' -> Ok0 K mg Ud U G' H' -> Reps K mg G' ds vs -> RW (k ds) P (zau K mg E G' H') -> Q vs H') : tAr K mg E fs U H Q :=
 ⟨G, Ud, ok, q.of_bind.mono (fun ds _ q vs G' H' s r => h ds vs G' H' s (ok.step s) r (q.mono (fun _ _ z => z) fun e z => z.step s)) fun _ z => z⟩
theorem zuP {x1} (h : DA X E es fs) : DE X E (.Tuple es x1 pos) (zil fs) := by
 refine PE.mono' (zuh h) fun U H Q ⟨G, Ud, ok, q⟩ => ?_
 refine znf (P := zag X.K X.mg Q G H) ok q fun ds vs G' H' s ok' r q' => ?_
 cases hf : few ds.length with
 | false => rw [hf] at q'; exact (show False from q').elim
 | true =>
  rw [hf] at q'
  have q2 : zag X.K X.mg Q G H (.tup ds) := q'
  refine ⟨by rw [<- r.length]; exact zne hf, fun p hp => ?_⟩
  have s2 : zaS G' H' (upd G' p (.tup vs)) (upd H' p (.tup vs)) := .pub ok'.ext hp
  exact q2 _ _ _ (s.trans s2) ⟨p, vs, rfl, SqT.of zae, r.mono s2.g⟩
def zmh (fs : DSt -> R (List D)) : DSt -> R (List D) := fun U => (fs U).bind fun ds => bif few ds.length then .ok ds else .bad
theorem zuQ (h : DA X E es fs) : DF X E (.List es pos) (zmh fs) := by
 refine PE.mono' (zui h) fun U H Q ⟨G, Ud, ok, q⟩ => ?_
 refine znf (P := zc1 X.K X.mg Q G H) ok q fun ds vs G' H' s ok' r q' => ?_
 cases hf : few ds.length with
 | false => rw [hf] at q'; exact (show False from q').elim
 | true =>
  rw [hf] at q'
  have q2 : zc1 X.K X.mg Q G H ds := q'
  refine ⟨by rw [<- r.length]; exact zne hf, fun p hp => ?_⟩
  exact q2 p vs G' _ (s.trans (.hid ok'.ext hp)) (s.h.free hp) zae (ok'.ext.free hp) r
def gIx : D -> D -> R D
 | .tup xs, .int i => match atI xs i with
  | some d => .ok d
  | none => .bad
 | .lst xs, .int i => match atI xs i with
  | some d => .ok d
  | none => .bad
 | _, _ => .bad
theorem zxh : zew gIx := by
 intro a b e h
 cases a <;> cases b <;> simp only [gIx] at h <;> first | exact absurd h (by simp) | (split at h <;> cases h)
theorem zxi : OpD K mg (fun x y H Q => rIxL K x y H Q \/ rIxT K x y H Q) gIx := by
 intro G H a b x y Q e ra rb q
 cases b with
 | int i =>
  cases rb
  cases a with
  | lst xs =>
   obtain ⟨p, vs, rfl, h1, h2⟩ := ra
   cases ed : atI xs i with
   | none => simp only [gIx, ed] at q; exact q.elim
   | some d =>
    simp only [gIx, ed] at q
    obtain ⟨v, h3, h4⟩ := h2.at ed
    exact .inl ⟨p, vs, i, v, rfl, rfl, e.seq h1, h3, zag.now q e h4⟩
  | tup xs =>
   obtain ⟨p, vs, rfl, h1, h2⟩ := ra
   cases ed : atI xs i with
   | none => simp only [gIx, ed] at q; exact q.elim
   | some d =>
    simp only [gIx, ed] at q
    obtain ⟨v, h3, h4⟩ := h2.at ed
    exact .inr ⟨p, vs, i, v, rfl, rfl, zai.sqT e h1, h3, zag.now q e h4⟩
  | _ => exact (show False from q).elim
 | _ => cases a <;> exact (show False from q).elim
theorem zuR (ha : DE X E a fa) (hb : DE X E b fb) (hs : zmE b := by intro _ _; rfl) : DE X E (.Subscript a b pos) (eOp gIx fa fb) :=
 PE.mono' (zwP (zsd.or zuo) ha hb hs) fun _ _ _ h => zj9 zxi zxh h
end
def spD (K : xFg) (mg : Str -> Option Value) (m : List D -> R D) : Sp := fun vs H Q E => ∃ G ds, zai G H /\ Reps K mg G ds vs /\ RW (m ds) (zag K mg Q G H) (zau K mg E G H)
structure zaA (P : Program) (w : World) (K : xFg) (mg : Str -> Option Value) (base : Heap) (k : Nat) (x : Str) (m : List D -> R D) : Prop where
 ex : ∃ (f : Addr) (fd : FuncData) (ps : List Str), zg3 P w K mg base (CXe P w) k f fd ps (spD K mg m) /\ mg x = some (.ref f) /\ PySem.W.keepIn K (.ref f) = true /\ zhZ K fd ps []
theorem zaA.mono {P : Program} {w : World} {K : xFg} {mg : Str -> Option Value} {base : Heap} {j k : Nat} {x : Str} {m : List D -> R D} (F : zaA P w K mg base j x m) (h : j <= k) : zaA P w K mg base k x m := by
 obtain ⟨f, fd, ps, h1, h2⟩ := F.ex
 exact ⟨f, fd, ps, h1.mono h, h2⟩
structure XC (X : Cx) (E : XK) (k : Nat) : Prop where
 calm : X.calm = true
 room : ze9 k X.A
 pass : zh0 (CXe X.prog X.w) X E
def zap (m : List D -> R D) (fs : DSt -> R (List D)) : DSt -> R D := fun U => (fs U).bind m
def zex (K : xFg) (mg : Str -> Option Value) (r : List V -> Hp -> VK -> Prop) (g : List D -> R D) : Prop :=
 ∀ (G H : Hp) (ds : List D) (vs : List V) (Q : VK), zai G H -> Reps K mg G ds vs -> RW (g ds) (zag K mg Q G H) (fun _ => False) -> r vs H Q
def R.noerr {α : Type} : R α -> R α
 | .ok a => .ok a
 | _ => .bad
def zcc (g : List D -> R D) (fs : DSt -> R (List D)) : DSt -> R D := fun U => (fs U).bind fun ds => (g ds).noerr
theorem zcw {α : Type} {r : R α} {Q : α -> Prop} {E' : D -> Prop} (h : RW r.noerr Q E') : ∃ a, r = .ok a /\ Q a := by
 cases r with
 | ok a => exact ⟨a, rfl, h⟩
 | err e => exact (show False from h).elim
 | bad => exact (show False from h).elim
section
variable {X : Cx} {E : XK} {k : Nat} {x : Str} {m : List D -> R D} {p pos : Pos} {e : Expr} {es : List Expr} {fs : DSt -> R (List D)}
theorem zsx (C : XC X E k) (F : zaA X.prog X.w X.K X.mg X.base k x m) (ha : DA X E (e :: es) fs) (hg : Gl X x := by rfl) (hdb : (x == ("__debug__" : Str)) = false := by decide)
  (he : starEach (e :: es) X.env = (false, eval e X.env) :: starEach es X.env := by rfl) (hpl : (backTo pos (starEach es X.env)).any (·.1) = false := by rfl) : DE X E (.Call (.Name x p) (e :: es) [] pos) (zap m fs) := by
 obtain ⟨f, fd, ps, h1, h2, h3, h4⟩ := F.ex
 refine PE.mono' (zr8 h1 C.room hg h2 h3 h4 .nil C.pass ha hdb he hpl) fun U H Q ⟨G, Ud, ok, q⟩ => ?_
 refine ⟨G, Ud, ok, q.of_bind.mono (fun ds hds z vs G' H' s r => ?_) fun _ z => z⟩
 show spD X.K X.mg m (vs ++ []) H' Q E
 rw [xc3]
 exact ⟨G', ds, s.e, r, z.mono (fun _ _ z => z.step s) fun _ z => z.step s⟩
theorem zeJ {id : String} {r : List V -> Hp -> VK -> Prop} {g : List D -> R D} (hc : zbw X (.builtin id) r) (hd : zex X.K X.mg r g) (hm : X.mg x = none) (hv : bootBuiltins x = some (.builtin id)) (ha : DA X E (e :: es) fs) (hg : Gl X x := by rfl) (hn : x ≠ "__name__" := by decide) (hdb : (x == ("__debug__" : Str)) = false := by decide)
  (he : starEach (e :: es) X.env = (false, eval e X.env) :: starEach es X.env := by rfl) (hpl : (backTo pos (starEach es X.env)).any (·.1) = false := by rfl) : DE X E (.Call (.Name x p) (e :: es) [] pos) (zcc g fs) := by
 refine PE.mono' (zfa hc hg hm hv ha hn hdb he hpl) fun U H Q ⟨G, Ud, ok, q⟩ => ?_
 refine ⟨G, Ud, ok, q.of_bind.mono (fun ds _ z vs G' H' s r => ?_) fun _ z => z⟩
 obtain ⟨d, e1, z⟩ := zcw z
 exact hd G' H' ds vs Q s.e r (by rw [e1]; exact z.step s)
theorem zuS {T : String} {r : List V -> Hp -> VK -> Prop} {g : List D -> R D} (hc : zbw X (.type T) r) (hd : zex X.K X.mg r g) (hm : X.mg x = none) (ha : DA X E (e :: es) fs) (hv : bootBuiltins x = some (.type T) := by rfl) (hg : Gl X x := by rfl) (hn : x ≠ "__name__" := by decide) (hdb : (x == ("__debug__" : Str)) = false := by decide)
  (he : starEach (e :: es) X.env = (false, eval e X.env) :: starEach es X.env := by rfl) (hpl : (backTo pos (starEach es X.env)).any (·.1) = false := by rfl) : DE X E (.Call (.Name x p) (e :: es) [] pos) (zcc g fs) := by
 refine PE.mono' (zdP hc hg hm hv ha hn hdb he hpl) fun U H Q ⟨G, Ud, ok, q⟩ => ?_
 refine ⟨G, Ud, ok, q.of_bind.mono (fun ds _ z vs G' H' s r => ?_) fun _ z => z⟩
 obtain ⟨d, e1, z⟩ := zcw z
 exact hd G' H' ds vs Q s.e r (by rw [e1]; exact z.step s)
end
def setAll {α : Type} : List (Option α) -> List Nat -> List α -> List (Option α)
 | U, k :: ks, v :: vs => setAll (U.set k (some v)) ks vs
 | U, _, _ => U
theorem zgH {α : Type} : ∀ (ks : List Nat) (U : List (Option α)) (vs : List α), (setAll U ks vs).length = U.length
 | [], _, _ => by unfold setAll; rfl
 | _ :: _, _, [] => by unfold setAll; rfl
 | _ :: ks, U, _ :: vs => by unfold setAll; rw [zgH ks]; simp
theorem zim {α : Type} {j : Nat} : ∀ (ks : List Nat) (U : List (Option α)) (vs : List α), j ∉ ks -> (setAll U ks vs)[j]? = U[j]?
 | [], _, _, _ => by unfold setAll; rfl
 | _ :: _, _, [], _ => by unfold setAll; rfl
 | k :: ks, U, _ :: vs, h => by
  unfold setAll
  rw [zim ks _ vs fun z => h (xad _ z), xau (fun z => h (by rw [<- z]; exact xab))]
def tG (K : xFg) (mg : Str -> Option Value) (ks : List Nat) (gp : D -> R (List D)) : TG := fun v U H Q => ∃ G d, zai G H /\ Rep K mg G d v /\ RW (gp d) (fun us => ∀ ws, Reps K mg G us ws -> Q (setAll U ks ws) H) (fun _ => False)
def DG (X : Cx) (tg : Expr) (ks : List Nat) (gp : D -> R (List D)) : Prop := PG X tg (tG X.K X.mg ks gp)
def zan : D -> R (List D) := fun d => .ok [d]
def zc2 (n : Nat) : D -> R (List D)
 | .tup ds => bif ds.length == n then .ok ds else .bad
 | .lst ds => bif ds.length == n then .ok ds else .bad
 | _ => .bad
section
variable {X : Cx} {pos : Pos}
theorem PG.mono' {tg : Expr} {t t' : TG} (h : PG X tg t) (m : ∀ v U H Q, t' v U H Q -> t v U H Q) : PG X tg t' := fun pins s U H v u Q I r q => h pins s U H v u Q I r (m v U H Q q)
theorem PG.or {tg : Expr} {t t' : TG} (h : PG X tg t) (h' : PG X tg t') : PG X tg (fun v U H Q => t v U H Q \/ t' v U H Q) := fun pins s U H v u Q I r q => by
 rcases q with q | q
 ·exact h pins s U H v u Q I r q
 ·exact h' pins s U H v u Q I r q
theorem zsy (i : Nat) {x : Str} (hN : X.N.Nodup) (hi : X.N[i]? = some x := by rfl) (hx : Loc X.env.scope x := by first | exact Or.inl rfl | exact Or.inr rfl) (hf : X.fn x = true \/ X.env.scope.names.lookup x = some .local := by first | exact .inl rfl | exact .inr rfl | assumption) : DG X (.Name x pos) [i] zan :=
 PG.mono' (zmr hN hi hx hf) fun v U H Q ⟨G, d, e, r, q⟩ => by
  have q' := (show ∀ ws, Reps X.K X.mg G [d] ws -> Q (setAll U [i] ws) H from q) [v] (Reps.cons r Reps.nil)
  exact q'
def zng : List Nat -> TGs
 | [] => gNil
 | i :: r => zt6 (zjk i) (zng r)
theorem zfu : ∀ (ks : List Nat) (vs : List V) (U : St) (H : Hp) (Q : St -> Hp -> Prop), vs.length = ks.length -> Q (setAll U ks vs) H -> zng ks vs U H Q
 | [], [], _, _, _, _, q => ⟨rfl, q⟩
 | i :: r, v :: vs, U, H, Q, hl, q => ⟨v, vs, rfl, zfu r vs _ H Q (by simpa using hl) q⟩
theorem zuT {es : List Expr} {k : Nat} (ks : List Nat) (n : Nat) (hc : X.calm = true) (h : PGs X es (zng ks)) (hk : ks.length = n := by rfl)
  (hn : (assignEach es X.env).length = n := by rfl) (hst : (assignEach es X.env).findIdx? (·.1) = none := by rfl) : DG X (.Tuple es k pos) ks (zc2 n) := by
 refine PG.mono' (PG.or (zt7 hc h hn hst) (zus hc h hn hst)) fun v U H Q ⟨G, d, e, r, q⟩ => ?_
 cases d with
 | tup ds =>
  obtain ⟨a, vs, rfl, h1, h2⟩ := r
  by_cases hd : ds.length = n
  ·have q' : ∀ ws, Reps X.K X.mg G ds ws -> Q (setAll U ks ws) H := by
    simp only [zc2, hd, beq_self_eq_true, cond_true] at q; exact q
   exact .inl ⟨a, vs, rfl, zai.sqT e h1, by rw [<- h2.length]; exact hd, zfu ks vs U H Q (by rw [<- h2.length, hd, hk]) (q' vs h2)⟩
  ·have : (ds.length == n) = false := by simpa using hd
   simp only [zc2, this, cond_false] at q; exact q.elim
 | lst ds =>
  obtain ⟨a, vs, rfl, h1, h2⟩ := r
  by_cases hd : ds.length = n
  ·have q' : ∀ ws, Reps X.K X.mg G ds ws -> Q (setAll U ks ws) H := by
    simp only [zc2, hd, beq_self_eq_true, cond_true] at q; exact q
   exact .inr ⟨a, vs, rfl, e.seq h1, by rw [<- h2.length]; exact hd, zfu ks vs U H Q (by rw [<- h2.length, hd, hk]) (q' vs h2)⟩
  ·have : (ds.length == n) = false := by simpa using hd
   simp only [zc2, this, cond_false] at q; exact q.elim
 | _ => exact (show False from q).elim
end
theorem Ok0.setAll {K : xFg} {mg : Str -> Option Value} {G H : Hp} : ∀ {ks : List Nat} {us : List D} {ws : List V} {Ud : DSt} {U : St}, Ok0 K mg Ud U G H -> Reps K mg G us ws -> Ok0 K mg (setAll Ud ks us) (setAll U ks ws) G H
 | [], _, _, _, _, o, _ => by unfold DL.setAll; exact o
 | _ :: _, [], _, _, _, o, h => by cases h; unfold DL.setAll; exact o
 | k :: ks, _ :: _, _, _, _, o, ⟨v, r, h1, h2, h3⟩ => by subst h1; unfold DL.setAll; exact Ok0.setAll (o.set h2) h3
structure zfv (K : xFg) (mg : Str -> Option Value) (J : It) (G : Hp) (ds : List D) : Prop where
 stop : ∀ H, zai G H -> J.stop ds.length H
 turn : ∀ (H : Hp) (i : Nat) (d : D), zai G H -> ds[i]? = some d -> J.go i H /\ ∀ x H', J.yld i H x H' -> ∀ G1, zai G G1 -> zai G1 H -> ∃ G2, zaS G1 H G2 H' /\ Rep K mg G2 d x
def tI (K : xFg) (mg : Str -> Option Value) (E : XK) (f : DSt -> R (List D)) : TI := fun U H R => ∃ G Ud, Ok0 K mg Ud U G H /\ RW (f Ud) (fun ds => ∀ J G' H', zaS G H G' H' -> zfv K mg J G' ds -> R J H') (zau K mg E G H)
def DI (X : Cx) (E : XK) (tg iter : Expr) (f : DSt -> R (List D)) : Prop := PI X tg iter (tI X.K X.mg E f)
section
variable {X : Cx} {E : XK} {tg : Expr}
theorem PI.mono' {iter : Expr} {t t' : TI} (h : PI X tg iter t) (m : ∀ U H R, t' U H R -> t U H R) : PI X tg iter t' := fun pins s U H R I q => h pins s U H R I (m U H R q)
theorem zfv.list {K : xFg} {mg : Str -> Option Value} {G : Hp} {a : Addr} {vs : List V} {ds : List D} (h : SqL K G a vs) (r : Reps K mg G ds vs) : zfv K mg (Itl K a) G ds := by
 refine ⟨fun H e => by rw [r.length]; exact (lgo (e.seq h)).1, fun H i d e hd => ?_⟩
 have hi : i < vs.length := by rw [<- r.length]; exact (xah.mp hd).1
 obtain ⟨g1, g2⟩ := (lgo (e.seq h)).2 i hi
 refine ⟨g1, fun x H' y G1 e1 e2 => ?_⟩
 obtain ⟨rfl, hx⟩ := g2 x H' y
 obtain ⟨v, h1, h2⟩ := r.get hd
 rw [hx] at h1; cases h1
 exact ⟨G1, .refl e2, h2.mono e1⟩
theorem zfv.tup {K : xFg} {mg : Str -> Option Value} {G : Hp} {a : Addr} {vs : List V} {ds : List D} (h : SqT K G a vs) (r : Reps K mg G ds vs) : zfv K mg (Itt K a) G ds := by
 refine ⟨fun H e => by rw [r.length]; exact (tgo (zai.sqT e h)).1, fun H i d e hd => ?_⟩
 have hi : i < vs.length := by rw [<- r.length]; exact (xah.mp hd).1
 obtain ⟨g1, g2⟩ := (tgo (zai.sqT e h)).2 i hi
 refine ⟨g1, fun x H' y G1 e1 e2 => ?_⟩
 obtain ⟨rfl, hx⟩ := g2 x H' y
 obtain ⟨v, h1, h2⟩ := r.get hd
 rw [hx] at h1; cases h1
 exact ⟨G1, .refl e2, h2.mono e1⟩
def zgj (lo : Int) (n : Nat) : List D := (List.range n).map fun (i : Nat) => D.int (lo + (i : Int))
theorem zfv.rng {K : xFg} {mg : Str -> Option Value} {G : Hp} (lo : Int) (n : Nat) : zfv K mg (Itr lo n) G (zgj lo n) := by
 have hl : (zgj lo n).length = n := by simp [zgj]
 refine ⟨fun H e => by rw [hl]; exact xai _, fun H i d e hd => ?_⟩
 have hi : i < n := by have := (xah.mp hd).1; omega
 refine ⟨hi, fun x H' y G1 e1 e2 => ?_⟩
 obtain ⟨rfl, rfl⟩ := y
 have : d = .int (lo + (i : Int)) := by simp [zgj, hi] at hd; exact hd.symm
 subst this
 exact ⟨G1, .refl e2, rfl⟩
def zsz : D -> R (List D)
 | .tup ds => .ok ds
 | .lst ds => .ok ds
 | _ => .bad
def zhU (f : DSt -> R D) : DSt -> R (List D) := fun U => (f U).bind zsz
theorem zuU {l : Expr} {f : DSt -> R D} (hl : DE X E l f) : DI X E tg l (zhU f) := by
 have hL : PI X tg l (zua X.K (tE X.K X.mg E f)) := zr2 hl
 have hT : PI X tg l (iTup X.K (tE X.K X.mg E f)) := zub hl
 intro pins s U H R I ⟨G, Ud, ok, q⟩
 cases hf : f Ud with
 | bad => unfold zhU at q; rw [hf] at q; exact (show False from q).elim
 | err e =>
  unfold zhU at q; rw [hf] at q
  refine hL pins s U H R I ⟨G, Ud, ok, ?_⟩
  rw [hf]; exact q
 | ok d =>
  unfold zhU at q; rw [hf] at q
  cases d with
  | lst ds =>
   have q' : ∀ J G' H', zaS G H G' H' -> zfv X.K X.mg J G' ds -> R J H' := q
   refine hL pins s U H R I ⟨G, Ud, ok, ?_⟩
   rw [hf]
   rintro v G' H' st ⟨a, vs, rfl, h1, h2⟩
   exact ⟨a, rfl, ⟨vs, st.e.seq h1⟩, q' _ G' H' st (.list h1 h2)⟩
  | tup ds =>
   have q' : ∀ J G' H', zaS G H G' H' -> zfv X.K X.mg J G' ds -> R J H' := q
   refine hT pins s U H R I ⟨G, Ud, ok, ?_⟩
   rw [hf]
   rintro v G' H' st ⟨a, vs, rfl, h1, h2⟩
   exact ⟨a, rfl, ⟨vs, zai.sqT st.e h1⟩, q' _ G' H' st (.tup h1 h2)⟩
  | _ => exact (show False from q).elim
def rOk (i : Int) : Bool := Nat.blt i.natAbs 1073741824
theorem znh {i : Int} (h : rOk i = true) : -(2 ^ 30) <= i /\ i < 2 ^ 30 := by
 unfold rOk at h
 rw [Nat.blt_eq] at h
 omega
def zin : List D -> R (List D)
 | [.int j] => bif rOk j then .ok (zgj 0 j.toNat) else .bad
 | _ => .bad
def zsA : List D -> R (List D)
 | [.int i, .int j] => bif rOk i && rOk j then .ok (zgj i (j - i).toNat) else .bad
 | _ => .bad
def zcW (g : List D -> R (List D)) (fs : DSt -> R (List D)) : DSt -> R (List D) := fun U => (fs U).bind g
variable {fs : DSt -> R (List D)} {a b c : Expr} {p pos : Pos}
theorem zni (hm : X.mg "range" = none) (ha : DA X E [a] fs) (hg : Gl X "range" := by rfl) (hs : starEach [a] X.env = [(false, eval a X.env)] := by rfl) : DI X E tg (.Call (.Name "range" p) [a] [] pos) (zcW zin fs) := by
 refine PI.mono' (zmt hg hm ha hs) fun U H R ⟨G, Ud, ok, q⟩ => ?_
 refine ⟨G, Ud, ok, q.of_bind.mono (fun ds _ z vs G' H' s r => ?_) fun _ z => z⟩
 match ds, z, r with
 | [.int j], z, r =>
  obtain rfl := Reps.of_ints (ns := [j]) r
  cases hj : rOk j with
  | false => simp only [zin, hj, cond_false] at z; exact z.elim
  | true =>
   simp only [zin, hj, cond_true] at z
   have := znh hj
   exact ⟨j, rfl, by omega, by omega, z _ G' H' s (.rng 0 _)⟩
theorem znj (hm : X.mg "range" = none) (ha : DA X E [a, b] fs) (hg : Gl X "range" := by rfl) (hs : starEach [a, b] X.env = [(false, eval a X.env), (false, eval b X.env)] := by rfl) (hs2 : starEach [b] X.env = [(false, eval b X.env)] := by rfl) :
  DI X E tg (.Call (.Name "range" p) [a, b] [] pos) (zcW zsA fs) := by
 refine PI.mono' (zmu hg hm ha hs hs2) fun U H R ⟨G, Ud, ok, q⟩ => ?_
 refine ⟨G, Ud, ok, q.of_bind.mono (fun ds _ z vs G' H' s r => ?_) fun _ z => z⟩
 match ds, z, r with
 | [.int i, .int j], z, r =>
  obtain rfl := Reps.of_ints (ns := [i, j]) r
  cases hj : (rOk i && rOk j) with
  | false => simp only [zsA, hj, cond_false] at z; exact z.elim
  | true =>
   simp only [zsA, hj, cond_true] at z
   rw [xax] at hj
   have h1 := znh hj.1
   have h2 := znh hj.2
   exact ⟨i, j, rfl, ⟨by omega, by omega, by omega, by omega⟩, z _ G' H' s (.rng i _)⟩
end
def lcD (ks : List Nat) (gp : D -> R (List D)) (c : DSt -> R Bool) (e : DSt -> R D) (U : DSt) : List D -> R (List D)
 | [] => .ok []
 | d :: ds => (gp d).bind fun us => (c (setAll U ks us)).bind fun k => bif k then (e (setAll U ks us)).bind fun y => (lcD ks gp c e U ds).bind fun ys => .ok (y :: ys) else lcD ks gp c e U ds
def most (n : Nat) : Bool := decide (n < sizeLine)
def eLC (k : Nat) (ks : List Nat) (fi : DSt -> R (List D)) (gp : D -> R (List D)) (c : DSt -> R Bool) (e : DSt -> R D) : DSt -> R (List D) := fun U => (fi U).bind fun ds => bif most ds.length then (lcD ks gp c e (List.replicate k none ++ U) ds).noerr else .bad
def zby : DSt -> R Bool := fun _ => .ok true
def DTs (X : Cx) (E : XK) (cs : List Expr) (f : DSt -> R Bool) : Prop := PTs X cs (tT X.K X.mg E f)
theorem PTs.mono' {X : Cx} {cs : List Expr} {t t' : TT} (h : PTs X cs t) (m : ∀ U H Q, t' U H Q -> t U H Q) : PTs X cs t' := fun pins s U H Q I q => h pins s U H Q I (m U H Q q)
theorem zc3 {X : Cx} {E : XK} : DTs X E [] zby := PTs.mono' zsg fun U H Q ⟨G, Ud, ok, q⟩ => (show zdR Q G H true from q) G H (.refl ok.ext)
theorem zey {X : Cx} {E : XK} {c : Expr} {f : DSt -> R Bool} (h : DT X E c f) : DTs X E [c] f := zsh h
theorem RW.ok_of {α : Type} {r : R α} {a : α} {Q : α -> Prop} {E : D -> Prop} (e : r = .ok a) (h : Q a) : RW r Q E := by rw [e]; exact h
theorem zhk {α β : Type} {r : R α} {k : α -> R β} {b : β} (h : r.bind k = .ok b) : ∃ a, r = .ok a /\ k a = .ok b := by
 cases r with
 | ok a => exact ⟨a, rfl, h⟩
 | err e => cases h
 | bad => cases h
section
variable {X : Cx} {E : XK} {tg elt iter : Expr} {ifs : List Expr} {scope : Scope} {pos : Pos} {NY : List Str} {k : Nat} {ks : List Nat} {fi : DSt -> R (List D)} {gp : D -> R (List D)} {fc : DSt -> R Bool} {fe : DSt -> R D}
theorem zio {k : Nat} {ks : List Nat} {U : St} (h : ks.all (fun i => decide (i < k)) = true) (ws : List V) : zsi (List.replicate k none ++ U) (setAll (List.replicate k none ++ U) ks ws) := by
 refine ⟨zgH _ _ _, fun j v e => ?_⟩
 rw [zim _ _ _ fun hj => ?_]
 ·exact e
 ·have hk : j < k := of_decide_eq_true (xay.mp h j hj)
  rw [xce (by simpa using hk), xdc, if_pos hk] at e
  cases e
theorem zqV {te : TE} {tc : TT} (hk : ks.all (fun i => decide (i < k)) = true) {U : St} {H : Hp} {Q : VK}
  (h : tFr X.K X.mg E (eLC k ks fi gp fc fe) U H Q) : tLC k (tI X.K X.mg E fi) (tG X.K X.mg ks gp) (tT X.K X.mg E0 fc) (tE X.K X.mg E0 fe) U H Q := by
 obtain ⟨G, Ud, ok, q⟩ := h
 refine ⟨G, Ud, ok, q.of_bind.mono (fun ds _ z J G1 H1 s1 it => ?_) fun _ z => z⟩
 cases hm : most ds.length with
 | false => rw [hm] at z; exact (show False from z).elim
 | true =>
  rw [hm] at z
  obtain ⟨tot, ht, z⟩ := zcw (show RW (lcD ks gp fc fe (List.replicate k none ++ Ud) ds).noerr _ _ from z)
  have hlt : ds.length < sizeLine := of_decide_eq_true hm
  have ok1 := ok.step s1
  refine ⟨fun i m ys H' => m = ds.length - i /\ i <= ds.length /\ ∃ G' yd zaD, zaS G1 H1 G' H' /\ Reps X.K X.mg G' yd ys /\ yd.length <= i /\ lcD ks gp fc fe (List.replicate k none ++ Ud) (ds.drop i) = .ok zaD /\ tot = yd ++ zaD,
   ⟨ds.length, by simp, xb0 _, G1, [], tot, .refl ok1.ext, Reps.nil, xb0 _, ht, rfl⟩, ?_⟩
  rintro i m ys H' ⟨rfl, hi, G', yd, zaD, s, r, hyl, hr, rfl⟩
  refine ⟨by rw [<- r.length]; omega, ?_⟩
  by_cases hlt2 : i < ds.length
  ·right
   obtain ⟨d, hd⟩ : ∃ d, ds[i]? = some d := ⟨ds[i], by simp [hlt2]⟩
   obtain ⟨g1, g2⟩ := it.turn H' i d (s.g.trans s.e) hd
   have hdrop : ds.drop i = d :: ds.drop (i + 1) := by
    rw [xb4 hlt2]
    congr 1
    exact Option.some.inj ((xap hlt2).symm.trans hd)
   rw [hdrop] at hr
   refine ⟨g1, fun ys' H'' => ∃ G' yd zaD, zaS G1 H1 G' H'' /\ Reps X.K X.mg G' yd ys' /\ yd.length <= i + 1 /\ lcD ks gp fc fe (List.replicate k none ++ Ud) (ds.drop (i + 1)) = .ok zaD /\ _ = yd ++ zaD, fun ys' H'' h => ⟨ds.length - (i + 1), by omega, rfl, hlt2, h⟩, fun v H'' hy => ?_⟩
   obtain ⟨G2, s2, rv⟩ := g2 v H'' hy G' s.g s.e
   unfold lcD at hr
   obtain ⟨us, e1, hr⟩ := zhk hr
   obtain ⟨kk, e2, hr⟩ := zhk hr
   have s12 := s.trans s2
   have okN : Ok0 X.K X.mg (List.replicate k none ++ Ud) (List.replicate k none ++ U) G2 H'' := (ok1.step s12).nones k
   refine ⟨G2, d, s2.e, rv, RW.ok_of e1 fun ws rws => ⟨zio hk ws, ?_⟩⟩
   have okS := okN.setAll (ks := ks) rws
   refine ⟨G2, _, okS, RW.ok_of e2 fun G3 H3 s3 => ?_⟩
   cases kk with
   | false =>
    rw [if_neg xaw]
    exact ⟨G3, yd, zaD, s12.trans s3, r.mono (s2.g.trans s3.g), by omega, hr, rfl⟩
   | true =>
    rw [if_pos rfl]
    obtain ⟨y, e3, hr⟩ := zhk (show (fe (setAll (List.replicate k none ++ Ud) ks us)).bind _ = _ from hr)
    obtain ⟨ys2, e4, hr⟩ := zhk hr
    cases hr
    refine ⟨G3, _, okS.step s3, RW.ok_of e3 fun w G4 H4 s4 r4 => ?_⟩
    exact ⟨G4, yd ++ [y], ys2, (s12.trans s3).trans s4, (r.mono ((s2.g.trans s3.g).trans s4.g)).append (Reps.cons r4 Reps.nil), by simp; omega, e4, by simp⟩
  ·left
   have hi2 : i = ds.length := by omega
   subst hi2
   refine ⟨it.stop H' (s.g.trans s.e), fun Dd hD => ?_⟩
   rw [List.drop_length] at hr
   have hre : zaD = [] := by unfold lcD at hr; cases hr; rfl
   subst hre
   rw [xc3] at z
   have st := (s1.trans s)
   exact z Dd ys G' _ (st.trans (.hid st.e hD)) (st.h.free hD) zae (st.e.free hD) r
theorem zhl (C : X.calm = true) (lc : LC X k scope NY) (hk : ks.all (fun i => decide (i < k)) = true) (hi : DI X E tg iter fi)
  (hb : ∀ (s₀ : Shared) (H₀ : Hp) (C : Addr) (ex : List Addr), NY.Nodup -> DG (zdz X scope NY s₀ H₀ C ex) tg ks gp /\ DTs (zdz X scope NY s₀ H₀ C ex) E0 ifs fc /\ DE (zdz X scope NY s₀ H₀ C ex) E0 elt fe)
  (hs : ∀ x, foldedSetIterable iter X.env x = pure x := by intro _; rfl) : DF X E (.ListComp elt [⟨tg, iter, ifs, 0⟩] scope pos) (eLC k ks fi gp fc fe) :=
 PE.mono' (zwZ (g := tG X.K X.mg ks gp) (tc := tT X.K X.mg E0 fc) (te := tE X.K X.mg E0 fe) C lc hi (fun s0 H0 Ca ex nd => hb s0 H0 Ca ex nd) hs) fun _ _ _ h => zqV (te := tE X.K X.mg E0 fe) (tc := tT X.K X.mg E0 fc) hk h
end
end DL
namespace DL
open L2
mutual
def imm : D -> Bool
 | .lst _ => false
 | .dct _ _ => false
 | .tup ds => imms ds
 | .exc _ as => imms as
 | .non => true
 | .bl _ => true
 | .int _ => true
 | .str _ => true
 | .ty _ => true
 | .cls _ => true
def imms : List D -> Bool
 | [] => true
 | d :: ds => imm d && imms ds
end
structure Ok (K : xFg) (mg : Str -> Option Value) (H0 : Hp) (own : List Nat) (Ud : DSt) (U : St) (G H : Hp) : Prop where
 ext : zai G H
 len : Ud.length = U.length
 val : ∀ (i : Nat) (d : D), i ∉ own -> Ud[i]? = some (some d) -> ∃ v, U[i]? = some (some v) /\ Rep K mg G d v
 mine : ∀ (i : Nat) (d : D), i ∈ own -> Ud[i]? = some (some d) -> ∃ a ds vs, U[i]? = some (some (.ref a)) /\ d = .lst ds /\ H a = some (.lst vs) /\ G a = none /\ H0 a = none /\ Reps K mg G ds vs
 dj : ∀ (i j : Nat) (a : Addr) (d d' : D), i ∈ own -> j ∈ own -> Ud[i]? = some (some d) -> Ud[j]? = some (some d') -> U[i]? = some (some (.ref a)) -> U[j]? = some (some (.ref a)) -> i = j
def zbD (own : List Nat) : Nat -> DSt -> DSt
 | _, [] => []
 | i, d :: ds => (bif own.contains i then none else d) :: zbD own (i + 1) ds
def mask (own : List Nat) (U : DSt) : DSt := zbD own 0 U
theorem zfw {own : List Nat} : ∀ (U : DSt) (k i : Nat) (d : D), (zbD own k U)[i]? = some (some d) -> k + i ∉ own /\ U[i]? = some (some d)
 | [], _, _, _, h => by unfold zbD at h; simp at h
 | x :: U, k, 0, d, h => by
  unfold zbD at h
  simp only [List.getElem?_cons_zero, Option.some.injEq] at h
  cases hc : own.contains k with
  | true => rw [hc] at h; cases h
  | false =>
   rw [hc] at h
   have h' : x = some d := h
   subst h'
   exact ⟨by simpa using hc, rfl⟩
 | x :: U, k, i + 1, d, h => by
  unfold zbD at h
  have := zfw U (k + 1) i d (by simpa using h)
  rw [show k + (i + 1) = k + 1 + i by omega]
  exact ⟨this.1, by simpa using this.2⟩
theorem zfx {own : List Nat} : ∀ (U : DSt) (k : Nat), (zbD own k U).length = U.length
 | [], _ => rfl
 | _ :: U, k => by unfold zbD; simp [zfx U]
def zsB (own : List Nat) (Ud : DSt) (U : St) (b : Addr) : Prop := ∃ i d, i ∈ own /\ Ud[i]? = some (some d) /\ U[i]? = some (some (.ref b))
open Classical in
noncomputable def zqW (own : List Nat) (Ud : DSt) (U : St) (G H : Hp) : Hp := fun b => if zsB own Ud U b then H b else G b
section
variable {K : xFg} {mg : Str -> Option Value} {G G' G0 H H' H0 : Hp} {own : List Nat} {Ud : DSt} {U : St}
theorem Ok.masked (o : Ok K mg H0 own Ud U G H) : Ok0 K mg (mask own Ud) U G H :=
 ⟨o.ext, by unfold mask; rw [zfx]; exact o.len, fun i d h => by
  have := zfw Ud 0 i d h
  rw [xbk] at this
  exact o.val i d this.1 this.2⟩
theorem Ok.zero (o : Ok0 K mg Ud U G H) : Ok K mg H0 [] Ud U G H :=
 ⟨o.ext, o.len, fun i d _ h => o.val i d h, fun i d h => absurd h (by simp), fun i j a d d' h => absurd h (by simp)⟩
theorem Ok.step (o : Ok K mg H0 own Ud U G H) (s : zaS G H G' H') : Ok K mg H0 own Ud U G' H' :=
 ⟨s.e, o.len, fun i d hi h => let ⟨v, h1, h2⟩ := o.val i d hi h; ⟨v, h1, h2.mono s.g⟩, fun i d hi h => by
  obtain ⟨a, ds, vs, h1, h2, h3, h4, h5, h6⟩ := o.mine i d hi h
  exact ⟨a, ds, vs, h1, h2, s.h _ _ h3, s.c _ _ h3 h4, h5, h6.mono s.g⟩, o.dj⟩
theorem Ok.notOwn (o : Ok K mg H0 own Ud U G H) {b : Addr} {u : HO} (h : G b = some u) : ¬ zsB own Ud U b := by
 rintro ⟨i, d, h1, h2, h3⟩
 obtain ⟨a, ds, vs, q1, q2, q3, q4, _⟩ := o.mine i d h1 h2
 rw [q1] at h3
 cases h3
 rw [q4] at h; cases h
theorem Ok.ownLst (o : Ok K mg H0 own Ud U G H) {b : Addr} (h : zsB own Ud U b) : (∃ vs, H b = some (.lst vs)) /\ G b = none /\ H0 b = none := by
 obtain ⟨i, d, h1, h2, h3⟩ := h
 obtain ⟨a, ds, vs, q1, q2, q3, q4, q5, _⟩ := o.mine i d h1 h2
 rw [q1] at h3
 cases h3
 exact ⟨⟨vs, q3⟩, q4, q5⟩
theorem Ok.pub (o : Ok K mg H0 own Ud U G H) : Ok0 K mg Ud U (zqW own Ud U G H) H /\ zai G (zqW own Ud U G H) := by
 have sg : zai G (zqW own Ud U G H) := fun b u h => by unfold zqW; rw [if_neg (o.notOwn h)]; exact h
 refine ⟨⟨fun b u h => ?_, o.len, fun i d h => ?_⟩, sg⟩
 ·unfold zqW at h
  split at h
  ·exact h
  ·exact o.ext b u h
 ·by_cases hi : i ∈ own
  ·obtain ⟨a, ds, vs, q1, rfl, q3, q4, q5, q6⟩ := o.mine i d hi h
   refine ⟨_, q1, a, vs, rfl, SqL.of ?_, q6.mono sg⟩
   unfold zqW
   rw [if_pos ⟨i, _, hi, h, q1⟩]; exact q3
  ·obtain ⟨v, h1, h2⟩ := o.val i d hi h
   exact ⟨v, h1, h2.mono sg⟩
theorem Ok.pubStep (o : Ok K mg H0 own Ud U G H) (s0 : zaS G0 H0 G H) : zaS G0 H0 (zqW own Ud U G H) H := by
 refine ⟨s0.g.trans o.pub.2, s0.h, o.pub.1.ext, fun b u h1 h2 => ?_⟩
 unfold zqW
 rw [if_neg fun z => by rw [(o.ownLst z).2.2] at h1; cases h1]
 exact s0.c b u h1 h2
theorem Ok.drop (o : Ok K mg H0 own Ud U G H) (s : zai H H') : Ok K mg H0 own Ud U G H' :=
 o.step (.heap o.ext s)
theorem zbr {α : Type} {l : List (Option α)} {i : Nat} {x d : α} (h : (l.set i (some x))[i]? = some (some d)) : d = x /\ i < l.length := by
 have hl : i < l.length := by have := (xah.mp h).1; simpa using this
 rw [xa7 hl] at h
 cases h
 exact ⟨rfl, hl⟩
theorem Ok.set {i : Nat} {d : D} {v : V} (o : Ok K mg H0 own Ud U G H) (hi : i ∉ own) (h : Rep K mg G d v) : Ok K mg H0 own (Ud.set i (some d)) (U.set i (some v)) G H := by
 have ne : ∀ {j : Nat}, j ∈ own -> j ≠ i := fun hj z => hi (z ▸ hj)
 refine ⟨o.ext, by simp [o.len], fun j e hj q => ?_, fun j e hj q => ?_, fun j k a d1 d2 h1 h2 h3 h4 h5 h6 => ?_⟩
 ·by_cases hji : j = i
  ·subst hji
   obtain ⟨rfl, hl⟩ := zbr q
   exact ⟨v, by rw [xa7 (by rw [<- o.len]; exact hl)], h⟩
  ·rw [xau (xba hji)] at q ⊢
   exact o.val j e hj q
 ·rw [xau (xba (ne hj))] at q ⊢
  exact o.mine j e hj q
 ·rw [xau (xba (ne h1))] at h3 h5
  rw [xau (xba (ne h2))] at h4 h6
  exact o.dj j k a d1 d2 h1 h2 h3 h4 h5 h6
theorem Ok.setAll : ∀ {ks : List Nat} {us : List D} {ws : List V} {Ud : DSt} {U : St}, Ok K mg H0 own Ud U G H -> (∀ k ∈ ks, k ∉ own) -> Reps K mg G us ws -> Ok K mg H0 own (DL.setAll Ud ks us) (DL.setAll U ks ws) G H
 | [], _, _, _, _, o, _, _ => by unfold DL.setAll; exact o
 | _ :: _, [], _, _, _, o, _, h => by cases h; unfold DL.setAll; exact o
 | k :: ks, _ :: _, _, _, _, o, hk, ⟨v, r, h1, h2, h3⟩ => by
  subst h1; unfold DL.setAll
  exact Ok.setAll (o.set (hk k xab) h2) (fun j hj => hk j (xad _ hj)) h3
theorem Ok.new {i : Nat} {ds : List D} {vs : List V} {a : Addr} {own' : List Nat} (o : Ok K mg H0 own Ud U G H) (s : zaS G H G' H') (n : H a = none) (e : H' a = some (.lst vs)) (g : G' a = none) (n0 : H0 a = none) (r : Reps K mg G' ds vs)
  (hown : ∀ j, j ∈ own' ↔ j = i \/ j ∈ own) : Ok K mg H0 own' (Ud.set i (some (.lst ds))) (U.set i (some (.ref a))) G' H' := by
 have o' := o.step s
 have away : ∀ {j : Nat} {d : D}, j ∈ own -> j ≠ i -> Ud[j]? = some (some d) -> U[j]? = some (some (.ref a)) -> False := fun {j d} hj _ hd hs => by
  obtain ⟨b, _, _, q1, _, q3, _⟩ := o.mine j d hj hd
  rw [q1] at hs; cases hs
  rw [n] at q3; cases q3
 refine ⟨o'.ext, by simp [o.len], fun j d hj q => ?_, fun j d hj q => ?_, fun j k b d1 d2 h1 h2 h3 h4 h5 h6 => ?_⟩
 ·have hji : j ≠ i := fun z => hj ((hown j).mpr (.inl z))
  rw [xau (xba hji)] at q ⊢
  exact o'.val j d (fun z => hj ((hown j).mpr (.inr z))) q
 ·by_cases hji : j = i
  ·subst hji
   obtain ⟨rfl, hl⟩ := zbr q
   exact ⟨a, ds, vs, by rw [xa7 (by rw [<- o.len]; exact hl)], rfl, e, g, n0, r⟩
  ·rw [xau (xba hji)] at q ⊢
   exact o'.mine j d (((hown j).mp hj).resolve_left hji) q
 ·by_cases hji : j = i
  ·by_cases hki : k = i
   ·rw [hji, hki]
   ·subst hji
    obtain ⟨rfl, hl⟩ := zbr h3
    rw [xa7 (by rw [<- o.len]; exact hl)] at h5
    cases h5
    rw [xau (xba hki)] at h4 h6
    exact (away (((hown k).mp h2).resolve_left hki) hki h4 h6).elim
  ·by_cases hki : k = i
   ·subst hki
    obtain ⟨rfl, hl⟩ := zbr h4
    rw [xa7 (by rw [<- o.len]; exact hl)] at h6
    cases h6
    rw [xau (xba hji)] at h3 h5
    exact (away (((hown j).mp h1).resolve_left hji) hji h3 h5).elim
   ·rw [xau (xba hji)] at h3 h5
    rw [xau (xba hki)] at h4 h6
    exact o.dj j k b d1 d2 (((hown j).mp h1).resolve_left hji) (((hown k).mp h2).resolve_left hki) h3 h4 h5 h6
theorem Ok.write {i : Nat} {d : D} {ds : List D} {vs : List V} {a : Addr} (o : Ok K mg H0 own Ud U G H) (hi : i ∈ own) (hd : Ud[i]? = some (some d)) (ha : U[i]? = some (some (.ref a))) (r : Reps K mg G ds vs) :
  Ok K mg H0 own (Ud.set i (some (.lst ds))) U G (upd H a (.lst vs)) := by
 obtain ⟨b, ds0, vs0, q1, q2, q3, q4, q5, q6⟩ := o.mine i d hi hd
 rw [ha] at q1; cases q1
 have hl : i < Ud.length := (xah.mp hd).1
 refine ⟨fun b u h => ?_, by simp [o.len], fun j e hj q => ?_, fun j e hj q => ?_, fun j k b d1 d2 h1 h2 h3 h4 h5 h6 => ?_⟩
 ·rw [zah (zad h q4)]; exact o.ext b u h
 ·have hji : j ≠ i := fun z => hj (z ▸ hi)
  rw [xau (xba hji)] at q
  exact o.val j e hj q
 ·by_cases hji : j = i
  ·subst hji
   obtain ⟨rfl, _⟩ := zbr q
   exact ⟨a, ds, vs, ha, rfl, zae, q4, q5, r⟩
  ·rw [xau (xba hji)] at q
   obtain ⟨c, es, ws, p1, p2, p3, p4⟩ := o.mine j e hj q
   have hc : c ≠ a := fun z => by subst z; exact hji (o.dj j i c e d hj hi q hd p1 ha)
   exact ⟨c, es, ws, p1, p2, by rw [zah hc]; exact p3, p4⟩
 ·have back : ∀ {j : Nat} {e : D}, (Ud.set i (some (.lst ds)))[j]? = some (some e) -> ∃ e', Ud[j]? = some (some e') := fun {j e} q => by
   by_cases hji : j = i
   ·exact ⟨d, hji ▸ hd⟩
   ·rw [xau (xba hji)] at q; exact ⟨e, q⟩
  obtain ⟨e1, h3⟩ := back h3
  obtain ⟨e2, h4⟩ := back h4
  exact o.dj j k b e1 e2 h1 h2 h3 h4 h5 h6
theorem zaS.write {a : Addr} {o u : HO} (s0 : zaS G0 H0 G H) (n : H0 a = none) (g : G a = none) : zaS G0 H0 G (upd H a u) :=
 ⟨s0.g, fun b v h => by rw [zah (zad h n)]; exact s0.h b v h, fun b v h => by rw [zah (zad h g)]; exact s0.e b v h, s0.c⟩
theorem Ok.release {i : Nat} {own' : List Nat} (o : Ok K mg H0 own Ud U G H) (s0 : zaS G0 H0 G H) (hi : i ∈ own) (hown : ∀ j, j ∈ own' ↔ j ≠ i /\ j ∈ own) : ∃ G', Ok K mg H0 own' Ud U G' H /\ zaS G0 H0 G' H /\ zai G G' := by
 by_cases hb : ∃ d, Ud[i]? = some (some d)
 ·obtain ⟨d, hd⟩ := hb
  obtain ⟨a, ds, vs, q1, rfl, q3, q4, q5, q6⟩ := o.mine i d hi hd
  have sg : zai G (upd G a (.lst vs)) := zbd q4
  have eh : zai (upd G a (.lst vs)) H := fun b u h => by
   by_cases hb : b = a
   ·subst hb; rw [zae] at h; cases h; exact q3
   ·rw [zah hb] at h; exact o.ext b u h
  refine ⟨upd G a (.lst vs), ⟨eh, o.len, fun j e hj q => ?_, fun j e hj q => ?_, fun j k b d1 d2 h1 h2 h3 h4 h5 h6 => ?_⟩, ⟨s0.g.trans sg, s0.h, eh, fun b u h1 h2 => ?_⟩, sg⟩
  ·by_cases hji : j = i
   ·subst hji
    rw [hd] at q; cases q
    exact ⟨_, q1, a, vs, rfl, SqL.of zae, q6.mono sg⟩
   ·obtain ⟨v, h1, h2⟩ := o.val j e (fun z => hj ((hown j).mpr ⟨hji, z⟩)) q
    exact ⟨v, h1, h2.mono sg⟩
  ·obtain ⟨hji, hj'⟩ := (hown j).mp hj
   obtain ⟨c, es, ws, p1, p2, p3, p4, p5, p6⟩ := o.mine j e hj' q
   have hc : c ≠ a := fun z => by subst z; exact hji (o.dj j i c e _ hj' hi q hd p1 q1)
   exact ⟨c, es, ws, p1, p2, p3, by rw [zah hc]; exact p4, p5, p6.mono sg⟩
  ·exact o.dj j k b d1 d2 ((hown j).mp h1).2 ((hown k).mp h2).2 h3 h4 h5 h6
  ·rw [zah (zad h1 q5)]; exact s0.c b u h1 h2
 ·refine ⟨G, ⟨o.ext, o.len, fun j e hj q => ?_, fun j e hj q => o.mine j e ((hown j).mp hj).2 q, fun j k b d1 d2 h1 h2 => o.dj j k b d1 d2 ((hown j).mp h1).2 ((hown k).mp h2).2⟩, s0, zai.refl _⟩
  have hji : j ≠ i := fun z => hb ⟨e, z ▸ q⟩
  exact o.val j e (fun z => hj ((hown j).mpr ⟨hji, z⟩)) q
end
inductive Out where
 | nx (U : DSt) | rt (d : D) | bk (U : DSt) | ct (U : DSt) | rf (ds : List D)
section
variable (K : xFg) (mg : Str -> Option Value) (E : XK)
def zgm (G0 H0 : Hp) (own' ol : List Nat) (Dn : zmn) (G : Hp) : Out -> Prop
 | .nx Ud' => ∀ U' G' H', Ok K mg H0 own' Ud' U' G' H' -> zaS G0 H0 G' H' -> zai G G' -> Dn.nx U' H'
 | .bk Ud' => ∀ U' G' H', Ok K mg H0 ol Ud' U' G' H' -> zaS G0 H0 G' H' -> zai G G' -> Dn.bk U' H'
 | .ct Ud' => ∀ U' G' H', Ok K mg H0 ol Ud' U' G' H' -> zaS G0 H0 G' H' -> zai G G' -> Dn.ct U' H'
 | .rt d => ∀ v G' H', zaS G0 H0 G' H' -> Rep K mg G' d v -> Dn.rt v H'
 | .rf ds => ∀ a vs G' H', zaS G0 H0 G' H' -> H0 a = none -> H' a = some (.lst vs) -> G' a = none -> Reps K mg G' ds vs -> Dn.rt (.ref a) H'
def tS (G0 H0 : Hp) (own own' ol : List Nat) (f : DSt -> R Out) : TS := fun Dn U H => ∃ G Ud, Ok K mg H0 own Ud U G H /\ zaS G0 H0 G H /\ RW (f Ud) (zgm K mg G0 H0 own' ol Dn G) (zau K mg E G0 H0)
end
theorem zgm.shift {K : xFg} {mg : Str -> Option Value} {G0 H0 G G' : Hp} {own' ol : List Nat} {Dn : zmn} (s : zai G G') {o : Out} (h : zgm K mg G0 H0 own' ol Dn G o) : zgm K mg G0 H0 own' ol Dn G' o := by
 cases o with
 | nx _ => exact fun a b c d e f => h a b c d e (s.trans f)
 | bk _ => exact fun a b c d e f => h a b c d e (s.trans f)
 | ct _ => exact fun a b c d e f => h a b c d e (s.trans f)
 | rt _ => exact h
 | rf _ => exact h
def DS (X : Cx) (E : XK) (own own' ol : List Nat) (st : Stmt) (f : DSt -> R Out) : Prop := ∀ G0, PS X st (tS X.K X.mg E G0 X.H₀ own own' ol f)
def DSs (X : Cx) (E : XK) (own own' ol : List Nat) (st : List Stmt) (f : DSt -> R Out) : Prop := ∀ G0, PSs X st (tS X.K X.mg E G0 X.H₀ own own' ol f)
def zaG (f g : DSt -> R Out) : DSt -> R Out := fun U => (f U).bind fun o => match o with
 | .nx U' => g U'
 | o => .ok o
def za0 : DSt -> R Out := fun U => .ok (.nx U)
section
variable {X : Cx} {E : XK} {own own1 own2 own' ol : List Nat} {st : Stmt} {zaD : List Stmt} {f g : DSt -> R Out} {pos : Pos}
theorem zaC : DSs X E own own ol [] za0 := fun G0 => PSs.mono' zmo fun Dn U H ⟨G, Ud, ok, s0, q⟩ => (show zgm X.K X.mg G0 X.H₀ own ol Dn G (.nx Ud) from q) U G H ok s0 (zai.refl _)
theorem zab (h1 : DS X E own own1 ol st f) (h2 : DSs X E own1 own2 ol zaD g) : DSs X E own own2 ol (st :: zaD) (zaG f g) := fun G0 => PSs.mono' (zg1 (h1 G0) (h2 G0)) fun Dn U H ⟨G, Ud, ok, s0, q⟩ => by
 refine ⟨G, Ud, ok, s0, q.of_bind.mono (fun o _ z => ?_) fun _ z => z⟩
 cases o with
 | nx U1 =>
  intro U' G' H' ok' s' e'
  exact ⟨G', U1, ok', s', (show RW (g U1) _ _ from z).mono (fun o _ z => z.shift e') fun _ z => z⟩
 | rt d => exact z
 | rf d => exact z
 | bk d => exact z
 | ct d => exact z
theorem zam (h1 : DS X E own own1 ol st f) : DSs X E own own1 ol [st] f := fun G0 => zmp (h1 G0)
theorem zhm (i : Nat) (hi : own.contains i = true) (ho : own' = own.filter fun j => j != i) (h : DSs X E own' own2 ol zaD g) : DSs X E own own2 ol zaD g := fun G0 => PSs.mono' (h G0) fun Dn U H ⟨G, Ud, ok, s0, q⟩ => by
 obtain ⟨G', ok', s', e'⟩ := ok.release (i := i) (own' := own') s0 (by simpa using hi) fun j => by subst ho; simp [and_comm]
 exact ⟨G', Ud, ok', s', q.mono (fun o _ z => z.shift e') fun _ z => z⟩
theorem zqX : DS X E own own' ol st zxe := fun G0 => PS.mono' zpb fun Dn U H ⟨G, Ud, ok, s0, q⟩ => q
def zbE (fe : DSt -> R D) : DSt -> R Out := fun U => (fe U).bind fun d => .ok (.rt d)
theorem zfy {e : Expr} {fe : DSt -> R D} (h : DE X E e fe) : DS X E own own' ol (.Return (some e) pos) (zbE fe) := fun G0 => PS.mono' (zqG h) fun Dn U H ⟨G, Ud, ok, s0, q⟩ => by
 have s1 := ok.pubStep s0
 exact ⟨_, Ud, ok.pub.1, q.of_bind.mono (fun d _ z v G' H' s r => (show zgm X.K X.mg G0 X.H₀ own' ol Dn G (.rt d) from z) v G' H' (s1.trans s) r) fun _ z => z.step s1⟩
def sIf (c : DSt -> R Bool) (f g : DSt -> R Out) : DSt -> R Out := fun U => (c U).bind fun k => bif k then f U else g U
theorem zcj {c : Expr} {a b : List Stmt} {fc : DSt -> R Bool} (hc : DT X E c fc) (ha : DSs X E own own' ol a f) (hb : DSs X E own own' ol b g) : DS X E own own' ol (.If c a b pos) (sIf fc f g) := fun G0 =>
 PS.mono' (zt4 hc (ha G0) (hb G0)) fun Dn U H ⟨G, Ud, ok, s0, q⟩ => by
 have s1 := ok.pubStep s0
 refine ⟨_, Ud, ok.pub.1, q.of_bind.mono (fun k _ z G' H' s => ?_) fun _ z => z.step s1⟩
 have ok' := ok.drop s.h
 have s' : zaS G0 X.H₀ G H' := s0.trans (.heap ok.ext s.h)
 cases k with
 | true => exact zwU ⟨G, Ud, ok', s', z⟩
 | false => exact zwT ⟨G, Ud, ok', s', z⟩
def zsC (fe : DSt -> R D) : DSt -> R Out := fun U => (fe U).bind fun _ => .ok (.nx U)
theorem zsD {e : Expr} {fe : DSt -> R D} (h : DE X E e fe) (hs : swapsWith e none pos.line X.env = pure false := by rfl) : DS X E own own ol (.Expr e pos) (zsC fe) := fun G0 => PS.mono' (zmq h hs) fun Dn U H ⟨G, Ud, ok, s0, q⟩ => by
 have s1 := ok.pubStep s0
 refine ⟨_, Ud, ok.pub.1, q.of_bind.mono (fun d _ z v G' H' s r => ?_) fun _ z => z.step s1⟩
 exact (show zgm X.K X.mg G0 X.H₀ own ol Dn G (.nx Ud) from z) U G H' (ok.drop s.h) (s0.trans (.heap ok.ext s.h)) (zai.refl _)
def ziq (own : List Nat) (i : Nat) (fe : DSt -> R D) : DSt -> R Out := fun U => (fe (mask own U)).bind fun d => .ok (.nx (U.set i (some d)))
def zaJ (i : Nat) (fe : DSt -> R D) : DSt -> R Out := fun U => (fe U).bind fun d => .ok (.nx (U.set i (some d)))
def zxj (i : Nat) (fe : DSt -> R D) : DSt -> R Out := fun U => (fe U).bind fun d => bif imm d then .ok (.nx (U.set i (some d))) else .bad
theorem zuV {own : List Nat} {i : Nat} (h : own.contains i = false) : i ∉ own := by simpa using h
theorem zfc (U : DSt) : mask [] U = U := by
 have : ∀ (U : DSt) (k : Nat), zbD [] k U = U := fun U => by
  induction U with
  | nil => intro k; rfl
  | cons d ds ih => intro k; unfold zbD; rw [ih]; rfl
 exact this U 0
theorem zxk {te : TE} {fe : DSt -> R D} {i : Nat} {G0 : Hp} (h : ∀ U H Q, tE X.K X.mg E fe U H Q -> te U H Q) (ho : own.contains i = false) {Dn : zmn} {U : St} {H : Hp} (q : tS X.K X.mg E G0 X.H₀ own own ol (ziq own i fe) Dn U H) : ztC te (zjk i) Dn U H := by
 obtain ⟨G, Ud, ok, s0, q⟩ := q
 refine h U H _ ⟨G, mask own Ud, ok.masked, q.of_bind.mono (fun d _ z v G' H' s r => ?_) fun _ z => z.step s0⟩
 exact (show zgm X.K X.mg G0 X.H₀ own ol Dn G (.nx (Ud.set i (some d))) from z) _ G' H' ((ok.step s).set (zuV ho) r) (s0.trans s) s.g
def ztH (own : List Nat) (i : Nat) (fe : DSt -> R (List D)) : DSt -> R Out := fun U => (fe (mask own U)).bind fun ds => .ok (.nx (U.set i (some (.lst ds))))
def zfz (own : List Nat) (i : Nat) : List Nat := if own.contains i then own else i :: own
theorem zjs {own : List Nat} {i j : Nat} : j ∈ zfz own i ↔ j = i \/ j ∈ own := by
 unfold zfz
 split
 ·rename_i h
  have hi : i ∈ own := by simpa using h
  exact ⟨.inr, fun h => h.elim (fun e => e ▸ hi) id⟩
 ·simp
theorem asgN {te : TE} {fe : DSt -> R (List D)} {i : Nat} {G0 : Hp} (h : ∀ U H Q, tFr X.K X.mg E fe U H Q -> te U H Q) {Dn : zmn} {U : St} {H : Hp} (q : tS X.K X.mg E G0 X.H₀ own (zfz own i) ol (ztH own i fe) Dn U H) : ztC te (zjk i) Dn U H := by
 obtain ⟨G, Ud, ok, s0, q⟩ := q
 refine h U H _ ⟨G, mask own Ud, ok.masked, q.of_bind.mono (fun ds _ z a vs G' H' s n e g r => ?_) fun _ z => z.step s0⟩
 exact (show zgm X.K X.mg G0 X.H₀ (zfz own i) ol Dn G (.nx (Ud.set i (some (.lst ds)))) from z) _ G' H' (ok.new s n e g (s0.h.free n) r fun j => zjs) (s0.trans s) s.g
variable {i : Nat} {x : Str} {e : Expr} {pos' : Pos} {fe : DSt -> R D} {fl : DSt -> R (List D)}
theorem zqY (i : Nat) (hN : X.N.Nodup) (he : DE X E e fe) (ho : own.contains i = false := by rfl) (hi : X.N[i]? = some x := by rfl) (hx : Loc X.env.scope x := by first | exact Or.inl rfl | exact Or.inr rfl) (hs : swapsWith e (some (.Name x pos')) pos.line X.env = pure false := by rfl)
  (hf : X.fn x = true \/ X.env.scope.names.lookup x = some .local := by first | exact .inl rfl | exact .inr rfl | assumption) : DS X E own own ol (.Assign [.Name x pos'] e pos) (ziq own i fe) := fun G0 =>
 PS.mono' (zhV hN hi hx he hs hf) fun Dn U H q => zxk (fun _ _ _ z => z) ho q
theorem znk (i : Nat) (hN : X.N.Nodup) (he : DE X E e fe) (hi : X.N[i]? = some x := by rfl) (hx : Loc X.env.scope x := by first | exact Or.inl rfl | exact Or.inr rfl) (hs : swapsWith e (some (.Name x pos')) pos.line X.env = pure false := by rfl)
  (hf : X.fn x = true \/ X.env.scope.names.lookup x = some .local := by first | exact .inl rfl | exact .inr rfl | assumption) : DS X E [] [] ol (.Assign [.Name x pos'] e pos) (zaJ i fe) := fun G0 => by
 have : zaJ i fe = ziq [] i fe := by funext U; unfold zaJ ziq; rw [zfc]
 rw [this]
 exact PS.mono' (zhV hN hi hx he hs hf) fun Dn U H q => zxk (fun _ _ _ z => z) rfl q
theorem zuW (i : Nat) (hN : X.N.Nodup) (he : DF X E e fl) (hw : own' = zfz own i := by rfl) (hi : X.N[i]? = some x := by rfl) (hx : Loc X.env.scope x := by first | exact Or.inl rfl | exact Or.inr rfl) (hs : swapsWith e (some (.Name x pos')) pos.line X.env = pure false := by rfl)
  (hf : X.fn x = true \/ X.env.scope.names.lookup x = some .local := by first | exact .inl rfl | exact .inr rfl | assumption) : DS X E own own' ol (.Assign [.Name x pos'] e pos) (ztH own i fl) := fun G0 => by
 subst hw; exact PS.mono' (zhV hN hi hx he hs hf) fun Dn U H q => asgN (fun _ _ _ z => z) q
theorem zuX {te : TE} (h : ∀ U H Q, tFr X.K X.mg E fl U H Q -> te U H Q) : ∀ U H Q, tE X.K X.mg E (fun U => (fl U).bind fun ds => .ok (.lst ds)) U H Q -> te U H Q := fun U H Q ⟨G, Ud, ok, q⟩ => by
 refine h U H Q ⟨G, Ud, ok, q.of_bind.mono (fun ds _ q => ?_) fun _ z => z⟩
 intro a vs G' H' s n e g r
 have q' : zag X.K X.mg Q G H (.lst ds) := q
 have sg : zai G' (upd G' a (.lst vs)) := zbd g
 refine q' (.ref a) (upd G' a (.lst vs)) H' ⟨s.g.trans sg, s.h, fun b u p => ?_, fun b u p1 p2 => ?_⟩ ⟨a, vs, rfl, SqL.of zae, r.mono sg⟩
 ·by_cases hb : b = a
  ·subst hb; rw [zae] at p; cases p; exact e
  ·rw [zah hb] at p; exact s.e b u p
 ·have hb : b ≠ a := zad p1 n
  rw [zah hb]; exact s.c b u p1 p2
def zet (fl : DSt -> R (List D)) : DSt -> R D := fun U => (fl U).bind fun ds => .ok (.lst ds)
theorem DF.val (h : DF X E e fl) : DE X E e (zet fl) := h.de
variable {tg elt iter : Expr} {ifs : List Expr} {scope : Scope} {NY : List Str} {k : Nat} {ks : List Nat} {fi : DSt -> R (List D)} {gp : D -> R (List D)} {fc : DSt -> R Bool} {lpos : Pos}
theorem zuY (i : Nat) (C : X.calm = true) (hN : X.N.Nodup) (hi' : X.N[i]? = some x) (hy : X.env.kindOf x = some .local) (lc : LC X k scope NY) (hi : DI X E tg iter fi)
  (hb : ∀ (s₀ : Shared) (H₀ : Hp) (C : Addr) (ex : List Addr), NY.Nodup -> DG (zdz X scope NY s₀ H₀ C ex) tg ks gp /\ DTs (zdz X scope NY s₀ H₀ C ex) E0 ifs fc /\ DE (zdz X scope NY s₀ H₀ C ex) E0 elt fe)
  (hsw : swapsWith (.ListComp elt [⟨tg, iter, ifs, 0⟩] scope lpos) (some (.Name x pos')) pos.line X.env = pure true)
  (hs : ∀ x, foldedSetIterable iter X.env x = pure x) : PS X (.Assign [.Name x pos'] (.ListComp elt [⟨tg, iter, ifs, 0⟩] scope lpos) pos) (ztC (tLC k (tI X.K X.mg E fi) (tG X.K X.mg ks gp) (tT X.K X.mg E0 fc) (tE X.K X.mg E0 fe)) (zjk i)) :=
 zw0 (g := tG X.K X.mg ks gp) (tc := tT X.K X.mg E0 fc) (te := tE X.K X.mg E0 fe) C hN hi' hy lc hi (fun s0 H0 Ca ex nd => hb s0 H0 Ca ex nd) hsw hs
theorem zdS (i : Nat) (C : X.calm = true) (hN : X.N.Nodup) (lc : LC X k scope NY) (hk : ks.all (fun i => decide (i < k)) = true) (hi : DI X E tg iter fi)
  (hb : ∀ (s₀ : Shared) (H₀ : Hp) (C : Addr) (ex : List Addr), NY.Nodup -> DG (zdz X scope NY s₀ H₀ C ex) tg ks gp /\ DTs (zdz X scope NY s₀ H₀ C ex) E0 ifs fc /\ DE (zdz X scope NY s₀ H₀ C ex) E0 elt fe)
  (ho : own.contains i = false := by rfl) (hi' : X.N[i]? = some x := by rfl) (hy : X.env.kindOf x = some .local := by rfl)
  (hsw : swapsWith (.ListComp elt [⟨tg, iter, ifs, 0⟩] scope lpos) (some (.Name x pos')) pos.line X.env = pure true := by rfl)
  (hs : ∀ x, foldedSetIterable iter X.env x = pure x := by intro _; rfl) : DS X E own own ol (.Assign [.Name x pos'] (.ListComp elt [⟨tg, iter, ifs, 0⟩] scope lpos) pos) (ziq own i (zet (eLC k ks fi gp fc fe))) := fun G0 =>
 PS.mono' (zuY i C hN hi' hy lc hi hb hsw hs) fun Dn U H q => zxk (zuX fun _ _ _ h => zqV (te := tE X.K X.mg E0 fe) (tc := tT X.K X.mg E0 fc) hk h) ho q
def ztI (own : List Nat) (ks : List Nat) (gp : D -> R (List D)) (fe : DSt -> R D) : DSt -> R Out := fun U => (fe (mask own U)).bind fun d => (gp d).noerr.bind fun us => .ok (.nx (setAll U ks us))
theorem zuZ (he : DE X E e fe) (hg : DG X tg ks gp) (ho : ks.all (fun i => !own.contains i) = true := by rfl) (hs : swapsWithSole [tg] e pos.line X.env = pure false := by rfl) (hw : swappedStores [tg] e X.env = pure none := by rfl)
  (h1 : (assignEach [tg] X.env).map (·.2) = [assign tg X.env] := by rfl) : DS X E own own ol (.Assign [tg] e pos) (ztI own ks gp fe) := fun G0 => PS.mono' (zqH he hg hs hw h1) fun Dn U H ⟨G, Ud, ok, s0, q⟩ => by
 refine ⟨G, mask own Ud, ok.masked, q.of_bind.mono (fun d _ z v G' H' s r => ?_) fun _ z => z.step s0⟩
 obtain ⟨us, e1, z⟩ := zcw z.of_bind
 refine ⟨G', d, s.e, r, RW.ok_of e1 fun ws rw' => ?_⟩
 refine (show zgm X.K X.mg G0 X.H₀ own ol Dn G (.nx (setAll Ud ks us)) from z) _ G' H' ((ok.step s).setAll (fun k hk => ?_) rw') (s0.trans s) s.g
 simpa using xay.mp ho k hk
def sPar (own : List Nat) (i j : Nat) (fs : DSt -> R (List D)) : DSt -> R Out := fun U => (fs (mask own U)).bind fun ds => match ds with
 | [a, b] => .ok (.nx ((U.set i (some a)).set j (some b)))
 | _ => .bad
def zb3 (U : DSt) (i : Nat) : R (List D) := match U[i]? with
 | some (some (.lst ds)) => .ok ds
 | _ => .bad
def zu0 (own : List Nat) (i : Nat) (fe : DSt -> R D) : DSt -> R Out := fun U => (zb3 U i).bind fun ds => (fe (mask own U)).bind fun d => bif most ds.length then .ok (.nx (U.set i (some (.lst (ds ++ [d]))))) else .bad
def zxl (i : Nat) (fe : DSt -> R D) : DSt -> R Out := fun U => (zb3 U i).bind fun ds => (fe U).bind fun d => bif most ds.length && imm d then .ok (.nx (U.set i (some (.lst (ds ++ [d]))))) else .bad
theorem zka {U : DSt} {i : Nat} {ds : List D} (h : zb3 U i = .ok ds) : U[i]? = some (some (.lst ds)) := by
 unfold zb3 at h
 split at h
 ·cases h; assumption
 ·cases h
theorem zkb {U : DSt} {i : Nat} {e : D} : zb3 U i ≠ .err e := by
 unfold zb3
 split <;> simp
theorem zu1 (i : Nat) {apos cpos : Pos} {np : Pos} (he : DE X E e fe) (ho : own.contains i = true := by rfl) (hN : X.N[i]? = some x := by rfl) (hv : Vis X.env.scope x := by first | exact Or.inl rfl | exact Or.inr (Or.inl rfl) | exact Or.inr (Or.inr rfl)) (hd : (x == ("__debug__" : Str)) = false := by decide)
  (hcd : (x == ("__classdict__" : Str)) = false := by decide)
  (hbase : attributeBase (.Name x np) "append" X.env (eval (.Name x np) X.env) = eval (.Name x np) X.env := by rfl)
  (hfew : ((backTo cpos (starEach [e] X.env)).all (fun x => !x.1) && (backToKw cpos (keywordEach [] X.env)).all (fun x => x.1.isSome) && decide ([e].length + ([] : List Keyword).length + (if ([] : List Keyword).isEmpty then 0 else 1) < 30)) = true := by rfl)
  (hline : (apos.endLine == cpos.line) = true := by rfl) (hs : starEach [e] X.env = (false, eval e X.env) :: starEach [] X.env := by rfl) (hplain : (backTo cpos (starEach [] X.env)).any (·.1) = false := by rfl)
  (hsw : swapsWith (.Call (.Attribute (.Name x np) "append" apos) [e] [] cpos) none pos.line X.env = pure false := by rfl) :
  DS X E own own ol (.Expr (.Call (.Attribute (.Name x np) "append" apos) [e] [] cpos) pos) (zu0 own i fe) := fun G0 =>
 PS.mono' (zmq (zwR PySem.F.plainAttrs_list PySem.F.slot_list_append PySem.F.type_list_append zmF (pv i hN hv hd hcd) (zaI he zbS hs) hbase hfew hline hs hplain) hsw) fun Dn U H ⟨G, Ud, ok, s0, q⟩ => by
 have q1 := q.of_bind
 cases hL : zb3 Ud i with
 | bad => rw [hL] at q1; exact q1.elim
 | err e => exact absurd hL zkb
 | ok ds =>
  rw [hL] at q1
  have q2 : RW ((fe (mask own Ud)).bind fun d => bif most ds.length then R.ok (.nx (Ud.set i (some (.lst (ds ++ [d]))))) else .bad) (zgm X.K X.mg G0 X.H₀ own ol Dn G) (zau X.K X.mg E G0 X.H₀) := q1
  have hd := zka hL
  have hi : i ∈ own := by simpa using ho
  obtain ⟨a, ds', vs, p1, p2, p3, p4, p5, p6⟩ := ok.mine i _ hi hd
  cases p2
  refine ⟨_, p1, .inl ⟨rfl, _, SqL.of p3⟩, ?_⟩
  refine ⟨G, mask own Ud, ok.masked, (show RW ((zaa fe zaj) (mask own Ud)) _ _ from ?_)⟩
  unfold zaa
  have q3 := q2.of_bind
  cases hf : fe (mask own Ud) with
  | bad => rw [hf] at q3; exact q3.elim
  | err e => rw [hf] at q3; exact (show zau X.K X.mg E G0 X.H₀ e from q3).step s0
  | ok d =>
   rw [hf] at q3
   rintro ws G' H' s ⟨v, _, e1, r1, r2⟩
   subst e1
   cases r2
   cases hm : most ds.length with
   | false => rw [hm] at q3; exact (show False from q3).elim
   | true =>
    rw [hm] at q3
    have hlt : ds.length < sizeLine := of_decide_eq_true hm
    have ok' := ok.step s
    refine ⟨a, vs, v, rfl, rfl, s.h _ _ p3, by rw [<- p6.length]; exact hlt, ?_⟩
    exact (show zgm X.K X.mg G0 X.H₀ own ol Dn G (.nx (Ud.set i (some (.lst (ds ++ [d]))))) from q3) U G' _ (ok'.write hi hd p1 ((p6.mono s.g).append (Reps.cons r1 Reps.nil))) ((s0.trans s).write (o := .lst vs) p5 (s.c _ _ p3 p4)) s.g
end
def zez (ks : List Nat) (gp : D -> R (List D)) (fb : DSt -> R Out) : List D -> DSt -> R Out
 | [], U => .ok (.nx U)
 | d :: ds, U => (gp d).noerr.bind fun us => (fb (setAll U ks us)).bind fun o => match o with
  | .nx U' => zez ks gp fb ds U'
  | .ct U' => zez ks gp fb ds U'
  | .bk U' => .ok (.nx U')
  | .rt d => .ok (.rt d)
  | .rf d => .ok (.rf d)
def zjh (own ks : List Nat) (gp : D -> R (List D)) (fi : DSt -> R (List D)) (fb : DSt -> R Out) : DSt -> R Out := fun U => (fi (mask own U)).bind fun ds => zez ks gp fb ds U
structure XL (X : Cx) : Prop where
 own : PassesOwn (model X.prog X.w) X.A X.env X.xe
section
variable {X : Cx} {E : XK} {own ol ks : List Nat} {tg iter : Expr} {body : List Stmt} {gp : D -> R (List D)} {fi : DSt -> R (List D)} {fb : DSt -> R Out} {pos : Pos}
theorem zc4 (L : XL X) (hc : X.calm = true) (hi : DI X E tg iter fi) (hg : DG X tg ks gp) (hb : DSs X E own own own body fb) (ho : ks.all (fun i => !own.contains i) = true := by rfl) (hs : ∀ x, foldedSetIterable iter X.env x = pure x := by intro _; rfl) :
  DS X E own own ol (.For tg iter body [] pos) (zjh own ks gp fi fb) := fun G0 => PS.mono' (zqI L.own hc hi hg (hb G0) hs) fun Dn U H ⟨G, Ud, ok, s0, q⟩ => by
 refine ⟨G, mask own Ud, ok.masked, q.of_bind.mono (fun ds _ z J G1 H1 s1 it => ?_) fun _ z => z.step s0⟩
 have hko : ∀ k ∈ ks, k ∉ own := fun k hk => by simpa using xay.mp ho k hk
 refine ⟨fun i m U' H' => m = ds.length - i /\ i <= ds.length /\ ∃ G' Ud', Ok X.K X.mg X.H₀ own Ud' U' G' H' /\ zai G1 G' /\ zaS G0 X.H₀ G' H' /\ RW (zez ks gp fb (ds.drop i) Ud') (zgm X.K X.mg G0 X.H₀ own ol Dn G1) (zau X.K X.mg E G0 X.H₀),
  ⟨ds.length, by simp, xb0 _, G1, Ud, ok.step s1, zai.refl _, s0.trans s1, z.mono (fun _ _ z => z.shift s1.g) fun _ z => z⟩, ?_⟩
 rintro i m U' H' ⟨rfl, hi, G', Ud', ok', e', s', w⟩
 by_cases hlt : i < ds.length
 ·right
  obtain ⟨d, hd⟩ : ∃ d, ds[i]? = some d := ⟨ds[i], by simp [hlt]⟩
  obtain ⟨g1, g2⟩ := it.turn H' i d (e'.trans ok'.ext) hd
  have hdrop : ds.drop i = d :: ds.drop (i + 1) := by
   rw [xb4 hlt]
   congr 1
   exact Option.some.inj ((xap hlt).symm.trans hd)
  rw [hdrop] at w
  refine ⟨g1, fun U2 H2 => i + 1 <= ds.length /\ ∃ G' Ud', Ok X.K X.mg X.H₀ own Ud' U2 G' H2 /\ zai G1 G' /\ zaS G0 X.H₀ G' H2 /\ RW (zez ks gp fb (ds.drop (i + 1)) Ud') (zgm X.K X.mg G0 X.H₀ own ol Dn G1) (zau X.K X.mg E G0 X.H₀),
   fun U2 H2 ⟨h1, h2⟩ => ⟨ds.length - (i + 1), by omega, rfl, h1, h2⟩, fun x H2 hy => ?_⟩
  obtain ⟨G2, s2, r2⟩ := g2 x H2 hy G' e' ok'.ext
  unfold zez at w
  obtain ⟨us, e1, w⟩ := zcw w.of_bind
  refine ⟨G2, d, s2.e, r2, RW.ok_of e1 fun ws rws => ?_⟩
  have ok2 := (ok'.step s2).setAll hko rws
  refine ⟨G2, _, ok2, s'.trans s2, w.of_bind.mono (fun o _ z => ?_) fun _ z => z⟩
  cases o with
  | nx U3 => exact fun U4 G4 H4 ok4 s4 e4 => ⟨hlt, G4, U3, ok4, (e'.trans s2.g).trans e4, s4, z⟩
  | ct U3 => exact fun U4 G4 H4 ok4 s4 e4 => ⟨hlt, G4, U3, ok4, (e'.trans s2.g).trans e4, s4, z⟩
  | bk U3 => exact fun U4 G4 H4 ok4 s4 e4 => (show zgm X.K X.mg G0 X.H₀ own ol Dn G1 (.nx U3) from z) U4 G4 H4 ok4 s4 ((e'.trans s2.g).trans e4)
  | rt d => exact z
  | rf d => exact z
 ·left
  have hi2 : i = ds.length := by omega
  subst hi2
  rw [List.drop_length] at w
  refine ⟨it.stop H' (e'.trans ok'.ext), ?_⟩
  unfold zez at w
  exact (show zgm X.K X.mg G0 X.H₀ own ol Dn G1 (.nx Ud') from w) U' G' H' ok' s' e'
def zax (c : DSt -> R Bool) (fb : DSt -> R Out) : Nat -> DSt -> R Out
 | 0, _ => .bad
 | n + 1, U => (c U).bind fun k => bif k then (fb U).bind fun o => match o with
   | .nx U' => zax c fb n U'
   | .ct U' => zax c fb n U'
   | .bk U' => .ok (.nx U')
   | .rt d => .ok (.rt d)
   | .rf d => .ok (.rf d)
  else .ok (.nx U)
open Classical in
noncomputable def zaT (c : DSt -> R Bool) (fb : DSt -> R Out) : DSt -> R Out := fun U => if h : ∃ n, zax c fb n U ≠ .bad then zax c fb (Classical.choose h) U else .bad
theorem zcx {c : DSt -> R Bool} {fb : DSt -> R Out} : ∀ (n : Nat) (U : DSt) (r : R Out), zax c fb n U = r -> r ≠ .bad -> ∀ k, zax c fb (n + k) U = r
 | 0, U, r, h, hr, k => absurd h.symm hr
 | n + 1, U, r, h, hr, k => by
  rw [show n + 1 + k = (n + k) + 1 by omega]
  unfold zax at h ⊢
  cases hc : c U with
  | bad => rw [hc] at h; exact absurd h.symm hr
  | err e => rw [hc] at h; exact h
  | ok b =>
   rw [hc] at h
   cases b with
   | false => exact h
   | true =>
    have h' : (fb U).bind (fun o => match o with
     | .nx U' => zax c fb n U'
     | .ct U' => zax c fb n U'
     | .bk U' => .ok (.nx U')
     | .rt d => .ok (.rt d)
     | .rf d => .ok (.rf d)) = r := h
    show (fb U).bind (fun o => match o with
     | .nx U' => zax c fb (n + k) U'
     | .ct U' => zax c fb (n + k) U'
     | .bk U' => .ok (.nx U')
     | .rt d => .ok (.rt d)
     | .rf d => .ok (.rf d)) = r
    cases hf : fb U with
    | bad => rw [hf] at h'; exact absurd h'.symm hr
    | err e => rw [hf] at h'; exact h'
    | ok o =>
     rw [hf] at h'
     cases o with
     | nx U' => exact zcx n U' r h' hr k
     | ct U' => exact zcx n U' r h' hr k
     | bk U' => exact h'
     | rt d => exact h'
     | rf d => exact h'
theorem zbe {c : DSt -> R Bool} {fb : DSt -> R Out} {n : Nat} {U : DSt} {r : R Out} (h : zax c fb n U = r) (hr : r ≠ .bad) : zaT c fb U = r := by
 unfold zaT
 have hx : ∃ n, zax c fb n U ≠ .bad := ⟨n, by rw [h]; exact hr⟩
 rw [dif_pos hx]
 have h1 := Classical.choose_spec hx
 have a := zcx _ U _ rfl h1 n
 have b := zcx _ U _ h hr (Classical.choose hx)
 rw [Nat.add_comm] at b
 rw [<- a, b]
theorem zfA (c : DSt -> R Bool) (fb : DSt -> R Out) (U : DSt) : zaT c fb U = (c U).bind fun k => bif k then (fb U).bind fun o => match o with
   | .nx U' => zaT c fb U'
   | .ct U' => zaT c fb U'
   | .bk U' => .ok (.nx U')
   | .rt d => .ok (.rt d)
   | .rf d => .ok (.rf d)
  else .ok (.nx U) := by
 cases hc : c U with
 | bad =>
  unfold zaT
  rw [dif_neg]
  ·rfl
  ·rintro ⟨n, h⟩
   cases n with
   | zero => exact h rfl
   | succ n => unfold zax at h; rw [hc] at h; exact h rfl
 | err e => exact zbe (n := 1) (by unfold zax; rw [hc]; rfl) (by simp [R.bind])
 | ok b =>
  cases b with
  | false => exact zbe (n := 1) (by unfold zax; rw [hc]; rfl) (by simp [R.bind])
  | true =>
   show zaT c fb U = (fb U).bind _
   cases hf : fb U with
   | bad =>
    unfold zaT
    rw [dif_neg]
    ·rfl
    ·rintro ⟨n, h⟩
     cases n with
     | zero => exact h rfl
     | succ n => unfold zax at h; rw [hc] at h; simp only [R.bind, cond_true] at h; rw [hf] at h; exact h rfl
   | err e => exact zbe (n := 1) (by unfold zax; rw [hc]; show (fb U).bind _ = _; rw [hf]; rfl) (by simp [R.bind])
   | ok o =>
    have go : ∀ U', (∀ n, zax c fb (n + 1) U = zax c fb n U') -> zaT c fb U = zaT c fb U' := fun U' hn => by
     by_cases hx : ∃ n, zax c fb n U' ≠ .bad
     ·obtain ⟨n, h⟩ := hx
      rw [zbe (n := n) rfl h, zbe (n := n + 1) (hn n) h]
     ·have : zaT c fb U' = .bad := by unfold zaT; rw [dif_neg hx]
      rw [this]
      unfold zaT
      rw [dif_neg]
      rintro ⟨n, h⟩
      cases n with
      | zero => exact h rfl
      | succ n => rw [hn n] at h; exact hx ⟨n, h⟩
    cases o with
    | nx U' => exact go U' fun n => by unfold zax; rw [hc]; show (fb U).bind _ = _; rw [hf]; cases n <;> rfl
    | ct U' => exact go U' fun n => by unfold zax; rw [hc]; show (fb U).bind _ = _; rw [hf]; cases n <;> rfl
    | bk U' => exact zbe (n := 1) (by unfold zax; rw [hc]; show (fb U).bind _ = _; rw [hf]; rfl) (by simp [R.bind])
    | rt d => exact zbe (n := 1) (by unfold zax; rw [hc]; show (fb U).bind _ = _; rw [hf]; rfl) (by simp [R.bind])
    | rf d => exact zbe (n := 1) (by unfold zax; rw [hc]; show (fb U).bind _ = _; rw [hf]; rfl) (by simp [R.bind])
theorem zkc {c : Expr} {fc : DSt -> R Bool} (L : XL X) (hc : DT X E c fc) (hb : DSs X E own own own body fb) : DS X E own own ol (.While c body [] pos) (zaT fc fb) := fun G0 => PS.mono' (zpd L.own hc (hb G0)) fun Dn U H ⟨G, Ud, ok, s0, q⟩ => by
 have hx : ∃ n, zax fc fb n Ud ≠ .bad := by
  by_cases hx : ∃ n, zax fc fb n Ud ≠ .bad
  ·exact hx
  ·unfold zaT at q; rw [dif_neg hx] at q; exact (show False from q).elim
 obtain ⟨n, hn⟩ := hx
 rw [zbe rfl hn] at q
 refine ⟨fun m U' H' => ∃ G' Ud', Ok X.K X.mg X.H₀ own Ud' U' G' H' /\ zai G G' /\ zaS G0 X.H₀ G' H' /\ RW (zax fc fb m Ud') (zgm X.K X.mg G0 X.H₀ own ol Dn G) (zau X.K X.mg E G0 X.H₀), ⟨n, G, Ud, ok, zai.refl _, s0, q⟩, ?_⟩
 rintro m U1 H1 ⟨G1, Ud1, ok1, e1, s1, w⟩
 cases m with
 | zero => exact (show False from w).elim
 | succ m =>
  unfold zax at w
  have sp := ok1.pubStep s1
  refine ⟨_, Ud1, ok1.pub.1, w.of_bind.mono (fun k _ z G' H' s => ?_) fun _ z => z.step sp⟩
  have ok' := ok1.drop s.h
  have s' : zaS G0 X.H₀ G1 H' := s1.trans (.heap ok1.ext s.h)
  cases k with
  | true =>
   refine zwU ?_
   refine ⟨fun U2 H2 => ∃ G' Ud', Ok X.K X.mg X.H₀ own Ud' U2 G' H2 /\ zai G G' /\ zaS G0 X.H₀ G' H2 /\ RW (zax fc fb m Ud') (zgm X.K X.mg G0 X.H₀ own ol Dn G) (zau X.K X.mg E G0 X.H₀), fun U2 H2 h => ⟨m, xcu _, h⟩, ?_⟩
   refine ⟨G1, Ud1, ok', s', (show RW ((fb Ud1).bind _) _ _ from z).of_bind.mono (fun o _ z => ?_) fun _ z => z⟩
   cases o with
   | nx U3 => exact fun U4 G4 H4 ok4 s4 e4 => ⟨G4, U3, ok4, e1.trans e4, s4, z⟩
   | ct U3 => exact fun U4 G4 H4 ok4 s4 e4 => ⟨G4, U3, ok4, e1.trans e4, s4, z⟩
   | bk U3 => exact fun U4 G4 H4 ok4 s4 e4 => (show zgm X.K X.mg G0 X.H₀ own ol Dn G (.nx U3) from z) U4 G4 H4 ok4 s4 (e1.trans e4)
   | rt d => exact z
   | rf d => exact z
  | false =>
   refine zwT ?_
   exact (show zgm X.K X.mg G0 X.H₀ own ol Dn G (.nx Ud1) from z) U1 G1 H' ok' s' e1
end
def zdC (n : Nat) (ds : List D) : DSt := ds.map some ++ List.replicate (n - ds.length) none
def fin : R Out -> R D
 | .ok (.rt d) => .ok d
 | .ok (.rf ds) => .ok (.lst ds)
 | .ok (.nx _) => .ok .non
 | .ok _ => .bad
 | .err e => .err e
 | .bad => .bad
def fnM (n nN : Nat) (body : DSt -> R Out) : List D -> R D := fun ds => bif ds.length == n then fin (body (zdC nN ds)) else .bad
theorem Reps.startOk {K : xFg} {mg : Str -> Option Value} {G H : Hp} (e : zai G H) : ∀ {ds : List D} {vs : List V} (k : Nat), Reps K mg G ds vs -> Ok0 K mg (ds.map some ++ List.replicate k none) (vs.map some ++ List.replicate k none) G H
 | [], _, k, h => by
  cases h
  have := Ok0.nones (K := K) (mg := mg) (G := G) (H := H) (Ud := []) (U := []) ⟨e, rfl, fun i d q => by simp at q⟩ k
  simpa using this
 | d :: ds, _, k, ⟨v, r, h1, h2, h3⟩ => by
  subst h1
  exact (Reps.startOk e k h3).cons (x := some d) (y := some v) fun d' q => by cases q; exact ⟨v, rfl, h2⟩
section
variable {P : Program} {w : World} {K : xFg} {mg : Str -> Option Value} {base : Heap}
theorem zaA.mk' {x qual : Str} {st : Stmt} {f : Addr} {fd : FuncData} {N ps : List Str} {k n nN : Nat} {own' : List Nat} {body : DSt -> R Out} (F : Fun K x qual st f fd) (S : zdK N ps (zaf st)) (hm : mg x = some (.ref f)) (b : zhZ K fd ps [])
  (hn : ps.length = n) (hN : N.length = nN)
  (hb : ∀ (X : Cx) (E : XK), (∃ cdv A outer s H, X = zgl (CXe P w) P w K mg base N qual (zaf st) f cdv A outer s H E) -> XC X E k -> XL X -> DSs X E [] own' [] (zbx st) body) : zaA P w K mg base (k + 1) x (fnM n nN body) := by
 refine ⟨f, fd, ps, F.okX S (fun vs H Q E h => ?_) (fun cdv A outer s H vs Q E hr hsp => ?_), hm, F.kp, b⟩
 ·obtain ⟨G, ds, e, r, q⟩ := h
  by_cases hd : ds.length = n
  ·rw [<- r.length, hd, hn]
  ·have : (ds.length == n) = false := by simpa using hd
   unfold fnM at q
   rw [this] at q
   exact (show False from q).elim
 ·obtain ⟨G, ds, e, r, q⟩ := hsp
  have hd : ds.length = n := by
   by_cases hd : ds.length = n
   ·exact hd
   ·have : (ds.length == n) = false := by simpa using hd
    unfold fnM at q
    rw [this] at q
    exact (show False from q).elim
  unfold fnM at q
  rw [show (ds.length == n) = true by simpa using hd] at q
  have q' : RW (fin (body (zdC nN ds))) (zag K mg Q G H) (zau K mg E G H) := q
  refine ⟨_, hb _ E ⟨cdv, A, outer, s, H, rfl⟩ ⟨rfl, hr, zuu⟩ ⟨PassesOwn.leaving⟩ G, G, zdC nN ds, ?_, .refl e, ?_⟩
  ·have := Reps.startOk e (N.length - vs.length) r
   unfold L2.start zdC
   rw [<- hN, r.length]
   exact .zero this
  ·cases hbd : body (zdC nN ds) with
   | bad => rw [hbd] at q'; exact q'
   | err e => rw [hbd] at q'; exact q'
   | ok o =>
    rw [hbd] at q'
    cases o with
    | rt d => exact fun v G' H' s r => (show zag K mg Q G H d from q') v G' H' s r
    | rf es =>
     intro a vs G' H' s n e g r
     have q2 : zag K mg Q G H (.lst es) := q'
     have sg : zai G' (upd G' a (.lst vs)) := zbd g
     refine q2 (.ref a) (upd G' a (.lst vs)) H' ⟨s.g.trans sg, s.h, fun b u p => ?_, fun b u p1 p2 => ?_⟩ ⟨a, vs, rfl, SqL.of zae, r.mono sg⟩
     ·by_cases hb : b = a
      ·subst hb; rw [zae] at p; cases p; exact e
      ·rw [zah hb] at p; exact s.e b u p
     ·have hb : b ≠ a := zad p1 n
      rw [zah hb]; exact s.c b u p1 p2
    | nx U => exact fun U' G' H' ok s _ => (show zag K mg Q G H .non from q') .non G' H' s rfl
    | bk U => exact (show False from q').elim
    | ct U => exact (show False from q').elim
end
theorem XC.lc {X : Cx} {E : XK} {k : Nat} (C : XC X E k) (scope : Scope) (NY : List Str) (s0 : Shared) (H0 : Hp) (Ca : Addr) (ex : List Addr) : XC (zdz X scope NY s0 H0 Ca ex) E0 k := ⟨C.calm, C.room, zw2⟩
end DL
namespace DL
open L2
mutual
def eqD : D -> D -> Bool
 | .non, .non => true
 | .bl a, .bl b => a == b
 | .int a, .int b => a == b
 | .str a, .str b => a == b
 | .bl a, .int b => (if a then (1 : Int) else 0) == b
 | .int a, .bl b => a == (if b then (1 : Int) else 0)
 | .tup xs, .tup ys => eqDs xs ys
 | .lst xs, .lst ys => eqDs xs ys
 | _, _ => false
def eqDs : List D -> List D -> Bool
 | [], [] => true
 | x :: xs, y :: ys => eqD x y && eqDs xs ys
 | _, _ => false
end
def zcy : Nat -> D -> Bool
 | _, .non => true
 | _, .bl _ => true
 | _, .int _ => true
 | _, .str _ => true
 | n + 1, .tup xs => xs.all (zcy n)
 | n + 1, .lst xs => xs.all (zcy n)
 | _, _ => false
theorem zdm : ∀ (xs ys : List D), ((List.range (min xs.length ys.length)).all (fun j => eqD (xs.getD j .non) (ys.getD j .non)) && xs.length == ys.length) = eqDs xs ys
 | [], [] => by unfold eqDs; rfl
 | [], _ :: _ => by unfold eqDs; simp
 | _ :: _, [] => by unfold eqDs; simp
 | x :: xs, y :: ys => by
  unfold eqDs
  rw [<- zdm xs ys]
  simp only [xam, Nat.succ_min_succ, List.range_succ_eq_map, List.all_cons, List.getD_cons_zero, List.all_map, Bool.and_assoc]
  congr 2
  rw [xcm]; simp
theorem zhn : ∀ (n : Nat) (d : D), zcy n d = true -> eqD d d = true := by
 intro n
 induction n with
 | zero => intro d h; cases d <;> first | (simp [zcy] at h; done) | (unfold eqD; simp; done)
 | succ n ih =>
  have hl : ∀ xs : List D, xs.all (zcy n) = true -> eqDs xs xs = true := fun xs => by
   induction xs with
   | nil => intro _; unfold eqDs; rfl
   | cons x xs ihx =>
    intro h
    rw [List.all_cons, xax] at h
    unfold eqDs
    rw [ih x h.1, ihx h.2]; rfl
  intro d h
  cases d with
  | tup xs => unfold eqD; exact hl xs (by unfold zcy at h; exact h)
  | lst xs => unfold eqD; exact hl xs (by unfold zcy at h; exact h)
  | _ => first | (simp [zcy] at h; done) | (unfold eqD; simp; done)
def vOf : D -> Option V
 | .non => some .non
 | .bl b => some (.bl b)
 | .int i => some (.int i)
 | .str x => some (.str x)
 | _ => none
theorem zbf {K : xFg} {mg : Str -> Option Value} {G : Hp} {d : D} {v x : V} (h : vOf d = some v) (r : Rep K mg G d x) : x = v /\ zjl v = true := by
 cases d <;> first | (simp [vOf] at h; done) | (simp only [vOf, Option.some.injEq] at h; subst h; simp only [Rep] at r; exact ⟨r, rfl⟩)
theorem zpN {d d' : D} {v v' : V} (h : vOf d = some v) (h' : vOf d' = some v') : eqD d d' = eqV v v' := by
 cases d <;> first | (simp [vOf] at h; done) | (simp only [vOf, Option.some.injEq] at h; subst h; cases d' <;> first | (simp [vOf] at h'; done) | (simp only [vOf, Option.some.injEq] at h'; subst h'; unfold eqD eqV; first | rfl | simp))
theorem znl {d d' : D} {v : V} (h : vOf d = some v) (h' : vOf d' = some v) : d = d' := by
 cases d <;> first | (simp [vOf] at h; done) | (simp only [vOf, Option.some.injEq] at h; subst h; cases d' <;> first | (simp [vOf] at h'; done) | (simp only [vOf, Option.some.injEq] at h'; cases h'; rfl))
theorem zaL {n : Nat} {d : D} (h : zcy n d = true) : (∃ v, vOf d = some v) \/ (∃ m xs, n = m + 1 /\ d = .tup xs /\ xs.all (zcy m) = true) \/ (∃ m xs, n = m + 1 /\ d = .lst xs /\ xs.all (zcy m) = true) := by
 cases d with
 | tup xs => cases n with
  | zero => simp [zcy] at h
  | succ m => exact .inr (.inl ⟨m, xs, rfl, rfl, by unfold zcy at h; exact h⟩)
 | lst xs => cases n with
  | zero => simp [zcy] at h
  | succ m => exact .inr (.inr ⟨m, xs, rfl, rfl, by unfold zcy at h; exact h⟩)
 | non => exact .inl ⟨_, rfl⟩
 | bl b => exact .inl ⟨_, rfl⟩
 | int i => exact .inl ⟨_, rfl⟩
 | str x => exact .inl ⟨_, rfl⟩
 | _ => simp [zcy] at h
section
variable {X : Cx} {pins : List (Addr × Obj)} {U : St} {G H : Hp} {s : Shared}
theorem zkd (I : Inv X pins U H s) {a : Addr} {xs ys : List V} (h1 : SqT X.K H a xs) (h2 : SqL X.K H a ys) : False := by
 obtain ⟨_, _, ⟨o, e, c, _⟩, _⟩ := I.tuple h1
 obtain ⟨_, _, ⟨o', _, e', c', _⟩, _⟩ := I.list h2
 rw [e] at e'; cases e'
 rw [c] at c'
 exact absurd c' (by simp)
theorem zdn {v : V} {a : Addr} (h : zjl v = true) : v ≠ .ref a := by rintro rfl; cases h
theorem zjt (I : Inv X pins U H s) (e : zai G H) : ∀ (n : Nat) {d d' : D} {v : V}, zcy n d = true -> zcy n d' = true -> Rep X.K X.mg G d v -> Rep X.K X.mg G d' v -> d = d' := by
 intro n
 induction n with
 | zero =>
  intro d d' v h h' r r'
  rcases zaL h with ⟨w, hw⟩ | ⟨_, _, z, _⟩ | ⟨_, _, z, _⟩ <;> try omega
  rcases zaL h' with ⟨w', hw'⟩ | ⟨_, _, z, _⟩ | ⟨_, _, z, _⟩ <;> try omega
  have e1 := (zbf hw r).1
  have e2 := (zbf hw' r').1
  rw [<- e1] at hw; rw [<- e2] at hw'
  exact znl hw hw'
 | succ n ih =>
  have hl : ∀ (xs ys : List D) (vs : List V), xs.all (zcy n) = true -> ys.all (zcy n) = true -> Reps X.K X.mg G xs vs -> Reps X.K X.mg G ys vs -> xs = ys := by
   intro xs
   induction xs with
   | nil =>
    intro ys vs _ _ r r'
    cases r
    cases ys with
    | nil => rfl
    | cons y ys => obtain ⟨_, _, z, _⟩ := r'; cases z
   | cons x xs ihx =>
    intro ys vs h h' r r'
    obtain ⟨v, t, rfl, r1, r2⟩ := r
    cases ys with
    | nil => cases r'
    | cons y ys =>
     obtain ⟨v', t', z, r1', r2'⟩ := r'
     cases z
     rw [List.all_cons, xax] at h h'
     rw [ih h.1 h'.1 r1 r1', ihx ys _ h.2 h'.2 r2 r2']
  intro d d' v h h' r r'
  rcases zaL h with ⟨w, hw⟩ | ⟨m, xs, hm, rfl, hx⟩ | ⟨m, xs, hm, rfl, hx⟩
  ·rcases zaL h' with ⟨w', hw'⟩ | ⟨m', ys, hm', rfl, hy⟩ | ⟨m', ys, hm', rfl, hy⟩
   ·have e1 := (zbf hw r).1
    have e2 := (zbf hw' r').1
    rw [<- e1] at hw; rw [<- e2] at hw'
    exact znl hw hw'
   ·obtain ⟨e1, e2⟩ := zbf hw r
    obtain ⟨a, vs, z, _⟩ := r'
    exact absurd (e1.symm.trans z) (zdn e2)
   ·obtain ⟨e1, e2⟩ := zbf hw r
    obtain ⟨a, vs, z, _⟩ := r'
    exact absurd (e1.symm.trans z) (zdn e2)
  ·obtain rfl : n = m := by omega
   obtain ⟨a, vs, rfl, q1, q2⟩ := r
   rcases zaL h' with ⟨w', hw'⟩ | ⟨m', ys, hm', rfl, hy⟩ | ⟨m', ys, hm', rfl, hy⟩
   ·obtain ⟨e1, e2⟩ := zbf hw' r'
    exact absurd e1.symm (zdn e2)
   ·obtain rfl : n = m' := by omega
    obtain ⟨a', vs', z, q1', q2'⟩ := r'
    cases z
    have := I.tuple_inj (zai.sqT e q1) (zai.sqT e q1')
    subst this
    rw [hl xs ys _ hx hy q2 q2']
   ·obtain ⟨a', vs', z, q1', q2'⟩ := r'
    cases z
    exact (zkd I (zai.sqT e q1) (e.seq q1')).elim
  ·obtain rfl : n = m := by omega
   obtain ⟨a, vs, rfl, q1, q2⟩ := r
   rcases zaL h' with ⟨w', hw'⟩ | ⟨m', ys, hm', rfl, hy⟩ | ⟨m', ys, hm', rfl, hy⟩
   ·obtain ⟨e1, e2⟩ := zbf hw' r'
    exact absurd e1.symm (zdn e2)
   ·obtain ⟨a', vs', z, q1', q2'⟩ := r'
    cases z
    exact (zkd I (zai.sqT e q1') (e.seq q1)).elim
   ·obtain rfl : n = m' := by omega
    obtain ⟨a', vs', z, q1', q2'⟩ := r'
    cases z
    have := I.list_inj (e.seq q1) (e.seq q1')
    subst this
    rw [hl xs ys _ hx hy q2 q2']
theorem zu2 {α : Type} {us : List α} {j : Nat} (h : j < us.toArray.size) : us.toArray[j] = us[j]'(by simpa using h) := by simp
theorem znm {α : Type} {xs : List α} {d : α} {j : Nat} (h : j < xs.length) : xs.getD j d = xs[j] := by simp [List.getD, h]
open SeqAt in
theorem zfd {A : Around} {n : Nat} (ih : ∀ {d d' : D} {x x' : V} {u u' : Value}, zcy n d = true -> zcy n d' = true -> Rep X.K X.mg G d x -> RelV x u -> Rep X.K X.mg G d' x' -> RelV x' u' -> EqAt A s u u' (eqD d d'))
  {xs ys : List D} {vs ws : List V} {us us' : List Value} (h : xs.all (zcy n) = true) (h' : ys.all (zcy n) = true) (r : Reps X.K X.mg G xs vs) (q : zaP vs us) (r' : Reps X.K X.mg G ys ws) (q' : zaP ws us') :
  ∀ j (h1 : j < us.toArray.size) (h2 : j < us'.toArray.size), EqAt A s us.toArray[j] us'.toArray[j] (eqD (xs.getD j .non) (ys.getD j .non)) := by
 intro j h1 h2
 have l1 : j < vs.length := by rw [q.length]; simpa using h1
 have l2 : j < ws.length := by rw [q'.length]; simpa using h2
 have l3 : j < xs.length := by rw [r.length]; exact l1
 have l4 : j < ys.length := by rw [r'.length]; exact l2
 obtain ⟨v, e1, e2⟩ := r.get (i := j) (d := xs[j]) (by simp [l3])
 obtain ⟨w, e3, e4⟩ := r'.get (i := j) (d := ys[j]) (by simp [l4])
 obtain ⟨u, e5, e6⟩ := q.get e1
 obtain ⟨u', e7, e8⟩ := q'.get e3
 have z1 : us.toArray[j] = u := by rw [zu2 h1]; exact (xah.mp e5).2
 have z2 : us'.toArray[j] = u' := by rw [zu2 h2]; exact (xah.mp e7).2
 rw [z1, z2, znm l3, znm l4]
 exact ih (xay.mp h _ (xbz l3)) (xay.mp h' _ (xbz l4)) e2 e6 e4 e8
theorem in1_units (A : Around) : A.in1.units = A.units + 1 := rfl
open SeqAt in
theorem zu3 {A : Around} {x x' : V} {u u' : Value} (q : RelV x u) (q' : RelV x' u') (f : zjl x = true) (f' : zjl x' = true) : RcAt A s u u' (eqV x x') /\ RcNeAt A s u u' (!eqV x x') := by
 cases x with
 | non =>
  cases (show u = Value.none from q)
  cases x' with
  | non => cases (show u' = Value.none from q'); exact ⟨RcAt.none_none, RcNeAt.none_none⟩
  | bl b => cases (show u' = Value.bool b from q'); exact ⟨RcAt.none_bool b, RcNeAt.none_bool b⟩
  | int b => obtain ⟨tb, rfl⟩ := (show ∃ t, u' = Value.int b t from q'); exact ⟨RcAt.none_int b tb, RcNeAt.none_int b tb⟩
  | str b => obtain ⟨tb, rfl⟩ := (show ∃ t, u' = Value.str b t from q'); exact ⟨RcAt.none_str b tb, RcNeAt.none_str b tb⟩
  | _ => cases f'
 | bl a =>
  cases (show u = Value.bool a from q)
  cases x' with
  | non => cases (show u' = Value.none from q'); exact ⟨RcAt.bool_none a, RcNeAt.bool_none a⟩
  | bl b => cases (show u' = Value.bool b from q'); exact ⟨RcAt.bool_bool a b, RcNeAt.bool_bool a b⟩
  | int b => obtain ⟨tb, rfl⟩ := (show ∃ t, u' = Value.int b t from q'); exact ⟨RcAt.bool_int a b tb, RcNeAt.bool_int a b tb⟩
  | str b => obtain ⟨tb, rfl⟩ := (show ∃ t, u' = Value.str b t from q'); exact ⟨RcAt.bool_str a b tb, RcNeAt.bool_str a b tb⟩
  | _ => cases f'
 | int a =>
  obtain ⟨ta, rfl⟩ := (show ∃ t, u = Value.int a t from q)
  cases x' with
  | non => cases (show u' = Value.none from q'); exact ⟨RcAt.int_none a ta, RcNeAt.int_none a ta⟩
  | bl b => cases (show u' = Value.bool b from q'); exact ⟨RcAt.int_bool a ta b, RcNeAt.int_bool a ta b⟩
  | int b => obtain ⟨tb, rfl⟩ := (show ∃ t, u' = Value.int b t from q'); exact ⟨RcAt.int_int a ta b tb, RcNeAt.int_int a ta b tb⟩
  | str b => obtain ⟨tb, rfl⟩ := (show ∃ t, u' = Value.str b t from q'); exact ⟨RcAt.int_str a ta b tb, RcNeAt.int_str a ta b tb⟩
  | _ => cases f'
 | str a =>
  obtain ⟨ta, rfl⟩ := (show ∃ t, u = Value.str a t from q)
  cases x' with
  | non => cases (show u' = Value.none from q'); exact ⟨RcAt.str_none a ta, RcNeAt.str_none a ta⟩
  | bl b => cases (show u' = Value.bool b from q'); exact ⟨RcAt.str_bool a ta b, RcNeAt.str_bool a ta b⟩
  | int b => obtain ⟨tb, rfl⟩ := (show ∃ t, u' = Value.int b t from q'); exact ⟨RcAt.str_int a ta b tb, RcNeAt.str_int a ta b tb⟩
  | str b => obtain ⟨tb, rfl⟩ := (show ∃ t, u' = Value.str b t from q'); exact ⟨RcAt.str_str a ta b tb, RcNeAt.str_str a ta b tb⟩
  | _ => cases f'
 | _ => cases f
open SeqAt in
theorem zb5 {A : Around} {x : V} {u : Value} {b : Addr} {items : Array Value} (fx : zjl x = true) (q : RelV x u) (hA : A.units < cLine) (h : s.heap.IsTuple b items \/ s.heap.IsList b items) : EqAt A s u (.ref b) false /\ EqAt A s (.ref b) u false /\ RcAt A s u (.ref b) false /\ RcAt A s (.ref b) u false /\ RcNeAt A s u (.ref b) true /\ RcNeAt A s (.ref b) u true := by
 cases x with
 | non =>
  obtain rfl : u = Value.none := q
  rcases h with h | h
  ·exact ⟨EqAt.none_tuple h hA, EqAt.tuple_none h hA, RcAt.none_tuple h hA, RcAt.tuple_none h hA, RcNeAt.none_tuple h hA, RcNeAt.tuple_none h hA⟩
  ·exact ⟨EqAt.none_list h hA, EqAt.list_none h hA, RcAt.none_list h hA, RcAt.list_none h hA, RcNeAt.none_list h hA, RcNeAt.list_none h hA⟩
 | bl a =>
  obtain rfl : u = Value.bool a := q
  rcases h with h | h
  ·exact ⟨EqAt.bool_tuple _ h hA, EqAt.tuple_bool _ h hA, RcAt.bool_tuple _ h hA, RcAt.tuple_bool _ h hA, RcNeAt.bool_tuple _ h hA, RcNeAt.tuple_bool _ h hA⟩
  ·exact ⟨EqAt.bool_list _ h hA, EqAt.list_bool _ h hA, RcAt.bool_list _ h hA, RcAt.list_bool _ h hA, RcNeAt.bool_list _ h hA, RcNeAt.list_bool _ h hA⟩
 | int a =>
  obtain ⟨t, rfl⟩ : ∃ t, u = Value.int a t := q
  rcases h with h | h
  ·exact ⟨EqAt.int_tuple _ _ h hA, EqAt.tuple_int _ _ h hA, RcAt.int_tuple _ _ h hA, RcAt.tuple_int _ _ h hA, RcNeAt.int_tuple _ _ h hA, RcNeAt.tuple_int _ _ h hA⟩
  ·exact ⟨EqAt.int_list _ _ h hA, EqAt.list_int _ _ h hA, RcAt.int_list _ _ h hA, RcAt.list_int _ _ h hA, RcNeAt.int_list _ _ h hA, RcNeAt.list_int _ _ h hA⟩
 | str a =>
  obtain ⟨t, rfl⟩ : ∃ t, u = Value.str a t := q
  rcases h with h | h
  ·exact ⟨EqAt.str_tuple _ _ h hA, EqAt.tuple_str _ _ h hA, RcAt.str_tuple _ _ h hA, RcAt.tuple_str _ _ h hA, RcNeAt.str_tuple _ _ h hA, RcNeAt.tuple_str _ _ h hA⟩
  ·exact ⟨EqAt.str_list _ _ h hA, EqAt.list_str _ _ h hA, RcAt.str_list _ _ h hA, RcAt.list_str _ _ h hA, RcNeAt.str_list _ _ h hA, RcNeAt.list_str _ _ h hA⟩
 | _ => cases fx
theorem zdT {xs ys : List D} : eqD (.tup xs) (.tup ys) = eqDs xs ys /\ eqD (.lst xs) (.lst ys) = eqDs xs ys /\ eqD (.tup xs) (.lst ys) = false /\ eqD (.lst xs) (.tup ys) = false := by
 refine ⟨?_, ?_, ?_, ?_⟩ <;> (unfold eqD; rfl)
theorem zcz {d : D} {v : V} {ys : List D} (h : vOf d = some v) : eqD d (.tup ys) = false /\ eqD d (.lst ys) = false /\ eqD (.tup ys) d = false /\ eqD (.lst ys) d = false := by
 cases d <;> first | (simp [vOf] at h; done) | (refine ⟨?_, ?_, ?_, ?_⟩ <;> (unfold eqD; rfl))
set_option maxHeartbeats 4000000 in
open SeqAt in
theorem znn (I : Inv X pins U H s) (e : zai G H) : ∀ (n : Nat) {A : Around} {d d' : D} {x x' : V} {u u' : Value}, A.units + n < cLine -> zcy n d = true -> zcy n d' = true -> Rep X.K X.mg G d x -> RelV x u -> Rep X.K X.mg G d' x' -> RelV x' u' ->
  EqAt A s u u' (eqD d d') /\ RcAt A s u u' (eqD d d') /\ RcNeAt A s u u' (!eqD d d') := by
 have ff : ∀ {A : Around} {d d' : D} {v v' x x' : V} {u u' : Value}, vOf d = some v -> vOf d' = some v' -> Rep X.K X.mg G d x -> RelV x u -> Rep X.K X.mg G d' x' -> RelV x' u' -> EqAt A s u u' (eqD d d') /\ RcAt A s u u' (eqD d d') /\ RcNeAt A s u u' (!eqD d d') := by
  intro A d d' v v' x x' u u' hv hv' r q r' q'
  obtain ⟨rfl, f1⟩ := zbf hv r
  obtain ⟨rfl, f2⟩ := zbf hv' r'
  rw [zpN hv hv']
  exact ⟨zup q q' f1 f2, zu3 q q' f1 f2⟩
 have seq : ∀ {d : D} {m : Nat} {xs : List D} {x : V} {u : Value}, d = .tup xs \/ d = .lst xs -> Rep X.K X.mg G d x -> RelV x u -> ∃ b items, u = .ref b /\ (s.heap.IsTuple b items \/ s.heap.IsList b items) := by
  intro d m xs x u hd r q
  rcases hd with rfl | rfl
  ·obtain ⟨a, vs, rfl, q1, q2⟩ := r
   obtain ⟨us, v1, t1, _⟩ := I.tuple (zai.sqT e q1)
   exact ⟨a, _, q, .inl t1⟩
  ·obtain ⟨a, vs, rfl, q1, q2⟩ := r
   obtain ⟨us, v1, t1, _⟩ := I.list (e.seq q1)
   exact ⟨a, _, q, .inr t1.isList⟩
 intro n
 induction n with
 | zero =>
  intro A d d' x x' u u' hu h h' r q r' q'
  rcases zaL h with ⟨w, hw⟩ | ⟨_, _, z, _⟩ | ⟨_, _, z, _⟩ <;> try omega
  rcases zaL h' with ⟨w', hw'⟩ | ⟨_, _, z, _⟩ | ⟨_, _, z, _⟩ <;> try omega
  exact ff hw hw' r q r' q'
 | succ n ih =>
  intro A d d' x x' u u' hu h h' r q r' q'
  have hA : A.units < cLine := by omega
  have ih' : ∀ {d d' : D} {x x' : V} {u u' : Value}, zcy n d = true -> zcy n d' = true -> Rep X.K X.mg G d x -> RelV x u -> Rep X.K X.mg G d' x' -> RelV x' u' -> EqAt A.in1 s u u' (eqD d d') :=
   fun a b c d e f => (ih (A := A.in1) (by rw [in1_units]; omega) a b c d e f).1
  rcases zaL h with ⟨w, hw⟩ | ⟨m, xs, hm, rfl, hx⟩ | ⟨m, xs, hm, rfl, hx⟩
  ·rcases zaL h' with ⟨w', hw'⟩ | ⟨m', ys, hm', rfl, hy⟩ | ⟨m', ys, hm', rfl, hy⟩
   ·exact ff hw hw' r q r' q'
   ·obtain ⟨rfl, f1⟩ := zbf hw r
    obtain ⟨b, items, rfl, hb⟩ := seq (m := m') (.inl rfl) r' q'
    obtain ⟨z1, _, z3, _, z5, _⟩ := zb5 f1 q hA hb
    rw [(zcz hw).1]; exact ⟨z1, z3, z5⟩
   ·obtain ⟨rfl, f1⟩ := zbf hw r
    obtain ⟨b, items, rfl, hb⟩ := seq (m := m') (.inr rfl) r' q'
    obtain ⟨z1, _, z3, _, z5, _⟩ := zb5 f1 q hA hb
    rw [(zcz hw).2.1]; exact ⟨z1, z3, z5⟩
  ·obtain rfl : n = m := by omega
   rcases zaL h' with ⟨w', hw'⟩ | ⟨m', ys, hm', rfl, hy⟩ | ⟨m', ys, hm', rfl, hy⟩
   ·obtain ⟨rfl, f1⟩ := zbf hw' r'
    obtain ⟨b, items, rfl, hb⟩ := seq (m := n) (.inl rfl) r q
    obtain ⟨_, z2, _, z4, _, z6⟩ := zb5 f1 q' hA hb
    rw [(zcz hw').2.2.1]; exact ⟨z2, z4, z6⟩
   ·obtain rfl : n = m' := by omega
    have hr := r; have hr' := r'
    obtain ⟨a, vs, rfl, q1, q2⟩ := r
    obtain rfl : u = Value.ref a := q
    obtain ⟨us, v1, t1, _⟩ := I.tuple (zai.sqT e q1)
    obtain ⟨b, ws, rfl, q1', q2'⟩ := r'
    obtain rfl : u' = Value.ref b := q'
    obtain ⟨us', v1', t1', _⟩ := I.tuple (zai.sqT e q1')
    have t1 : s.heap.IsTuple a us.toArray := t1
    have t1' : s.heap.IsTuple b us'.toArray := t1'
    have z := RcAt.tuples t1 t1' hA (zfd ih' hx hy q2 v1 q2' v1')
    have zn := RcNeAt.tuples t1 t1' hA (zfd ih' hx hy q2 v1 q2' v1')
    have hz : ((List.range (min us.toArray.size us'.toArray.size)).all (fun j => eqD (xs.getD j .non) (ys.getD j .non)) && us.toArray.size == us'.toArray.size) = eqD (.tup xs) (.tup ys) := by
     rw [zdT.1, <- zdm]
     simp only [xag, <- v1.length, <- v1'.length, <- q2.length, <- q2'.length]
    rw [hz] at z zn
    refine ⟨?_, z, zn⟩
    by_cases hab : a = b
    ·subst hab
     have ed := zjt I e (n + 1) h h' hr hr'
     rw [ed, zhn _ _ h']; exact EqAt.same _
    ·exact EqAt.of_refs hab z
   ·obtain ⟨a, vs, rfl, q1, q2⟩ := r
    obtain rfl : u = Value.ref a := q
    obtain ⟨us, v1, t1, _⟩ := I.tuple (zai.sqT e q1)
    obtain ⟨b, ws, rfl, q1', q2'⟩ := r'
    obtain rfl : u' = Value.ref b := q'
    obtain ⟨us', v1', t1', _⟩ := I.list (e.seq q1')
    have t1 : s.heap.IsTuple a us.toArray := t1
    rw [zdT.2.2.1]
    exact ⟨EqAt.tuple_list t1 t1'.isList hA, RcAt.tuple_list t1 t1'.isList hA, RcNeAt.tuple_list t1 t1'.isList hA⟩
  ·obtain rfl : n = m := by omega
   rcases zaL h' with ⟨w', hw'⟩ | ⟨m', ys, hm', rfl, hy⟩ | ⟨m', ys, hm', rfl, hy⟩
   ·obtain ⟨rfl, f1⟩ := zbf hw' r'
    obtain ⟨b, items, rfl, hb⟩ := seq (m := n) (.inr rfl) r q
    obtain ⟨_, z2, _, z4, _, z6⟩ := zb5 f1 q' hA hb
    rw [(zcz hw').2.2.2]; exact ⟨z2, z4, z6⟩
   ·obtain ⟨a, vs, rfl, q1, q2⟩ := r
    obtain rfl : u = Value.ref a := q
    obtain ⟨us, v1, t1, _⟩ := I.list (e.seq q1)
    obtain ⟨b, ws, rfl, q1', q2'⟩ := r'
    obtain rfl : u' = Value.ref b := q'
    obtain ⟨us', v1', t1', _⟩ := I.tuple (zai.sqT e q1')
    have t1' : s.heap.IsTuple b us'.toArray := t1'
    rw [zdT.2.2.2]
    exact ⟨EqAt.list_tuple t1.isList t1' hA, RcAt.list_tuple t1.isList t1' hA, RcNeAt.list_tuple t1.isList t1' hA⟩
   ·obtain rfl : n = m' := by omega
    have hr := r; have hr' := r'
    obtain ⟨a, vs, rfl, q1, q2⟩ := r
    obtain rfl : u = Value.ref a := q
    obtain ⟨us, v1, t1, _⟩ := I.list (e.seq q1)
    obtain ⟨b, ws, rfl, q1', q2'⟩ := r'
    obtain rfl : u' = Value.ref b := q'
    obtain ⟨us', v1', t1', _⟩ := I.list (e.seq q1')
    have both : RcAt A s (.ref a) (.ref b) (eqD (.lst xs) (.lst ys)) /\ RcNeAt A s (.ref a) (.ref b) (!eqD (.lst xs) (.lst ys)) := by
     by_cases hl : us.toArray.size = us'.toArray.size
     ·have z := RcAt.lists t1.isList t1'.isList hl hA (zfd ih' hx hy q2 v1 q2' v1')
      have zn := RcNeAt.lists t1.isList t1'.isList hl hA (zfd ih' hx hy q2 v1 q2' v1')
      have hz : (List.range us.toArray.size).all (fun j => eqD (xs.getD j .non) (ys.getD j .non)) = eqD (.lst xs) (.lst ys) := by
       have hl' : xs.length = ys.length := by rw [q2.length, q2'.length, v1.length, v1'.length]; simpa using hl
       rw [zdT.2.1, <- zdm, hl', Nat.min_self, xag, <- v1.length, <- q2.length, hl']
       simp
      rw [hz] at z zn
      exact ⟨z, zn⟩
     ·have z := RcAt.lists_lengths t1.isList t1'.isList (by simpa using hl) hA
      have zn := RcNeAt.lists_lengths t1.isList t1'.isList (by simpa using hl) hA
      have hz : eqD (.lst xs) (.lst ys) = false := by
       have hl' : ¬ xs.length = ys.length := by rw [q2.length, q2'.length, v1.length, v1'.length]; simpa using hl
       rw [zdT.2.1, <- zdm]
       simp [hl']
      rw [hz]
      exact ⟨z, zn⟩
    refine ⟨?_, both⟩
    by_cases hab : a = b
    ·subst hab
     have ed := zjt I e (n + 1) h h' hr hr'
     rw [ed, zhn _ _ h']; exact EqAt.same _
    ·exact EqAt.of_refs hab both.1
end
end DL
namespace DL
open L2 PyProof.Rows
def B (n : Nat) (i : Int) : Prop := i.natAbs < 2 ^ n
theorem B.mono {m n : Nat} {i : Int} (h : B m i) (l : m <= n) : B n i := xaq h (Nat.pow_le_pow_right (by decide) l)
theorem B.mul {m n : Nat} {i j : Int} (a : B m i) (b : B n j) : B (m + n) (i * j) := by
 unfold B at *
 rw [xcr, Nat.pow_add]
 exact Nat.mul_lt_mul'' a b
theorem B.add {m n : Nat} {i j : Int} (a : B m i) (b : B n j) : B (max m n + 1) (i + j) := by
 have a' := a.mono (Nat.le_max_left m n)
 have b' := b.mono (Nat.le_max_right m n)
 unfold B at *
 rw [Nat.pow_succ]
 omega
theorem B.sub {m n : Nat} {i j : Int} (a : B m i) (b : B n j) : B (max m n + 1) (i - j) := by
 have a' := a.mono (Nat.le_max_left m n)
 have b' := b.mono (Nat.le_max_right m n)
 unfold B at *
 rw [Nat.pow_succ]
 omega
theorem B.of {n : Nat} {i : Int} {k : Nat} (h : i.natAbs <= k) (hk : k < 2 ^ n := by decide +kernel) : B n i := xb3 h hk
theorem B.log {n : Nat} {i : Int} (h : B n i) (hn : 0 < n) : i.natAbs.log2 < n := zlA hn h
def zji (i : Int) : Bool := decide (i.natAbs.log2 < 60000000)
theorem zno {n : Nat} {i : Int} (h : B n i) (hn : n <= 60000000 := by decide) : zji i = true := by
 refine decide_eq_true ?_
 cases n with
 | zero =>
  have : i.natAbs = 0 := by unfold B at h; omega
  rw [this]; decide
 | succ k => exact xaq (h.log (Nat.succ_pos _)) hn
theorem zsE {i j : Int} (a : zji i = true) (b : zji j = true) : IntMulOk i j := by
 have h1 : i.natAbs.log2 < 60000000 := of_decide_eq_true a
 have h2 : j.natAbs.log2 < 60000000 := of_decide_eq_true b
 have bits : ∀ k : Int, k.natAbs.log2 < 60000000 -> Builtin.Int.intBits k <= 60000000 := fun k h => by
  unfold Builtin.Int.intBits
  split
  ·exact xb0 _
  ·omega
 have b1 := bits i h1
 have b2 := bits j h2
 unfold IntMulOk
 intro z
 simp only [xax, decide_eq_true_eq, Builtin.Int.intTooBig] at z
 have e := z.2
 have l : (bitsLine : Int) = 134217728 := by decide
 rw [l] at e
 omega
def zo4 (i : Int) : Bool := decide (i ≠ 0 /\ i.natAbs.log2 < 9000)
theorem znp {n : Nat} {i : Int} (h : B n i) (h0 : i ≠ 0) (hn : n <= 9000 := by decide) : zo4 i = true := by
 refine decide_eq_true ⟨h0, ?_⟩
 cases n with
 | zero =>
  have : i.natAbs = 0 := by unfold B at h; omega
  omega
 | succ k => exact xaq (h.log (Nat.succ_pos _)) hn
def zxm (i j : Int) : Bool := decide (0 <= j /\ j <= 1000000 /\ i.natAbs < 2 ^ 64)
section
variable {X : Cx} {K : xFg} {mg : Str -> Option Value}
def gI (C : Int -> Int -> Bool) (h : Int -> Int -> Int) : D -> D -> R D
 | .int i, .int j => bif C i j then .ok (.int (h i j)) else .bad
 | _, _ => .bad
def gB (h : Int -> Int -> Bool) : D -> D -> R D
 | .int i, .int j => .ok (.bl (h i j))
 | _, _ => .bad
theorem ztJ {C : Int -> Int -> Bool} {h : Int -> Int -> Int} : zew (gI C h) := by
 intro a b e
 cases a <;> cases b <;> simp only [gI] <;> first | (intro z; cases z) | (intro z; revert z; cases C _ _ <;> simp [cond])
theorem zwp {h : Int -> Int -> Bool} : zew (gB h) := by
 intro a b e
 cases a <;> cases b <;> simp only [gB] <;> (intro z; cases z)
theorem ztK {C : Int -> Int -> Bool} {C' : Int -> Int -> Prop} {h : Int -> Int -> Int} (hc : ∀ i j, C i j = true -> C' i j) : OpD K mg (rI C' fun i j => .int (h i j)) (gI C h) := by
 intro G H a b x y Q e ra rb q
 cases a with
 | int i => cases b with
  | int j =>
   cases ra; cases rb
   cases hC : C i j with
   | false => simp only [gI, hC, cond_false] at q; exact q.elim
   | true =>
    simp only [gI, hC, cond_true] at q
    exact ⟨i, j, rfl, rfl, hc i j hC, zag.now q e rfl⟩
  | _ => exact (show False from q).elim
 | _ => exact (show False from q).elim
theorem zwq {h : Int -> Int -> Bool} : OpD K mg (rI0 fun i j => .bl (h i j)) (gB h) := by
 intro G H a b x y Q e ra rb q
 cases a with
 | int i => cases b with
  | int j => cases ra; cases rb; exact ⟨i, j, rfl, rfl, zag.now q e rfl⟩
  | _ => exact (show False from q).elim
 | _ => exact (show False from q).elim
theorem zsF : OpR X (binaryOp .Mult) (rI (fun i j => zji i = true /\ zji j = true) fun i j => .int (i * j)) := opI fun _ _ _ _ _ _ _ hc q => mul_int q (zsE hc.1 hc.2)
theorem zpO : OpR X (binaryOp .FloorDiv) (rI (fun _ j => zo4 j = true) fun i j => .int (i.fdiv j)) := opI fun i j _ _ _ _ _ hc q => by
 have h := of_decide_eq_true (p := j ≠ 0 /\ j.natAbs.log2 < 9000) hc
 exact floordiv_int h.1 q (.inl (PyProof.noPylong_of_log2 h.2))
def zu4 (K : xFg) : R2 := fun x y H Q => ∃ l b xs zs, x = .ref l /\ y = .ref b /\ SqL K H l xs /\ SqL K H b zs /\ xs.length + zs.length <= sizeLine /\ ∀ p, H p = none -> Q (.ref p) (upd H p (.lst (xs ++ zs)))
theorem zsG : OpR X (binaryOp .Add) (zu4 X.K) := by
 intro pins s U H x y v u Q I rx ry h
 obtain ⟨l, b, xs, zs, rfl, rfl, hH, hB, hz, q⟩ := h
 cases rx
 cases ry
 obtain ⟨its, r, pl, _⟩ := I.list hH
 obtain ⟨its2, r2, pl2, _⟩ := I.list hB
 obtain ⟨⟨cls, dd, data, sl⟩, ho, hc, n, hd⟩ := id pl.isList
 obtain ⟨⟨cls2, dd2, data2, sl2⟩, ho2, hc2, n2, hd2⟩ := id pl2.isList
 simp only at hc hd hc2 hd2
 subst hc hd hc2 hd2
 refine concat_meets ⟨_, ho, rfl⟩ ⟨_, ho2, rfl⟩ noFill_list_add seq_list_add PySem.F.slot_list_add PySem.F.entry_list_add (PySem.F.args_list_add_2 _ _) (list_addW l b its.toArray its2.toArray n n2 dd dd2 sl sl2 (by rw [xag, xag, <- r.length, <- r2.length]; exact hz)) ⟨ho, ho2, ?_⟩
 have ea : its.toArray ++ its2.toArray = (its ++ its2).toArray := by simp
 rw [ea]
 exact ⟨.ref _, _, I.lnew (t' := s.toks) (r.append r2) (by rw [xbc]; exact hz), rfl, q _ I.fresh⟩
def znq (n : Nat) : Bool := decide (n <= sizeLine)
def zb2 : D -> D -> R D
 | .int i, .int j => .ok (.int (i + j))
 | .str x, .str y => bif znq (x.length + y.length) then .ok (.str (x ++ y)) else .bad
 | .lst xs, .lst ys => bif znq (xs.length + ys.length) then .ok (.lst (xs ++ ys)) else .bad
 | .tup xs, .tup ys => bif znq (xs.length + ys.length) && !xs.isEmpty then .ok (.tup (xs ++ ys)) else .bad
 | _, _ => .bad
theorem zu5 : zew zb2 := by
 intro a b e
 cases a <;> cases b <;> simp only [zb2] <;> first | (intro z; cases z; done) | (generalize znq _ = k; cases k <;> simp [cond] <;> (try (generalize List.isEmpty _ = k2; cases k2 <;> simp)))
abbrev zxn (K : xFg) : R2 := fun x y H Q => rI0 (fun i j => .int (i + j)) x y H Q \/ ((∃ i j, x = .str i /\ y = .str j /\ i.length + j.length <= sizeLine /\ Q (.str (i ++ j)) H) \/ (zu4 K x y H Q \/ zun K x y H Q))
theorem zu6 : OpD K mg (zxn K) zb2 := by
 intro G H a b x y Q e ra rb q
 cases a with
 | int i => cases b with
  | int j => cases ra; cases rb; exact .inl ⟨i, j, rfl, rfl, zag.now q e rfl⟩
  | _ => exact (show False from q).elim
 | str i => cases b with
  | str j =>
   cases ra; cases rb
   cases hC : znq (i.length + j.length) with
   | false => simp only [zb2, hC, cond_false] at q; exact q.elim
   | true =>
    simp only [zb2, hC, cond_true] at q
    exact .inr (.inl ⟨i, j, rfl, rfl, of_decide_eq_true hC, zag.now q e rfl⟩)
  | _ => exact (show False from q).elim
 | lst xs => cases b with
  | lst ys =>
   obtain ⟨p, vs, rfl, h1, h2⟩ := ra
   obtain ⟨p', ws, rfl, h1', h2'⟩ := rb
   cases hC : znq (xs.length + ys.length) with
   | false => simp only [zb2, hC, cond_false] at q; exact q.elim
   | true =>
    simp only [zb2, hC, cond_true] at q
    refine .inr (.inr (.inl ⟨p, p', vs, ws, rfl, rfl, e.seq h1, e.seq h1', by rw [<- h2.length, <- h2'.length]; exact of_decide_eq_true hC, fun l hl => ?_⟩))
    have s := zaS.pub (o := .lst (vs ++ ws)) e hl
    exact (show zag K mg Q G H (.lst (xs ++ ys)) from q) _ _ _ s ⟨l, _, rfl, SqL.of zae, (h2.append h2').mono s.g⟩
  | _ => exact (show False from q).elim
 | tup xs => cases b with
  | tup ys =>
   obtain ⟨p, vs, rfl, h1, h2⟩ := ra
   obtain ⟨p', ws, rfl, h1', h2'⟩ := rb
   cases hC : (znq (xs.length + ys.length) && !xs.isEmpty) with
   | false => simp only [zb2, hC, cond_false] at q; exact q.elim
   | true =>
    simp only [zb2, hC, cond_true] at q
    rw [xax] at hC
    have q' : zag K mg Q G H (.tup (xs ++ ys)) := q
    refine .inr (.inr (.inr ⟨p, p', vs, ws, rfl, rfl, zai.sqT e h1, zai.sqT e h1', fun z => ?_, by rw [<- h2.length, <- h2'.length]; exact of_decide_eq_true hC.1, fun z => ?_, fun z l hl => ?_⟩))
    ·subst z
     have := h2.length
     have hx : xs = [] := List.length_eq_zero_iff.mp this
     subst hx; simp at hC
    ·subst z
     have := h2'.length
     have hy : ys = [] := List.length_eq_zero_iff.mp this
     subst hy
     rw [xc3] at q'
     exact q'.now e ⟨p, vs, rfl, h1, h2⟩
    ·have s := zaS.pub (o := .tup (vs ++ ws)) e hl
     exact q' _ _ _ s ⟨l, _, rfl, SqT.of zae, (h2.append h2').mono s.g⟩
  | _ => exact (show False from q).elim
 | _ => exact (show False from q).elim
abbrev gSub : D -> D -> R D := gI (fun _ _ => true) fun i j => i - j
abbrev zcL : D -> D -> R D := gI (fun i j => zji i && zji j) fun i j => i * j
abbrev zfB : D -> D -> R D := gI (fun _ j => zo4 j) fun i j => i.fdiv j
abbrev zfe : D -> D -> R D := gI (fun _ j => decide (j ≠ 0)) fun i j => i.fmod j
abbrev zxo : D -> D -> R D := gI zxm fun i j => i ^ j.toNat
abbrev zxp : D -> D -> R D := gI (fun _ j => decide (0 <= j)) fun i j => i / 2 ^ j.toNat
variable {E : XK} {a b c : Expr} {fa fb fc : DSt -> R D} {pos : Pos}
theorem zu7 (ha : DE X E a fa) (hb : DE X E b fb) : DE X E (.BinOp a .Add b pos) (eOp zb2 fa fb) := zjq (zud.or (zlv.or (zsG.or zsb))) zu6 zu5 ha hb
theorem zu8 (ha : DE X E a fa) (hb : DE X E b fb) : DE X E (.BinOp a .Sub b pos) (eOp gSub fa fb) :=
 zjq (r := rI (fun _ _ => True) fun i j => .int (i - j)) (opI fun _ _ _ _ _ _ _ _ q => sub_int q) (ztK fun _ _ _ => trivial) ztJ ha hb
theorem zu9 (ha : DE X E a fa) (hb : DE X E b fb) : DE X E (.BinOp a .Mult b pos) (eOp zcL fa fb) := zjq zsF (ztK fun i j h => by simpa using h) ztJ ha hb
theorem zsH (ha : DE X E a fa) (hb : DE X E b fb) : DE X E (.BinOp a .FloorDiv b pos) (eOp zfB fa fb) := zjq zpO (ztK fun i j h => h) ztJ ha hb
theorem zva (ha : DE X E a fa) (hb : DE X E b fb) : DE X E (.BinOp a .Mod b pos) (eOp zfe fa fb) := zjq zr3 (ztK fun i j h => of_decide_eq_true h) ztJ ha hb
theorem zvb (ha : DE X E a fa) (hb : DE X E b fb) : DE X E (.BinOp a .Pow b pos) (eOp zxo fa fb) := zjq zue (ztK fun i j h => of_decide_eq_true (p := 0 <= j /\ j <= 1000000 /\ i.natAbs < 2 ^ 64) h) ztJ ha hb
theorem zvc (ha : DE X E a fa) (hb : DE X E b fb) : DE X E (.BinOp a .RShift b pos) (eOp zxp fa fb) := zjq zuf (ztK fun i j h => of_decide_eq_true h) ztJ ha hb
def ztL : D -> R D
 | .int i => .ok (.int (-i))
 | _ => .bad
theorem zvd (ha : DE X E a fa) : DE X E (.UnaryOp .USub a pos) (eUn ztL fa) := by
 refine zxg zqJ (fun G H d x Q e r q => ?_) (fun d e => ?_) ha
 ·cases d with
  | int i => cases r; exact ⟨i, rfl, zag.now q e rfl⟩
  | _ => exact (show False from q).elim
 ·cases d <;> simp [ztL]
structure zke (X : Cx) (op : CmpOp) (g : D -> D -> R D) : Prop where
 ex : ∃ r, OpR X (compareOp op) r /\ OpD X.K X.mg r g /\ zew g
abbrev gLt : D -> D -> R D := gB fun i j => decide (i < j)
abbrev gLe : D -> D -> R D := gB fun i j => decide (i <= j)
abbrev gGt : D -> D -> R D := gB fun i j => decide (j < i)
abbrev gGe : D -> D -> R D := gB fun i j => decide (j <= i)
theorem znr : zke X .Lt gLt := ⟨_, zwI, zwq, zwp⟩
theorem zsI : zke X .LtE gLe := ⟨_, zwJ, zwq, zwp⟩
theorem zxq : zke X .Gt gGt := ⟨_, zwK, zwq, zwp⟩
theorem zve : zke X .GtE gGe := ⟨_, zwL, zwq, zwp⟩
def zlL (a b : D) : Bool := zcy 9 a && zcy 9 b
def gEq (a b : D) : R D := bif zlL a b then .ok (.bl (eqD a b)) else .bad
def gNe (a b : D) : R D := bif zlL a b then .ok (.bl (!eqD a b)) else .bad
def rEqD (K : xFg) (mg : Str -> Option Value) (neg : Bool) : R2 := fun x y H Q => ∃ G d d', zai G H /\ Rep K mg G d x /\ Rep K mg G d' y /\ zlL d d' = true /\ Q (.bl (bif neg then !eqD d d' else eqD d d')) H
theorem zvf {k : Nat} (r : ze9 k X.A) : OpR X (compareOp .Eq) (rEqD X.K X.mg false) := by
 intro pins s U H x y v u Q I rx ry h
 obtain ⟨G, d, d', e, r1, r2, c, q⟩ := h
 unfold zlL at c
 rw [xax] at c
 have hu : X.A.units + 9 < cLine := by have := r.un; omega
 exact (znn I e 9 hu c.1 c.2 r1 rx r2 ry).2.1 _ _ _ _ ⟨.bl _, H, I, rfl, q⟩
theorem zvg {k : Nat} (r : ze9 k X.A) : OpR X (compareOp .NotEq) (rEqD X.K X.mg true) := by
 intro pins s U H x y v u Q I rx ry h
 obtain ⟨G, d, d', e, r1, r2, c, q⟩ := h
 unfold zlL at c
 rw [xax] at c
 have hu : X.A.units + 9 < cLine := by have := r.un; omega
 exact (znn I e 9 hu c.1 c.2 r1 rx r2 ry).2.2 _ _ _ _ ⟨.bl _, H, I, rfl, q⟩
theorem zvh {k : Nat} (C : XC X E k) : zke X .Eq gEq := ⟨_, zvf C.room, fun G H a b x y Q e ra rb q => by
 unfold gEq at q
 cases hc : zlL a b with
 | false => rw [hc] at q; exact q.elim
 | true => rw [hc] at q; exact ⟨G, a, b, e, ra, rb, hc, zag.now q e rfl⟩, fun a b e => by unfold gEq; cases zlL a b <;> simp [cond]⟩
theorem zxr {k : Nat} (C : XC X E k) : zke X .NotEq gNe := ⟨_, zvg C.room, fun G H a b x y Q e ra rb q => by
 unfold gNe at q
 cases hc : zlL a b with
 | false => rw [hc] at q; exact q.elim
 | true => rw [hc] at q; exact ⟨G, a, b, e, ra, rb, hc, zag.now q e rfl⟩, fun a b e => by unfold gNe; cases zlL a b <;> simp [cond]⟩
def zju : D -> Bool
 | .non => true
 | _ => false
def gIs : D -> D -> R D
 | d, .non => .ok (.bl (zju d))
 | .bl a, .bl b => .ok (.bl (a == b))
 | _, _ => .bad
def zsJ : D -> D -> R D
 | d, .non => .ok (.bl (!zju d))
 | .bl a, .bl b => .ok (.bl (a != b))
 | _, _ => .bad
theorem zir {G : Hp} {d : D} {x : V} (r : Rep K mg G d x) : decide (x = .non) = zju d := by
 have nr : ∀ a : Addr, decide (V.ref a = V.non) = false := fun a => by simp
 cases d with
 | non => cases r; rfl
 | bl b => cases r; rfl
 | int i => cases r; rfl
 | str y => cases r; rfl
 | ty n => cases r; rfl
 | cls c => obtain ⟨C, rfl, _⟩ := r; exact nr _
 | tup xs => obtain ⟨a, vs, rfl, _⟩ := r; exact nr _
 | lst xs => obtain ⟨a, vs, rfl, _⟩ := r; exact nr _
 | dct ks xs => obtain ⟨a, vs, rfl, _⟩ := r; exact nr _
 | exc c as => obtain ⟨a, C, dct, vs, rfl, _⟩ := r; exact nr _
theorem zxs : zke X .Is gIs := ⟨_, zug.or zpn, fun G H a b x y Q e ra rb q => by
 cases b with
 | non => cases rb; exact .inl ⟨rfl, by rw [zir ra]; cases a <;> exact zag.now q e rfl⟩
 | bl k => cases a with
  | bl k' => cases ra; cases rb; exact .inr ⟨k', k, rfl, rfl, zag.now q e rfl⟩
  | _ => exact (show False from q).elim
 | _ => cases a <;> exact (show False from q).elim, fun a b e => by cases a <;> cases b <;> simp [gIs]⟩
theorem zkf : zke X .IsNot zsJ := ⟨_, zr4.or zjm, fun G H a b x y Q e ra rb q => by
 cases b with
 | non => cases rb; exact .inl ⟨rfl, by rw [zir ra]; cases a <;> exact zag.now q e rfl⟩
 | bl k => cases a with
  | bl k' => cases ra; cases rb; exact .inr ⟨k', k, rfl, rfl, zag.now q e rfl⟩
  | _ => exact (show False from q).elim
 | _ => cases a <;> exact (show False from q).elim, fun a b e => by cases a <;> cases b <;> simp [zsJ]⟩
theorem zns {op : CmpOp} {g : D -> D -> R D} (cf : zke X op g) (ha : DE X E a fa) (hb : DE X E b fb) (hm : behindInMarks op b = false := by first | exact zaz _ (by decide) (by decide) | rfl) : DE X E (.Compare a [op] [b] pos) (eOp g fa fb) := by
 obtain ⟨r, h1, h2, h3⟩ := cf.ex
 exact zuL h1 h2 h3 ha hb hm
theorem zcd {op : CmpOp} {g : D -> D -> R D} (cf : zke X op g) (ha : DE X E a fa) (hb : DE X E b fb) (hm : behindInMarks op b = false := by first | exact zaz _ (by decide) (by decide) | rfl) : DT X E (.Compare a [op] [b] pos) (zaq (eOp g fa fb)) := by
 obtain ⟨r, h1, h2, h3⟩ := cf.ex
 exact zuM h1 h2 h3 ha hb hm
theorem znt {op op' : CmpOp} {g g' : D -> D -> R D} (cf : zke X op g) (cf' : zke X op' g') (ha : DE X E a fa) (hb : DE X E b fb) (hc : DE X E c fc) (hm : lastMarks [op, op'] [b, c] = false := by with_unfolding_all rfl) : DT X E (.Compare a [op, op'] [b, c] pos) (zaq (zik g g' fa fb fc)) := by
 obtain ⟨r, h1, h2, h3⟩ := cf.ex
 obtain ⟨r', h1', h2', h3'⟩ := cf'.ex
 exact zpM h1 h2 h3 h1' h2' h3' ha hb hc hm
end
end DL
namespace DL
open L2 PyProof.Rows
section
variable {X : Cx} {E : XK} {K : xFg} {mg : Str -> Option Value} {G H : Hp}
theorem zpP : bootBuiltins "all" = some (.builtin "all") := by rfl
theorem zpQ : bootBuiltins "any" = some (.builtin "any") := by rfl
theorem zpR : bootBuiltins "isinstance" = some (.builtin "isinstance") := by rfl
theorem zvi : bootBuiltins "int" = some (.type "int") := by rfl
theorem zsK : bootBuiltins "bool" = some (.type "bool") := by rfl
theorem zkg : bootBuiltins "tuple" = some (.type "tuple") := by rfl
theorem zsL : bootBuiltins "list" = some (.type "list") := by rfl
theorem Reps.one {d : D} {vs : List V} (h : Reps K mg G [d] vs) : ∃ v, vs = [v] /\ Rep K mg G d v := by
 obtain ⟨v, r, rfl, h2, h3⟩ := h
 cases h3
 exact ⟨v, rfl, h2⟩
theorem Reps.two {d d' : D} {vs : List V} (h : Reps K mg G [d, d'] vs) : ∃ v w, vs = [v, w] /\ Rep K mg G d v /\ Rep K mg G d' w := by
 obtain ⟨v, r, rfl, h2, h3⟩ := h
 obtain ⟨w, rfl, h4⟩ := h3.one
 exact ⟨v, w, rfl, h2, h4⟩
def g1 {α : Type} (g : D -> R α) : List D -> R α
 | [d] => g d
 | _ => .bad
def g2 {α : Type} (g : D -> D -> R α) : List D -> R α
 | [d, e] => g d e
 | _ => .bad
theorem cd1 {r : List V -> Hp -> VK -> Prop} {g : D -> R D} (h : ∀ (G H : Hp) (d : D) (v : V) (Q : VK), zai G H -> Rep K mg G d v -> RW (g d) (zag K mg Q G H) (fun _ => False) -> r [v] H Q) : zex K mg r (g1 g) := by
 intro G H ds vs Q e rp q
 match ds, rp, q with
 | [], rp, q => exact (show False from q).elim
 | [d], rp, q => obtain ⟨v, rfl, h1⟩ := rp.one; exact h G H d v Q e h1 q
 | _ :: _ :: _, rp, q => exact (show False from q).elim
theorem cd2 {r : List V -> Hp -> VK -> Prop} {g : D -> D -> R D} (h : ∀ (G H : Hp) (d d' : D) (v v' : V) (Q : VK), zai G H -> Rep K mg G d v -> Rep K mg G d' v' -> RW (g d d') (zag K mg Q G H) (fun _ => False) -> r [v, v'] H Q) : zex K mg r (g2 g) := by
 intro G H ds vs Q e rp q
 match ds, rp, q with
 | [], rp, q => exact (show False from q).elim
 | [d], rp, q => exact (show False from q).elim
 | [d, d'], rp, q => obtain ⟨v, w, rfl, h1, h2⟩ := rp.two; exact h G H d d' v w Q e h1 h2 q
 | _ :: _ :: _ :: _, rp, q => exact (show False from q).elim
variable {x : Str} {p pos : Pos} {e : Expr} {es : List Expr} {fs : DSt -> R (List D)}
def zxt : D -> R D
 | .lst xs => .ok (.int xs.length)
 | .tup xs => .ok (.int xs.length)
 | .str y => bif znq y.length then .ok (.int y.length) else .bad
 | _ => .bad
abbrev zgk := g1 zxt
theorem zvj : zex K mg (fun xs H Q => (∃ p ys, xs = [.ref p] /\ (SqL K H p ys \/ SqT K H p ys) /\ Q (.int ys.length) H) \/ (∃ z, xs = [.str z] /\ z.length <= sizeLine /\ Q (.int z.length) H)) zgk := cd1 fun G H d v Q e r q => by
 cases d with
 | lst xs =>
  obtain ⟨a, vs, rfl, h1, h2⟩ := r
  exact .inl ⟨a, vs, rfl, .inl (e.seq h1), by rw [<- h2.length]; exact zag.now q e rfl⟩
 | tup xs =>
  obtain ⟨a, vs, rfl, h1, h2⟩ := r
  exact .inl ⟨a, vs, rfl, .inr (zai.sqT e h1), by rw [<- h2.length]; exact zag.now q e rfl⟩
 | str y =>
  cases r
  cases hC : znq y.length with
  | false => simp only [zxt, hC, cond_false] at q; exact q.elim
  | true => simp only [zxt, hC, cond_true] at q; exact .inr ⟨y, rfl, of_decide_eq_true hC, zag.now q e rfl⟩
 | _ => exact (show False from q).elim
theorem zvk (hm : X.mg "len" = none) (ha : DA X E (e :: es) fs) (hg : Gl X "len" := by rfl) (he : starEach (e :: es) X.env = (false, eval e X.env) :: starEach es X.env := by rfl) (hpl : (backTo pos (starEach es X.env)).any (·.1) = false := by rfl) : DE X E (.Call (.Name "len" p) (e :: es) [] pos) (zcc zgk fs) :=
 zeJ (zh7.or zh8) zvj hm PySem.boot_len ha hg (by decide) (by decide) he hpl
def abs1 : D -> R D
 | .int i => .ok (.int (i.natAbs : Int))
 | _ => .bad
abbrev zqZ := g1 abs1
theorem zvl : zex K mg (fun xs H Q => ∃ i, xs = [.int i] /\ Q (.int (if i < 0 then -i else i)) H) zqZ := cd1 fun G H d v Q e r q => by
 cases d with
 | int i =>
  cases r
  have ea : (if i < 0 then -i else i) = (i.natAbs : Int) := by split <;> omega
  exact ⟨i, rfl, by rw [ea]; exact zag.now q e rfl⟩
 | _ => exact (show False from q).elim
theorem zvm (hm : X.mg "abs" = none) (ha : DA X E (e :: es) fs) (hg : Gl X "abs" := by rfl) (he : starEach (e :: es) X.env = (false, eval e X.env) :: starEach es X.env := by rfl) (hpl : (backTo pos (starEach es X.env)).any (·.1) = false := by rfl) : DE X E (.Call (.Name "abs" p) (e :: es) [] pos) (zcc zqZ fs) :=
 zeJ zpg zvl hm PyProof.Rows.boot_abs ha hg (by decide) (by decide) he hpl
def min2 : D -> D -> R D
 | .int i, .int j => .ok (.int (min i j))
 | _, _ => .bad
def max2 : D -> D -> R D
 | .int i, .int j => .ok (.int (max i j))
 | _, _ => .bad
abbrev zwr := g2 min2
abbrev zws := g2 max2
theorem zvn : zex K mg (fun xs H Q => ∃ i j, xs = [.int i, .int j] /\ Q (.int (if j < i then j else i)) H) zwr := cd2 fun G H d d' v v' Q e r r' q => by
 cases d with
 | int i => cases d' with
  | int j =>
   cases r; cases r'
   have ea : (if j < i then j else i) = min i j := by split <;> omega
   exact ⟨i, j, rfl, by rw [ea]; exact zag.now q e rfl⟩
  | _ => exact (show False from q).elim
 | _ => exact (show False from q).elim
theorem zvo : zex K mg (fun xs H Q => ∃ i j, xs = [.int i, .int j] /\ Q (.int (if j > i then j else i)) H) zws := cd2 fun G H d d' v v' Q e r r' q => by
 cases d with
 | int i => cases d' with
  | int j =>
   cases r; cases r'
   have ea : (if j > i then j else i) = max i j := by split <;> omega
   exact ⟨i, j, rfl, by rw [ea]; exact zag.now q e rfl⟩
  | _ => exact (show False from q).elim
 | _ => exact (show False from q).elim
theorem zvp (hc : X.calm = true) (hm : X.mg "min" = none) (ha : DA X E (e :: es) fs) (hg : Gl X "min" := by rfl) (he : starEach (e :: es) X.env = (false, eval e X.env) :: starEach es X.env := by rfl) (hpl : (backTo pos (starEach es X.env)).any (·.1) = false := by rfl) : DE X E (.Call (.Name "min" p) (e :: es) [] pos) (zcc zwr fs) :=
 zeJ (zmy hc) zvn hm PyProof.Rows.boot_min ha hg (by decide) (by decide) he hpl
theorem zvq (hc : X.calm = true) (hm : X.mg "max" = none) (ha : DA X E (e :: es) fs) (hg : Gl X "max" := by rfl) (he : starEach (e :: es) X.env = (false, eval e X.env) :: starEach es X.env := by rfl) (hpl : (backTo pos (starEach es X.env)).any (·.1) = false := by rfl) : DE X E (.Call (.Name "max" p) (e :: es) [] pos) (zcc zws fs) :=
 zeJ (zmx hc) zvo hm PyProof.Rows.boot_max ha hg (by decide) (by decide) he hpl
def zck : List D -> Option (List Int)
 | [] => some []
 | .int i :: r => (zck r).map (i :: ·)
 | _ => none
def zgn : List D -> Option (List Bool)
 | [] => some []
 | .bl b :: r => (zgn r).map (b :: ·)
 | _ => none
theorem zfC : ∀ {ds : List D} {ns : List Int}, zck ds = some ns -> ds = ns.map D.int
 | [], ns, h => by simp only [zck, Option.some.injEq] at h; subst h; rfl
 | .int i :: r, ns, h => by
  simp only [zck, xdj] at h
  obtain ⟨ms, h1, rfl⟩ := h
  rw [zfC h1]; rfl
theorem zho : ∀ {ds : List D} {bs : List Bool}, zgn ds = some bs -> ds = bs.map D.bl
 | [], ns, h => by simp only [zgn, Option.some.injEq] at h; subst h; rfl
 | .bl i :: r, ns, h => by
  simp only [zgn, xdj] at h
  obtain ⟨ms, h1, rfl⟩ := h
  rw [zho h1]; rfl
theorem zgI : ∀ ns : List Int, zck (ns.map D.int) = some ns
 | [] => rfl
 | n :: r => by rw [xa0]; unfold zck; rw [zgI r]; rfl
theorem zis : ∀ bs : List Bool, zgn (bs.map D.bl) = some bs
 | [] => rfl
 | n :: r => by rw [xa0]; unfold zgn; rw [zis r]; rfl
def sum1 : D -> R D
 | .lst xs => match zck xs with
  | some ns => .ok (.int ns.sum)
  | none => .bad
 | _ => .bad
def zq0 : D -> R D
 | .lst xs => match zgn xs with
  | some bs => .ok (.bl (bs.all id))
  | none => .bad
 | _ => .bad
def zxu : D -> R D
 | .lst xs => match zgn xs with
  | some bs => .ok (.bl (bs.any id))
  | none => .bad
 | _ => .bad
abbrev zsM := g1 zq0
abbrev zwt := g1 zxu
theorem zvr : zex K mg (fun xs H Q => ∃ (p : Addr) (bs : List Bool), xs = [.ref p] /\ SqL K H p (bs.map V.bl) /\ Q (.bl (bs.all id)) H) zsM := cd1 fun G H d v Q e r q => by
 cases d with
 | lst xs =>
  obtain ⟨a, vs, rfl, h1, h2⟩ := r
  cases hn : zgn xs with
  | none => simp only [zq0, hn] at q; exact q.elim
  | some ns =>
   simp only [zq0, hn] at q
   rw [zho hn] at h2
   rw [Reps.of_bools h2] at h1
   exact ⟨a, ns, rfl, e.seq h1, zag.now q e rfl⟩
 | _ => exact (show False from q).elim
theorem zvs : zex K mg (fun xs H Q => ∃ (p : Addr) (bs : List Bool), xs = [.ref p] /\ SqL K H p (bs.map V.bl) /\ Q (.bl (bs.any id)) H) zwt := cd1 fun G H d v Q e r q => by
 cases d with
 | lst xs =>
  obtain ⟨a, vs, rfl, h1, h2⟩ := r
  cases hn : zgn xs with
  | none => simp only [zxu, hn] at q; exact q.elim
  | some ns =>
   simp only [zxu, hn] at q
   rw [zho hn] at h2
   rw [Reps.of_bools h2] at h1
   exact ⟨a, ns, rfl, e.seq h1, zag.now q e rfl⟩
 | _ => exact (show False from q).elim
theorem znu (hc : X.calm = true) (hm : X.mg "all" = none) (ha : DA X E (e :: es) fs) (hg : Gl X "all" := by rfl) (he : starEach (e :: es) X.env = (false, eval e X.env) :: starEach es X.env := by rfl) (hpl : (backTo pos (starEach es X.env)).any (·.1) = false := by rfl) : DE X E (.Call (.Name "all" p) (e :: es) [] pos) (zcc zsM fs) :=
 zeJ (zpt hc) zvr hm zpP ha hg (by decide) (by decide) he hpl
theorem zvt (hc : X.calm = true) (hm : X.mg "any" = none) (ha : DA X E (e :: es) fs) (hg : Gl X "any" := by rfl) (he : starEach (e :: es) X.env = (false, eval e X.env) :: starEach es X.env := by rfl) (hpl : (backTo pos (starEach es X.env)).any (·.1) = false := by rfl) : DE X E (.Call (.Name "any" p) (e :: es) [] pos) (zcc zwt fs) :=
 zeJ (zpu hc) zvs hm zpQ ha hg (by decide) (by decide) he hpl
def int1 : D -> R D
 | .int i => .ok (.int i)
 | .bl b => .ok (.int (if b then 1 else 0))
 | _ => .bad
abbrev gInt := g1 int1
def zvu : D -> R D
 | .lst xs => .ok (.tup xs)
 | .tup xs => .ok (.tup xs)
 | _ => .bad
abbrev znv := g1 zvu
theorem zpS : zex K mg (fun xs H Q => ∃ p ys, xs = [.ref p] /\ ((SqL K H p ys /\ ∀ l, H l = none -> Q (.ref l) (upd H l (.tup ys))) \/ (SqT K H p ys /\ Q (.ref p) H))) znv := cd1 fun G H d v Q e r q => by
 cases d with
 | lst xs =>
  obtain ⟨a, vs, rfl, h1, h2⟩ := r
  refine ⟨a, vs, rfl, .inl ⟨e.seq h1, fun l hl => ?_⟩⟩
  have s := zaS.pub (o := .tup vs) e hl
  exact (show zag K mg Q G H (.tup xs) from q) _ _ _ s ⟨l, vs, rfl, SqT.of zae, h2.mono s.g⟩
 | tup xs =>
  obtain ⟨a, vs, rfl, h1, h2⟩ := r
  exact ⟨a, vs, rfl, .inr ⟨zai.sqT e h1, (show zag K mg Q G H (.tup xs) from q).now e ⟨a, vs, rfl, h1, h2⟩⟩⟩
 | _ => exact (show False from q).elim
theorem zpT (hm : X.mg "tuple" = none) (ha : DA X E (e :: es) fs) (hg : Gl X "tuple" := by rfl) (he : starEach (e :: es) X.env = (false, eval e X.env) :: starEach es X.env := by rfl) (hpl : (backTo pos (starEach es X.env)).any (·.1) = false := by rfl) : DE X E (.Call (.Name "tuple" p) (e :: es) [] pos) (zcc znv fs) :=
 zuS zg5 zpS hm ha zkg hg (by decide) (by decide) he hpl
def znw (g : List D -> R (List D)) (fs : DSt -> R (List D)) : DSt -> R (List D) := fun U => (fs U).bind fun ds => (g ds).noerr
def zxv (K : xFg) (mg : Str -> Option Value) (r : List V -> Hp -> VK -> Prop) (g : List D -> R (List D)) : Prop :=
 ∀ (G H : Hp) (ds : List D) (vs : List V) (Q : VK), zai G H -> Reps K mg G ds vs -> RW (g ds) (zc1 K mg Q G H) (fun _ => False) -> r vs H Q
def znx : D -> Option String
 | .non => some "NoneType"
 | .bl _ => some "bool"
 | .int _ => some "int"
 | .str _ => some "str"
 | .tup _ => some "tuple"
 | .lst _ => some "list"
 | .dct _ _ => some "dict"
 | _ => none
def zvv (T : String) : Bool := ["int", "bool", "str", "tuple", "list", "dict"].contains T
def zwu (t T : String) : Bool := t == T || (t == "bool" && T == "int")
theorem zfD (t T : String) (ht : ["NoneType", "bool", "int", "str", "tuple", "list", "dict"].contains t = true) (hT : zvv T = true) : PySem.W.kitOne K (.type t) (.type T) = some (zwu t T) := by
 simp only [List.contains_eq_mem, xak, xbf, or_false, decide_eq_true_eq] at ht
 simp only [zvv, List.contains_eq_mem, xak, xbf, or_false, decide_eq_true_eq] at hT
 rcases ht with rfl | rfl | rfl | rfl | rfl | rfl | rfl <;> rcases hT with rfl | rfl | rfl | rfl | rfl | rfl <;> rfl
end
end DL
namespace DL
open L2 PyProof.Rows
section
variable {X : Cx} {E : XK} {K : xFg} {mg : Str -> Option Value} {G H : Hp}
variable {x : Str} {p pos : Pos} {e : Expr} {es : List Expr} {fs : DSt -> R (List D)}
def rIsi (K : xFg) (mg : Str -> Option Value) : List V -> Hp -> VK -> Prop := fun xs H Q => ∃ G d T v b, xs = [v, .ty T] /\ zai G H /\ Rep K mg G d v /\ (∃ t, znx d = some t /\ zvv T = true /\ b = zwu t T) /\ Q (.bl b) H
theorem zny : zbw X (.builtin "isinstance") (rIsi X.K X.mg) := by
 intro pins s U H xs us Q I r h
 obtain ⟨G, d, T, v, b, rfl, e, rp, ⟨t, ht, hT, rfl⟩, q⟩ := h
 obtain ⟨u, w', rfl, ru, rw'⟩ := zpf r
 cases (show w' = Value.type T from rw')
 have fin : ∀ tk, EP X pins U Q (.bool (zwu t T)) { s with toks := tk } := fun tk => ⟨.bl _, H, I.tok tk, rfl, q⟩
 cases d with
 | non => cases ht; cases rp; cases (show u = Value.none from ru); exact PySem.W.kia_one PySem.W.kitx_none I.kIn True.intro (zfD _ _ rfl hT) (fun z => nomatch z) fin
 | bl y => cases ht; cases rp; cases (show u = Value.bool y from ru); exact PySem.W.kia_one PySem.W.kitx_bool I.kIn True.intro (zfD _ _ rfl hT) (fun z => nomatch z) fin
 | int i => cases ht; cases rp; obtain ⟨tk, rfl⟩ := (show ∃ tk, u = Value.int i tk from ru); exact PySem.W.kia_one PySem.W.kitx_int I.kIn True.intro (zfD _ _ rfl hT) (fun z => nomatch z) fin
 | str y => cases ht; cases rp; obtain ⟨tk, rfl⟩ := (show ∃ tk, u = Value.str y tk from ru); exact PySem.W.kia_one PySem.W.kitx_str I.kIn True.intro (zfD _ _ rfl hT) (fun z => nomatch z) fin
 | tup ds =>
  cases ht
  obtain ⟨a, vs, rfl, h1, h2⟩ := rp
  cases (show u = Value.ref a from ru)
  obtain ⟨_, _, ⟨o, h3, h4, _⟩, _⟩ := I.tuple (zai.sqT e h1)
  exact PySem.W.kia_one PySem.W.kitx_tuple I.kIn ⟨o, h3, h4⟩ (zfD _ _ rfl hT) (fun z => nomatch z) fin
 | lst ds =>
  cases ht
  obtain ⟨a, vs, rfl, h1, h2⟩ := rp
  cases (show u = Value.ref a from ru)
  obtain ⟨_, _, ⟨o, n, h3, h4, _⟩, _⟩ := I.list (e.seq h1)
  exact PySem.W.kia_one PySem.W.kitx_list I.kIn ⟨o, h3, h4⟩ (zfD _ _ rfl hT) (fun z => nomatch z) fin
 | dct ks ds =>
  cases ht
  obtain ⟨a, vs, rfl, h1, _⟩ := rp
  cases (show u = Value.ref a from ru)
  obtain ⟨_, _, _, _, p⟩ := (show zbv X.prog X.w H s.heap a (.dK (ks.zip vs)) from (zai.rd e h1).ok I.hok)
  obtain ⟨o, es, ep, h3, h4, _⟩ := p
  exact PySem.W.kia_one PySem.W.kitx_dict I.kIn ⟨o, h3, h4.1⟩ (zfD _ _ rfl hT) (fun z => nomatch z) fin
 | _ => cases ht
abbrev zxw (K : xFg) : List V -> Hp -> VK -> Prop := fun xs H Q => ∃ (a C : Addr) (c : V) (cv : Value) (b : Bool), xs = [.ref a, c] /\ H a = some (zwm a C none) /\ ((∃ D, c = .ref D /\ cv = .ref D) \/ ∃ T, c = .ty T /\ cv = .type T) /\ ztF K C /\ PySem.W.kitOne K (.ref C) cv = some b /\ Q (.bl b) H
def zfE : D -> D -> R D
 | d, .ty T => match znx d with
  | some t => bif zvv T then .ok (.bl (zwu t T)) else .bad
  | none => match d with
   | .exc _ [] => bif T == "ValueError" then .ok (.bl true) else .bad
   | _ => .bad
 | .exc c [], .cls d => match zqU c d with
  | some b => .ok (.bl b)
  | none => .bad
 | _, _ => .bad
theorem zvw : zex K mg (fun xs H Q => rIsi K mg xs H Q \/ zxw K xs H Q) (g2 zfE) := cd2 fun G H d d' v v' Q e r r' q => by
 have exc : ∀ {c as}, d = .exc c as -> as = [] -> ∃ a C, v = .ref a /\ H a = some (zwm a C none) /\ zo3 K mg c C := fun {c as} hd ha => by
  subst hd; subst ha
  obtain ⟨a, C, dct, vs, rfl, h2, h3, h4, h5⟩ := r
  cases h5
  rcases h4 with ⟨rfl, _⟩ | ⟨dx, w, _, z, _⟩
  ·exact ⟨a, C, rfl, e _ _ h2, h3⟩
  ·cases z
 cases d' with
 | ty T =>
  cases r'
  cases ht : znx d with
  | some t =>
   cases hT : zvv T with
   | false => simp only [zfE, ht, hT, cond_false] at q; exact q.elim
   | true => simp only [zfE, ht, hT, cond_true] at q; exact .inl ⟨G, d, T, v, _, rfl, e, r, ⟨t, ht, hT, rfl⟩, zag.now q e rfl⟩
  | none =>
   cases d with
   | exc c as =>
    cases as with
    | nil =>
     cases hT : T == "ValueError" with
     | false => simp only [zfE, ht, hT, cond_false] at q; exact q.elim
     | true =>
      simp only [zfE, ht, hT, cond_true] at q
      obtain ⟨a, C, rfl, h1, h2⟩ := exc rfl rfl
      have := eq_of_beq hT
      subst this
      exact .inr ⟨a, C, _, _, true, rfl, h1, .inr ⟨_, rfl, rfl⟩, h2.exc, h2.val, zag.now q e rfl⟩
    | cons b bs => simp only [zfE, ht] at q; exact q.elim
   | _ => simp only [zfE, ht] at q; exact q.elim
 | cls c' =>
  cases d with
  | exc c as =>
   cases as with
   | nil =>
    obtain ⟨Dd, rfl, hD⟩ := r'
    cases hs : zqU c c' with
    | none => simp only [zfE, hs] at q; exact q.elim
    | some b =>
     simp only [zfE, hs] at q
     obtain ⟨a, C, rfl, h1, h2⟩ := exc rfl rfl
     exact .inr ⟨a, C, _, _, b, rfl, h1, .inl ⟨Dd, rfl, rfl⟩, h2.exc, h2.isi c' Dd b hs hD, zag.now q e rfl⟩
   | cons b bs => exact (show False from q).elim
  | _ => exact (show False from q).elim
 | _ => cases d <;> first | exact (show False from q).elim | (rename_i as; cases as <;> exact (show False from q).elim)
theorem zkh (hm : X.mg "isinstance" = none) (ha : DA X E (e :: es) fs) (hg : Gl X "isinstance" := by rfl) (he : starEach (e :: es) X.env = (false, eval e X.env) :: starEach es X.env := by rfl) (hpl : (backTo pos (starEach es X.env)).any (·.1) = false := by rfl) : DE X E (.Call (.Name "isinstance" p) (e :: es) [] pos) (zcc (g2 zfE) fs) :=
 zeJ (zny.or zmO) zvw hm zpR ha hg (by decide) (by decide) he hpl
def tO (K : xFg) (mg : Str -> Option Value) (E : XK) (f : DSt -> R (Option Int)) : TO := fun U H Q => ∃ G Ud, Ok0 K mg Ud U G H /\ RW (f Ud) (fun o => ∀ G' H', zaS G H G' H' -> Q o H') (zau K mg E G H)
def DO (X : Cx) (E : XK) (e : Option Expr) (f : DSt -> R (Option Int)) : Prop := PO X e (tO X.K X.mg E f)
def zbT : DSt -> R (Option Int) := fun _ => .ok none
def asI : D -> R (Option Int)
 | .int i => .ok (some i)
 | _ => .bad
def zbU (f : DSt -> R D) : DSt -> R (Option Int) := fun U => (f U).bind asI
theorem PO.mono' {e : Option Expr} {t t' : TO} (h : PO X e t) (m : ∀ U H Q, t' U H Q -> t U H Q) : PO X e t' := fun pins s U H Q I q => h pins s U H Q I (m U H Q q)
theorem zsN : DO X E none zbT := PO.mono' zsa fun U H Q ⟨G, Ud, ok, q⟩ => (show ∀ G' H', zaS G H G' H' -> Q none H' from q) G H (.refl ok.ext)
theorem zsO {f : DSt -> R D} (h : DE X E e f) : DO X E (some e) (zbU f) := PO.mono' (zmB h) fun U H Q ⟨G, Ud, ok, q⟩ => ⟨G, Ud, ok, q.of_bind.mono (fun d _ z v G' H' s r => by
 cases d with
 | int i => cases r; exact ⟨i, rfl, (show ∀ G' H', zaS G H G' H' -> Q (some i) H' from z) G' H' s⟩
 | _ => exact (show False from z).elim) fun _ z => z⟩
def zo5 {α : Type} (xs : List α) (lo hi : Option Int) : List α := (xs.drop (HT.sIx xs.length 0 lo)).take (HT.sIx xs.length xs.length hi - HT.sIx xs.length 0 lo)
def znz {α : Type} (xs : List α) (lo hi : Option Int) : Bool := decide (HT.sIx xs.length 0 lo = 0 /\ HT.sIx xs.length xs.length hi = xs.length)
def gSl : D -> Option Int -> Option Int -> R D
 | .lst xs, lo, hi => .ok (.lst (zo5 xs lo hi))
 | .tup xs, lo, hi => bif znz xs lo hi then .bad else .ok (.tup (zo5 xs lo hi))
 | _, _, _ => .bad
def eSl (fe : DSt -> R D) (fl fh : DSt -> R (Option Int)) : DSt -> R D := fun U => (fe U).bind fun d => (fl U).bind fun lo => (fh U).bind fun hi => gSl d lo hi
theorem Reps.cut {ds : List D} {vs : List V} (h : Reps K mg G ds vs) (lo hi : Option Int) : Reps K mg G (zo5 ds lo hi) (zo2 vs lo hi) := by
 unfold zo5 zo2
 rw [h.length]
 exact (h.drop _).take _
theorem zxx {fe : DSt -> R D} {lo hi : Option Expr} {fl fh : DSt -> R (Option Int)} {p2 : Pos} (he : DE X E e fe) (hl : DO X E lo fl) (hh : DO X E hi fh) : DE X E (.Subscript e (.Slice lo hi none p2) pos) (eSl fe fl fh) := by
 refine PE.mono' (zpi (zse.or zum) he hl hh) fun U H Q ⟨G, Ud, ok, q⟩ => ?_
 refine zbR (P := zag X.K X.mg Q) ok q fun d v G1 H1 s1 ok1 r1 q1 => ?_
 refine ⟨G1, Ud, ok1, q1.of_bind.mono (fun l _ q2 G2 H2 s2 => ?_) fun _ z => z⟩
 refine ⟨G2, Ud, ok1.step s2, q2.of_bind.mono (fun u _ q3 G3 H3 s3 => ?_) fun _ z => z.step s2⟩
 have s := (s1.trans s2).trans s3
 have r3 := r1.mono (s2.g.trans s3.g)
 cases d with
 | lst xs =>
  obtain ⟨a, vs, rfl, h1, h2⟩ := r3
  refine .inl ⟨a, vs, rfl, s3.e.seq h1, fun pp hp => ?_⟩
  have sp := zaS.pub (o := .lst (zo2 vs l u)) s3.e hp
  exact (show zag X.K X.mg Q G H (.lst (zo5 xs l u)) from q3) _ _ _ (s.trans sp) ⟨pp, _, rfl, SqL.of zae, (h2.cut l u).mono sp.g⟩
 | tup xs =>
  obtain ⟨a, vs, rfl, h1, h2⟩ := r3
  cases hw : znz xs l u with
  | true => simp only [gSl, hw, cond_true] at q3; exact q3.elim
  | false =>
   simp only [gSl, hw, cond_false] at q3
   refine .inr ⟨a, vs, rfl, zai.sqT s3.e h1, by rw [<- h2.length]; exact of_decide_eq_false hw, fun pp hp => ?_⟩
   have sp := zaS.pub (o := .tup (zo2 vs l u)) s3.e hp
   exact (show zag X.K X.mg Q G H (.tup (zo5 xs l u)) from q3) _ _ _ (s.trans sp) ⟨pp, _, rfl, SqT.of zae, (h2.cut l u).mono sp.g⟩
 | _ => exact (show False from q3).elim
end
def zq1 (c : Str) (fs : DSt -> R (List D)) : DSt -> R Out := fun U => (fs U).bind fun ds => bif few ds.length then .err (.exc c []) else .bad
section
variable {P : Program} {w : World} {K : xFg} {mg : Str -> Option Value} {base : Heap} {N : List Str} {qual : Str} {scope : Scope} {f : Addr} {cdv : Value} {A : Around} {outer : List Env} {s0 : Shared} {H0 : Hp} {E : XK} {own own' ol : List Nat}
theorem zpU {x : Str} {C : Addr} {e0 : Expr} {zaD : List Expr} {np cpos pos : Pos} {fs : DSt -> R (List D)} (q : PySem.W.excIn K C [.type "ValueError", .type "Exception", .type "BaseException", .type "object"] "ValueError.__new__" = true) (hx : zo3 K mg x C)
  (ha : DA (zgl (CXe P w) P w K mg base N qual scope f cdv A outer s0 H0 E) E (e0 :: zaD) fs) (hg : Gl (zgl (CXe P w) P w K mg base N qual scope f cdv A outer s0 H0 E) x := by rfl)
  (hdb : (x == ("__debug__" : Str)) = false := by decide)
  (he : starEach (e0 :: zaD) (envOfC qual scope s0.heap.objs.size f cdv) = (false, eval e0 (envOfC qual scope s0.heap.objs.size f cdv)) :: starEach zaD (envOfC qual scope s0.heap.objs.size f cdv) := by rfl)
  (hpl : (backTo cpos (starEach zaD (envOfC qual scope s0.heap.objs.size f cdv))).any (·.1) = false := by rfl) :
  DS (zgl (CXe P w) P w K mg base N qual scope f cdv A outer s0 H0 E) E own own' ol (.Raise (some (.Call (.Name x np) (e0 :: zaD) [] cpos)) none pos) (zq1 x fs) := fun G0 =>
 PS.mono' (zps q hg hx.here ha hdb he hpl) fun Dn U H ⟨G, Ud, ok, s1, z⟩ => by
 have sp := ok.pubStep s1
 refine ⟨_, Ud, ok.pub.1, z.of_bind.mono (fun ds _ z vs G' H' s r => ?_) fun _ z => z.step sp⟩
 cases hf : few ds.length with
 | false => rw [hf] at z; exact (show False from z).elim
 | true =>
  rw [hf] at z
  refine ⟨by rw [<- r.length]; exact zne hf, ?_⟩
  exact (show zau K mg E G0 H0 (.exc x []) from z) G' H' C none (sp.trans s) ⟨x, [], [], rfl, hx, .inl ⟨rfl, rfl⟩, Reps.nil⟩
end
def zjv (c : Str) : DSt -> R Out := fun _ => .err (.exc c [])
theorem znA {P : Program} {w : World} {K : xFg} {mg : Str -> Option Value} {base : Heap} {N : List Str} {qual : Str} {scope : Scope} {f : Addr} {cdv : Value} {A : Around} {outer : List Env} {s0 : Shared} {H0 : Hp} {E : XK} {own own' ol : List Nat} {x t : Str} {C : Addr} {np cpos pos tp : Pos} {j} (q : PySem.W.excIn K C [.type "ValueError", .type "Exception", .type "BaseException", .type "object"] "ValueError.__new__" = true) (hx : zo3 K mg x C)
  (hg : Gl (zgl (CXe P w) P w K mg base N qual scope f cdv A outer s0 H0 E) x := by rfl) (hdb : (x == ("__debug__" : Str)) = false := by decide) :
  DS (zgl (CXe P w) P w K mg base N qual scope f cdv A outer s0 H0 E) E own own' ol (.Raise (some (.Call (.Name x np) [.Constant (.str t) j tp] [] cpos)) none pos) (zjv x) :=
 zpU (fs := zaa (eC (.str t)) zaj) q hx (zaI zm6 zbS) hg hdb
section
variable {X : Cx} {ol : List Nat} {k : Nat} {x y : Str} {m : List D -> R D} {p pos cpos npos : Pos} {e : Expr} {es : List Expr} {fs : DSt -> R (List D)} {f g : DSt -> R Out}
def zvx (m : List D -> R D) (fs : DSt -> R (List D)) : DSt -> R D := fun U => (fs U).noerr.bind m
def sTry (i : Nat) (c : Str) (body hnd : DSt -> R Out) : DSt -> R Out := fun U => match body U with
 | .ok o => .ok o
 | .err (.exc cc as) => bif zqU cc c == some true then (hnd (U.set i (some (.exc cc as)))).noerr.bind fun o => match o with
   | .nx U' => .ok (.nx (U'.set i none))
   | _ => .bad
  else .bad
 | _ => .bad
end
end DL
namespace DL
open L2 PyProof.Rows
theorem zay {n nN : Nat} {b : DSt -> R Out} {ds : List D} {U : DSt} (hl : ds.length = n) (hs : zdC nN ds = U) : fnM n nN b ds = fin (b U) := by
 subst hl; subst hs; unfold fnM; rw [beq_self_eq_true]; rfl
theorem de_k {X : Cx} {E : XK} {x : Str} {d : D} {pos : Pos} (h : ∃ u v, X.mg x = some u /\ RelV v u /\ ∀ G, Rep X.K X.mg G d v) (hg : Gl X x := by rfl) (hd : (x == ("__debug__" : Str)) = false := by decide) : DE X E (.Name x pos) (eC d) := by
 obtain ⟨u, v, h1, h2, h3⟩ := h
 exact zsw h1 h2 h3 hg hd
section
variable {K : xFg} {mg : Str -> Option Value}
def zhp (c d : Str) : Bool := c == d || d == "ChalkError"
def zaM (K : xFg) (mg : Str -> Option Value) (C : Addr) (d : Str) (b : Bool) : Prop :=
 (∀ D, mg d = some (.ref D) -> PySem.W.kitOne K (.ref C) (.ref D) = some b) /\ (b = true -> ∀ D, mg d = some (.ref D) -> PySem.W.exmOne K (.ref C) (.ref D) = some true)
theorem zo3.mk' {c : Str} {C : Addr} (here : mg c = some (.ref C)) (exc : ztF K C) (val : PySem.W.kitOne K (.ref C) (.type "ValueError") = some true) (rows : ∀ d ∈ zb4, zaM K mg C d (zhp c d)) : zo3 K mg c C := by
 have sub : ∀ d b, zqU c d = some b -> d ∈ zb4 /\ b = zhp c d := fun d b h => by
  unfold zqU at h
  cases hc : (zb4.contains c && zb4.contains d) with
  | false => rw [hc] at h; cases h
  | true =>
   rw [hc] at h
   have h' : some (c == d || d == "ChalkError") = some b := h
   rw [xax] at hc
   exact ⟨by simpa using hc.2, by cases h'; rfl⟩
 refine ⟨here, exc, fun d Dd b h hd => ?_, val, fun d Dd h hd => ?_⟩
 ·obtain ⟨h1, rfl⟩ := sub d b h
  exact (rows d h1).1 Dd hd
 ·obtain ⟨h1, h2⟩ := sub d true h
  exact (rows d h1).2 h2.symm Dd hd
theorem zvy {c : Str} {C : Addr} (r0 : zaM K mg C "ChalkError" (zhp c "ChalkError")) (r1 : zaM K mg C "NoPlace" (zhp c "NoPlace")) (r2 : zaM K mg C "Same" (zhp c "Same")) (r3 : zaM K mg C "NoFloor" (zhp c "NoFloor")) (r4 : zaM K mg C "Endless" (zhp c "Endless"))
  (r5 : zaM K mg C "NoDeed" (zhp c "NoDeed")) (r6 : zaM K mg C "NoText" (zhp c "NoText")) (r7 : zaM K mg C "NoName" (zhp c "NoName")) (r8 : zaM K mg C "TooMany" (zhp c "TooMany")) (r9 : zaM K mg C "NoChange" (zhp c "NoChange")) (r10 : zaM K mg C "NoFrame" (zhp c "NoFrame"))
  (r11 : zaM K mg C "NoValue" (zhp c "NoValue")) (r12 : zaM K mg C "Unlike" (zhp c "Unlike")) (r13 : zaM K mg C "NoRatio" (zhp c "NoRatio")) (r14 : zaM K mg C "NoBow" (zhp c "NoBow")) (r15 : zaM K mg C "NoRow" (zhp c "NoRow")) : ∀ d ∈ zb4, zaM K mg C d (zhp c d) := by
 intro d hd
 simp only [zb4, xak, xbf, or_false] at hd
 rcases hd with rfl | rfl | rfl | rfl | rfl | rfl | rfl | rfl | rfl | rfl | rfl | rfl | rfl | rfl | rfl | rfl <;> assumption
theorem zaM.of {C D0 : Addr} {d : Str} {b : Bool} (h : mg d = some (.ref D0)) (t : PySem.W.kitOne K (.ref C) (.ref D0) = some b) (u : b = true -> PySem.W.exmOne K (.ref C) (.ref D0) = some true) : zaM K mg C d b :=
 ⟨fun D hD => by rw [h] at hD; cases hD; exact t, fun hb D hD => by rw [h] at hD; cases hD; exact u hb⟩
theorem zaM.no {C : Addr} {d : Str} {b : Bool} (h : mg d = none) : zaM K mg C d b := ⟨fun D hD => (by rw [h] at hD; cases hD), fun _ D hD => (by rw [h] at hD; cases hD)⟩
end
section
variable {P : Program} {w : World} {K : xFg} {mg : Str -> Option Value} {base : Heap}
theorem zsP {x qual : Str} {st : Stmt} {f : Addr} {fd : FuncData} {N ps : List Str} {k n nN : Nat} {own' : List Nat} {body : DSt -> R Out} (F : Fun K x qual st f fd) (S : zdK N ps (zaf st))
  (hn : ps.length = n) (hN : N.length = nN)
  (hb : ∀ (X : Cx) (E : XK), (∃ cdv A outer s H, X = zgl (CXe P w) P w K mg base N qual (zaf st) f cdv A outer s H E) -> XC X E k -> XL X -> DSs X E [] own' [] (zbx st) body) : zg3 P w K mg base (CXe P w) (k + 1) f fd ps (spD K mg (fnM n nN body)) := by
 refine F.okX S (fun vs H Q E h => ?_) (fun cdv A outer s H vs Q E hr hsp => ?_)
 ·obtain ⟨G, ds, e, r, q⟩ := h
  by_cases hd : ds.length = n
  ·rw [<- r.length, hd, hn]
  ·have : (ds.length == n) = false := by simpa using hd
   unfold fnM at q
   rw [this] at q
   exact (show False from q).elim
 ·obtain ⟨G, ds, e, r, q⟩ := hsp
  have hd : ds.length = n := by
   by_cases hd : ds.length = n
   ·exact hd
   ·have : (ds.length == n) = false := by simpa using hd
    unfold fnM at q
    rw [this] at q
    exact (show False from q).elim
  unfold fnM at q
  rw [show (ds.length == n) = true by simpa using hd] at q
  have q' : RW (fin (body (zdC nN ds))) (zag K mg Q G H) (zau K mg E G H) := q
  refine ⟨_, hb _ E ⟨cdv, A, outer, s, H, rfl⟩ ⟨rfl, hr, zuu⟩ ⟨PassesOwn.leaving⟩ G, G, zdC nN ds, ?_, .refl e, ?_⟩
  ·have := Reps.startOk e (N.length - vs.length) r
   unfold L2.start zdC
   rw [<- hN, r.length]
   exact .zero this
  ·cases hbd : body (zdC nN ds) with
   | bad => rw [hbd] at q'; exact q'
   | err e => rw [hbd] at q'; exact q'
   | ok o =>
    rw [hbd] at q'
    cases o with
    | rt d => exact fun v G' H' s r => (show zag K mg Q G H d from q') v G' H' s r
    | rf es =>
     intro a vs G' H' s n e g r
     have q2 : zag K mg Q G H (.lst es) := q'
     have sg : zai G' (upd G' a (.lst vs)) := zbd g
     refine q2 (.ref a) (upd G' a (.lst vs)) H' ⟨s.g.trans sg, s.h, fun b u p => ?_, fun b u p1 p2 => ?_⟩ ⟨a, vs, rfl, SqL.of zae, r.mono sg⟩
     ·by_cases hb : b = a
      ·subst hb; rw [zae] at p; cases p; exact e
      ·rw [zah hb] at p; exact s.e b u p
     ·have hb : b ≠ a := zad p1 n
      rw [zah hb]; exact s.c b u p1 p2
    | nx U => exact fun U' G' H' ok s _ => (show zag K mg Q G H .non from q') .non G' H' s rfl
    | bk U => exact (show False from q').elim
    | ct U => exact (show False from q').elim
def zpV (K : xFg) : Sp := fun vs H Q _ => ∃ (a : Addr) (ns : List Int), vs = [.ref a] /\ SqL K H a (ns.map V.int) /\ ns.length <= 63 /\ ∀ H', Q (.bl true) H'
theorem zvz {k : Nat} {f : Addr} {fd : FuncData} {m : List D -> R D} (F : zg3 P w K mg base (CXe P w) k f fd ["_law_script"] (spD K mg m)) (hm : ∀ ns : List Int, ns.length <= 63 -> m [.lst (ns.map .int)] = .ok (.bl true)) :
  zg3 P w K mg base (CXe P w) k f fd ["_law_script"] (zpV K) := F.imp fun vs H Q E h => by
 obtain ⟨a, ns, rfl, hS, hl, q⟩ := h
 refine ⟨H, [.lst (ns.map .int)], zai.refl _, Reps.cons ⟨a, _, rfl, hS, Reps.ints ns⟩ Reps.nil, RW.ok_of (hm ns hl) fun v G' H' s r => ?_⟩
 cases r; exact q H'
end
theorem walkD {l : PySem.W.OpenLaw} {q : Program} {loose : List Str} {XP : (Str -> Option Value) -> Heap -> Prop} {YP : World -> Heap -> Prop} {d : DefRec} {K : Params -> xFg} (k : Nat) (hr : ze9 k callerA) (hn : l.most = some 63) (hdf : d.params.defaults = [])
  (hY : ∀ (w : World) (h : Heap), YP w h -> (K w.params).In h)
  (F : ∀ (w : World) (mg : Str -> Option Value) (fa : Addr) (h : Heap), (K w.params).In h -> h.Ns mainGlobals mg -> mg d.name = some (.ref fa) ->
   ∃ fd : FuncData, (∀ (s : Shared) (u : Value), BindsTo s fd ⟨[u], []⟩ [("_law_script", u)]) /\ ∀ base : Heap, (K w.params).In base -> base.Ns mainGlobals mg -> zg3 l.prog w (K w.params) mg base (CXe l.prog w) k fa fd ["_law_script"] (zpV (K w.params))) :
  PySem.W.WalkO q loose XP YP l.row.toRowW d [] (fun f vs => PySem.call f vs) :=
 L2.walk_of (n := 63) (k := k) (x := "_law_script") (CX := fun w => CXe l.prog w) (sp := fun w => zpV (K w.params)) hn (by decide) hdf hr hY F (fun _ _ a ns hl _ hS => ⟨a, ns, rfl, hS, hl, fun _ => rfl⟩) fun w H s e s' z => by
  obtain ⟨_, _, _, _, _, _, _, _, _, _, _, _, _, z⟩ := z
  exact z.elim
end DL
namespace DL
open L2
def ztM (r : R Out) (g : DSt -> R Out) : R Out := r.bind fun o => match o with
 | .nx U' => g U'
 | o => .ok o
theorem zki (f g : DSt -> R Out) (U : DSt) : zaG f g U = ztM (f U) g := rfl
theorem znB (U : DSt) (g : DSt -> R Out) : ztM (.ok (.nx U)) g = g U := rfl
theorem znC (d : D) (g : DSt -> R Out) : ztM (.ok (.rt d)) g = .ok (.rt d) := rfl
theorem znD (U : DSt) (g : DSt -> R Out) : ztM (.ok (.bk U)) g = .ok (.bk U) := rfl
theorem znE (U : DSt) (g : DSt -> R Out) : ztM (.ok (.ct U)) g = .ok (.ct U) := rfl
theorem zkj (e : D) (g : DSt -> R Out) : ztM (.err e) g = .err e := rfl
theorem zit (U : DSt) : za0 U = .ok (.nx U) := rfl
theorem ziu (d : D) (U : DSt) : zac 0 (some d :: U) = .ok d := rfl
theorem ziv (n : Nat) (x : Option D) (U : DSt) : zac (n + 1) (x :: U) = zac n U := rfl
theorem zq2 (d : D) (U : DSt) : eC d U = .ok d := rfl
def opK (g : D -> D -> R D) (a b : R D) : R D := a.bind fun x => b.bind fun y => g x y
theorem zeA (g : D -> D -> R D) (fa fb : DSt -> R D) (U : DSt) : eOp g fa fb U = opK g (fa U) (fb U) := rfl
theorem ziw (g : D -> D -> R D) (x y : D) : opK g (.ok x) (.ok y) = g x y := rfl
def unK (g : D -> R D) (a : R D) : R D := a.bind g
theorem znF (g : D -> R D) (fa : DSt -> R D) (U : DSt) : eUn g fa U = unK g (fa U) := rfl
theorem zq3 (g : D -> R D) (x : D) : unK g (.ok x) = g x := rfl
def zsQ (m : List D -> R D) (a : R (List D)) : R D := a.bind m
theorem zdU (m : List D -> R D) (fs : DSt -> R (List D)) (U : DSt) : zap m fs U = zsQ m (fs U) := rfl
theorem zff (m : List D -> R D) (ds : List D) : zsQ m (.ok ds) = m ds := rfl
theorem zix (m : List D -> R D) (e : D) : zsQ m (.err e) = .err e := rfl
def zq4 (m : List D -> R D) (a : R (List D)) : R D := a.noerr.bind m
theorem zgJ (m : List D -> R D) (fs : DSt -> R (List D)) (U : DSt) : zvx m fs U = zq4 m (fs U) := rfl
theorem ziy (m : List D -> R D) (ds : List D) : zq4 m (.ok ds) = m ds := rfl
def bltK (g : List D -> R D) (a : R (List D)) : R D := a.bind fun ds => (g ds).noerr
theorem zkk (g : List D -> R D) (fs : DSt -> R (List D)) (U : DSt) : zcc g fs U = bltK g (fs U) := rfl
theorem znG (g : List D -> R D) (ds : List D) : bltK g (.ok ds) = (g ds).noerr := rfl
def zvA (g : List D -> R (List D)) (a : R (List D)) : R (List D) := a.bind fun ds => (g ds).noerr
theorem ziz (g : List D -> R (List D)) (fs : DSt -> R (List D)) (U : DSt) : znw g fs U = zvA g (fs U) := rfl
theorem zkl (g : List D -> R (List D)) (ds : List D) : zvA g (.ok ds) = (g ds).noerr := rfl
theorem ziA {α : Type} (a : α) : (R.ok a).noerr = .ok a := rfl
theorem zkm (U : DSt) : zaj U = .ok [] := rfl
def zsR (a : R D) (b : R (List D)) : R (List D) := a.bind fun x => b.bind fun xs => .ok (x :: xs)
theorem zdV (fa : DSt -> R D) (fs : DSt -> R (List D)) (U : DSt) : zaa fa fs U = zsR (fa U) (fs U) := rfl
theorem zkn (x : D) (xs : List D) : zsR (.ok x) (.ok xs) = .ok (x :: xs) := rfl
theorem ziB (e : D) (b : R (List D)) : zsR (.err e) b = .err e := rfl
def zpW (a : R (List D)) : R D := a.bind fun ds => bif few ds.length then .ok (.tup ds) else .bad
theorem zko (fs : DSt -> R (List D)) (U : DSt) : zil fs U = zpW (fs U) := rfl
theorem zq5 : zpW (.ok []) = .ok (.tup []) := rfl
theorem zq6 (a : D) : zpW (.ok [a]) = .ok (.tup [a]) := rfl
theorem zq7 (a b : D) : zpW (.ok [a, b]) = .ok (.tup [a, b]) := rfl
theorem zq8 (a b c : D) : zpW (.ok [a, b, c]) = .ok (.tup [a, b, c]) := rfl
theorem zq9 (a b c d : D) : zpW (.ok [a, b, c, d]) = .ok (.tup [a, b, c, d]) := rfl
theorem zra (a b c d e : D) : zpW (.ok [a, b, c, d, e]) = .ok (.tup [a, b, c, d, e]) := rfl
theorem zrb (a b c d e f : D) : zpW (.ok [a, b, c, d, e, f]) = .ok (.tup [a, b, c, d, e, f]) := rfl
theorem zrc (a b c d e f g h i : D) : zpW (.ok [a, b, c, d, e, f, g, h, i]) = .ok (.tup [a, b, c, d, e, f, g, h, i]) := rfl
def zrd (a : R (List D)) : R (List D) := a.bind fun ds => bif few ds.length then .ok ds else .bad
theorem zkp (fs : DSt -> R (List D)) (U : DSt) : zmh fs U = zrd (fs U) := rfl
theorem zre : zrd (.ok []) = .ok [] := rfl
theorem zrf (a : D) : zrd (.ok [a]) = .ok [a] := rfl
theorem zrg (a b : D) : zrd (.ok [a, b]) = .ok [a, b] := rfl
theorem zrh (a b c : D) : zrd (.ok [a, b, c]) = .ok [a, b, c] := rfl
theorem zri (a b c d : D) : zrd (.ok [a, b, c, d]) = .ok [a, b, c, d] := rfl
theorem zrj (a b c d e : D) : zrd (.ok [a, b, c, d, e]) = .ok [a, b, c, d, e] := rfl
theorem zrk (a b c d e f : D) : zrd (.ok [a, b, c, d, e, f]) = .ok [a, b, c, d, e, f] := rfl
def zsS (a : R (List D)) : R D := a.bind fun ds => .ok (.lst ds)
theorem zkq (fl : DSt -> R (List D)) (U : DSt) : zet fl U = zsS (fl U) := rfl
theorem zhq (ds : List D) : zsS (.ok ds) = .ok (.lst ds) := rfl
def zvB (a : R D) : R Bool := a.bind asB
theorem zdW (f : DSt -> R D) (U : DSt) : zaq f U = zvB (f U) := rfl
theorem zkr (b : Bool) : zvB (.ok (.bl b)) = .ok b := rfl
def zxy (a : R Bool) (fb : DSt -> R Bool) (U : DSt) : R Bool := a.bind fun k => bif k then fb U else .ok false
theorem zks (fa fb : DSt -> R Bool) (U : DSt) : zwo fa fb U = zxy (fa U) fb U := rfl
theorem zrl (fb : DSt -> R Bool) (U : DSt) : zxy (.ok true) fb U = fb U := rfl
theorem zrm (fb : DSt -> R Bool) (U : DSt) : zxy (.ok false) fb U = .ok false := rfl
def orK (a : R Bool) (fb : DSt -> R Bool) (U : DSt) : R Bool := a.bind fun k => bif k then .ok true else fb U
theorem znH (fa fb : DSt -> R Bool) (U : DSt) : eOr fa fb U = orK (fa U) fb U := rfl
theorem zvC (fb : DSt -> R Bool) (U : DSt) : orK (.ok true) fb U = .ok true := rfl
theorem zvD (fb : DSt -> R Bool) (U : DSt) : orK (.ok false) fb U = fb U := rfl
def notK (a : R Bool) : R Bool := a.bind fun k => .ok (!k)
theorem zkt (fa : DSt -> R Bool) (U : DSt) : zlK fa U = notK (fa U) := rfl
theorem znI (b : Bool) : notK (.ok b) = .ok (!b) := rfl
def zsT (a : R D) (fb : DSt -> R D) (U : DSt) : R D := a.bind fun x => (asB x).bind fun k => bif k then fb U else .ok (.bl false)
theorem zku (fa fb : DSt -> R D) (U : DSt) : zuN fa fb U = zsT (fa U) fb U := rfl
theorem znJ (fb : DSt -> R D) (U : DSt) : zsT (.ok (.bl true)) fb U = fb U := rfl
theorem znK (fb : DSt -> R D) (U : DSt) : zsT (.ok (.bl false)) fb U = .ok (.bl false) := rfl
def zxz (a : R D) (fb : DSt -> R D) (U : DSt) : R D := a.bind fun x => (asB x).bind fun k => bif k then .ok (.bl true) else fb U
theorem znL (fa fb : DSt -> R D) (U : DSt) : vOr fa fb U = zxz (fa U) fb U := rfl
theorem zrn (fb : DSt -> R D) (U : DSt) : zxz (.ok (.bl true)) fb U = .ok (.bl true) := rfl
theorem zro (fb : DSt -> R D) (U : DSt) : zxz (.ok (.bl false)) fb U = fb U := rfl
def zvE (a : R D) : R D := a.bind fun x => (asB x).bind fun k => .ok (.bl !k)
theorem zkv (fa : DSt -> R D) (U : DSt) : zxf fa U = zvE (fa U) := rfl
theorem zkw (b : Bool) : zvE (.ok (.bl b)) = .ok (.bl !b) := rfl
def zxA (c : R Bool) (fa fb : DSt -> R D) (U : DSt) : R D := c.bind fun k => bif k then fa U else fb U
theorem znM (c : DSt -> R Bool) (fa fb : DSt -> R D) (U : DSt) : eIf c fa fb U = zxA (c U) fa fb U := rfl
theorem zrp (fa fb : DSt -> R D) (U : DSt) : zxA (.ok true) fa fb U = fa U := rfl
theorem zrq (fa fb : DSt -> R D) (U : DSt) : zxA (.ok false) fa fb U = fb U := rfl
def ifK (c : R Bool) (f g : DSt -> R Out) (U : DSt) : R Out := c.bind fun k => bif k then f U else g U
theorem znN (c : DSt -> R Bool) (f g : DSt -> R Out) (U : DSt) : sIf c f g U = ifK (c U) f g U := rfl
theorem zvF (f g : DSt -> R Out) (U : DSt) : ifK (.ok true) f g U = f U := rfl
theorem zvG (f g : DSt -> R Out) (U : DSt) : ifK (.ok false) f g U = g U := rfl
def zrr (g g' : D -> D -> R D) (a b c : R D) : R D := a.bind fun x => b.bind fun y => (g x y).bind fun z => (asB z).bind fun k => bif k then c.bind fun w => g' y w else .ok (.bl false)
theorem zgK (g g' : D -> D -> R D) (fa fb fc : DSt -> R D) (U : DSt) : zik g g' fa fb fc U = zrr g g' (fa U) (fb U) (fc U) := rfl
theorem zgL (p q : Int -> Int -> Bool) (i j k : Int) : zrr (gB p) (gB q) (.ok (.int i)) (.ok (.int j)) (.ok (.int k)) = .ok (.bl (p i j && q j k)) := by
 show (bif p i j then R.ok (D.bl (q j k)) else R.ok (D.bl false)) = _
 cases p i j <;> rfl
def appK (i : Nat) (l : R (List D)) (a : R D) (U : DSt) : R Out := l.bind fun ds => a.bind fun d => bif most ds.length then .ok (.nx (U.set i (some (.lst (ds ++ [d]))))) else .bad
theorem zkx (own : List Nat) (i : Nat) (fe : DSt -> R D) (U : DSt) : zu0 own i fe U = appK i (zb3 U i) (fe (mask own U)) U := rfl
theorem zky {n : Nat} (h : n <= 1000000) : most n = true := decide_eq_true (xb3 h (by decide))
theorem zhr (i : Nat) (ds : List D) (d : D) (U : DSt) (h : ds.length <= 1000000) : appK i (.ok ds) (.ok d) U = .ok (.nx (U.set i (some (.lst (ds ++ [d]))))) := by
 show (bif most ds.length then _ else _) = _
 rw [zky h]; rfl
def zvH (i : Nat) (l : R (List D)) (a : R D) (U : DSt) : R Out := l.bind fun ds => a.bind fun d => bif most ds.length && imm d then .ok (.nx (U.set i (some (.lst (ds ++ [d]))))) else .bad
theorem ziC (i : Nat) (fe : DSt -> R D) (U : DSt) : zxl i fe U = zvH i (zb3 U i) (fe U) U := rfl
theorem zpX (i : Nat) (ds : List D) (d : D) (U : DSt) (h : ds.length <= 1000000) (h' : imm d = true) : zvH i (.ok ds) (.ok d) U = .ok (.nx (U.set i (some (.lst (ds ++ [d]))))) := by
 show (bif most ds.length && imm d then _ else _) = _
 rw [zky h, h']; rfl
theorem zgM (ds : List D) (U : DSt) : zb3 (some (.lst ds) :: U) 0 = .ok ds := rfl
theorem zgN (x : Option D) (U : DSt) (n : Nat) : zb3 (x :: U) (n + 1) = zb3 U n := rfl
theorem zsU {i : Int} (h1 : -(10 ^ 100) <= i) (h2 : i <= 10 ^ 100) : zji i = true := zno (n := 400) (B.of (k := 10 ^ 100) (by omega))
theorem zsV {i : Int} (h1 : -(10 ^ 100) <= i) (h2 : i <= 10 ^ 100) (h : i ≠ 0) : zo4 i = true := znp (n := 400) (B.of (k := 10 ^ 100) (by omega)) h
def zxB (a : R D) : R Out := a.bind fun d => .ok (.rt d)
theorem zkz (fe : DSt -> R D) (U : DSt) : zbE fe U = zxB (fe U) := rfl
theorem znO (d : D) : zxB (.ok d) = .ok (.rt d) := rfl
theorem zkA (e : D) : zxB (.err e) = .err e := rfl
def zsW (a : R D) (U : DSt) : R Out := a.bind fun _ => .ok (.nx U)
theorem ziD (fe : DSt -> R D) (U : DSt) : zsC fe U = zsW (fe U) U := rfl
theorem zkB (d : D) (U : DSt) : zsW (.ok d) U = .ok (.nx U) := rfl
theorem ziE (e : D) (U : DSt) : zsW (.err e) U = .err e := rfl
def zwv (i : Nat) (a : R D) (U : DSt) : R Out := a.bind fun d => .ok (.nx (U.set i (some d)))
theorem ziF (i : Nat) (fe : DSt -> R D) (U : DSt) : zaJ i fe U = zwv i (fe U) U := rfl
theorem zkC (own : List Nat) (i : Nat) (fe : DSt -> R D) (U : DSt) : ziq own i fe U = zwv i (fe (mask own U)) U := rfl
theorem znP (i : Nat) (d : D) (U : DSt) : zwv i (.ok d) U = .ok (.nx (U.set i (some d))) := rfl
theorem zkD (i : Nat) (e : D) (U : DSt) : zwv i (.err e) U = .err e := rfl
def zvI (i : Nat) (a : R D) (U : DSt) : R Out := a.bind fun d => bif imm d then .ok (.nx (U.set i (some d))) else .bad
theorem znQ (i : Nat) (fe : DSt -> R D) (U : DSt) : zxj i fe U = zvI i (fe U) U := rfl
theorem zpY (i : Nat) (d : D) (U : DSt) (h : imm d = true) : zvI i (.ok d) U = .ok (.nx (U.set i (some d))) := by
 show (bif imm d then _ else _) = _
 rw [h]; rfl
def newK (i : Nat) (a : R (List D)) (U : DSt) : R Out := a.bind fun ds => .ok (.nx (U.set i (some (.lst ds))))
theorem zkE (own : List Nat) (i : Nat) (fe : DSt -> R (List D)) (U : DSt) : ztH own i fe U = newK i (fe (mask own U)) U := rfl
theorem znR (i : Nat) (ds : List D) (U : DSt) : newK i (.ok ds) U = .ok (.nx (U.set i (some (.lst ds)))) := rfl
def zvJ (ks : List Nat) (gp : D -> R (List D)) (a : R D) (U : DSt) : R Out := a.bind fun d => (gp d).noerr.bind fun us => .ok (.nx (setAll U ks us))
theorem zkF (own ks : List Nat) (gp : D -> R (List D)) (fe : DSt -> R D) (U : DSt) : ztI own ks gp fe U = zvJ ks gp (fe (mask own U)) U := rfl
theorem znS (i j : Nat) (a b : D) (U : DSt) : zvJ [i, j] (zc2 2) (.ok (.tup [a, b])) U = .ok (.nx ((U.set i (some a)).set j (some b))) := rfl
theorem znT (i j : Nat) (a b : D) (U : DSt) : zvJ [i, j] (zc2 2) (.ok (.lst [a, b])) U = .ok (.nx ((U.set i (some a)).set j (some b))) := rfl
theorem znU (i j k : Nat) (a b c : D) (U : DSt) : zvJ [i, j, k] (zc2 3) (.ok (.tup [a, b, c])) U = .ok (.nx (((U.set i (some a)).set j (some b)).set k (some c))) := rfl
theorem znV (i j k : Nat) (a b c : D) (U : DSt) : zvJ [i, j, k] (zc2 3) (.ok (.lst [a, b, c])) U = .ok (.nx (((U.set i (some a)).set j (some b)).set k (some c))) := rfl
def parK (i j : Nat) (a : R (List D)) (U : DSt) : R Out := a.bind fun ds => match ds with
 | [a, b] => .ok (.nx ((U.set i (some a)).set j (some b)))
 | _ => .bad
theorem zkG (own : List Nat) (i j : Nat) (fs : DSt -> R (List D)) (U : DSt) : sPar own i j fs U = parK i j (fs (mask own U)) U := rfl
theorem znW (i j : Nat) (a b : D) (U : DSt) : parK i j (.ok [a, b]) U = .ok (.nx ((U.set i (some a)).set j (some b))) := rfl
def zrs (c : Str) (a : R (List D)) : R Out := a.bind fun ds => bif few ds.length then .err (.exc c []) else .bad
theorem zgO (c : Str) (fs : DSt -> R (List D)) (U : DSt) : zq1 c fs U = zrs c (fs U) := rfl
theorem zkH (c : Str) (a : D) : zrs c (.ok [a]) = .err (.exc c []) := rfl
theorem zfF (c : Str) (U : DSt) : zjv c U = .err (.exc c []) := rfl
def tryK (i : Nat) (c : Str) (r : R Out) (hnd : DSt -> R Out) (U : DSt) : R Out := match r with
 | .ok o => .ok o
 | .err (.exc cc as) => bif zqU cc c == some true then (hnd (U.set i (some (.exc cc as)))).noerr.bind fun o => match o with
   | .nx U' => .ok (.nx (U'.set i none))
   | _ => .bad
  else .bad
 | _ => .bad
theorem zkI (i : Nat) (c : Str) (body hnd : DSt -> R Out) (U : DSt) : sTry i c body hnd U = tryK i c (body U) hnd U := rfl
theorem znX (i : Nat) (c : Str) (o : Out) (hnd : DSt -> R Out) (U : DSt) : tryK i c (.ok o) hnd U = .ok o := rfl
def zxC (i : Nat) (r : R Out) : R Out := r.noerr.bind fun o => match o with
 | .nx U' => .ok (.nx (U'.set i none))
 | _ => .bad
theorem zkJ (i : Nat) (U : DSt) : zxC i (.ok (.nx U)) = .ok (.nx (U.set i none)) := rfl
theorem zrt (d : D) : fin (.ok (.rt d)) = .ok d := rfl
theorem zru (U : DSt) : fin (.ok (.nx U)) = .ok .non := rfl
theorem znY (e : D) : fin (.err e) = .err e := rfl
theorem znZ (i j : Int) : zb2 (.int i) (.int j) = .ok (.int (i + j)) := rfl
theorem zn0 (i j : Int) : gSub (.int i) (.int j) = .ok (.int (i - j)) := rfl
theorem zas (i j : Int) (hi : zji i = true) (hj : zji j = true) : zcL (.int i) (.int j) = .ok (.int (i * j)) := by
 show (bif zji i && zji j then _ else _) = _
 rw [hi, hj]; rfl
theorem ziG (i j : Int) (h : zo4 j = true) (h0 : 0 < j) : zfB (.int i) (.int j) = .ok (.int (i / j)) := by
 show (bif zo4 j then R.ok (D.int (i.fdiv j)) else .bad) = _
 rw [h, xcx _ (Int.le_of_lt h0)]; rfl
theorem zcA (i j : Int) (h : zo4 j = true) : zfB (.int i) (.int j) = .ok (.int (i.fdiv j)) := by
 show (bif zo4 j then _ else _) = _
 rw [h]; rfl
theorem za1 (i j : Int) (h0 : 0 < j) : zfe (.int i) (.int j) = .ok (.int (i % j)) := by
 have : decide (j ≠ 0) = true := decide_eq_true (by omega)
 show (bif decide (j ≠ 0) then R.ok (D.int (i.fmod j)) else .bad) = _
 rw [this, Int.fmod_eq_emod_of_nonneg _ (Int.le_of_lt h0)]; rfl
theorem zsX (i j : Int) (h : zxm i j = true) : zxo (.int i) (.int j) = .ok (.int (i ^ j.toNat)) := by
 show (bif zxm i j then _ else _) = _
 rw [h]; rfl
theorem zsY (i j : Int) (h : 0 <= j) : zxp (.int i) (.int j) = .ok (.int (i / 2 ^ j.toNat)) := by
 show (bif decide (0 <= j) then _ else _) = _
 rw [decide_eq_true h]; rfl
theorem zrv (i : Int) : ztL (.int i) = .ok (.int (-i)) := rfl
theorem zrw (i j : Int) : gLt (.int i) (.int j) = .ok (.bl (decide (i < j))) := rfl
theorem zrx (i j : Int) : gLe (.int i) (.int j) = .ok (.bl (decide (i <= j))) := rfl
theorem zry (i j : Int) : gGt (.int i) (.int j) = .ok (.bl (decide (j < i))) := rfl
theorem zrz (i j : Int) : gGe (.int i) (.int j) = .ok (.bl (decide (j <= i))) := rfl
theorem zkK {a b : D} (h : zlL a b = true) : gEq a b = .ok (.bl (eqD a b)) := by unfold gEq; rw [h]; rfl
theorem zn1 {a b : D} (h : zlL a b = true) : gNe a b = .ok (.bl (!eqD a b)) := by unfold gNe; rw [h]; rfl
theorem zdX (i j : Int) : eqD (.int i) (.int j) = decide (i = j) := by unfold eqD; rfl
theorem zrA (i j : Int) : gEq (.int i) (.int j) = .ok (.bl (decide (i = j))) := by rw [zkK rfl, zdX]
theorem zrB (i j : Int) : gNe (.int i) (.int j) = .ok (.bl (!decide (i = j))) := by rw [zn1 rfl, zdX]
theorem zrC (i j : Bool) : gEq (.bl i) (.bl j) = .ok (.bl (i == j)) := by rw [zkK rfl]; unfold eqD; rfl
theorem zrD (i j : Bool) : gNe (.bl i) (.bl j) = .ok (.bl (!(i == j))) := by rw [zn1 rfl]; unfold eqD; rfl
abbrev t3 (x y z : Int) : D := .tup [.int x, .int y, .int z]
abbrev l3 (x y z : Int) : D := .lst [.int x, .int y, .int z]
theorem ziH : ∀ (ns ms : List Int), eqDs (ns.map D.int) (ms.map D.int) = decide (ns = ms)
 | [], [] => by unfold eqDs; rfl
 | [], _ :: _ => by unfold eqDs; rfl
 | _ :: _, [] => by unfold eqDs; rfl
 | n :: ns, m :: ms => by
  show eqDs (D.int n :: ns.map D.int) (D.int m :: ms.map D.int) = _
  unfold eqDs
  rw [ziH ns ms, zdX, xcm]
  simp
theorem ziI (a b c x y z : Int) : eqD (t3 a b c) (t3 x y z) = decide (a = x /\ b = y /\ c = z) := by
 have := ziH [a, b, c] [x, y, z]
 unfold eqD
 rw [show ([D.int a, .int b, .int c] : List D) = [a, b, c].map D.int from rfl, show ([D.int x, .int y, .int z] : List D) = [x, y, z].map D.int from rfl, this, xcm]
 simp
theorem zvK (a b c x y z : Int) : eqD (l3 a b c) (l3 x y z) = decide (a = x /\ b = y /\ c = z) := by
 have := ziI a b c x y z
 unfold eqD at this ⊢
 exact this
theorem zrE (a b c x y z : Int) : gEq (t3 a b c) (t3 x y z) = .ok (.bl (decide (a = x /\ b = y /\ c = z))) := by rw [zkK rfl, ziI]
theorem zrF (a b c x y z : Int) : gNe (t3 a b c) (t3 x y z) = .ok (.bl (!decide (a = x /\ b = y /\ c = z))) := by rw [zn1 rfl, ziI]
theorem zrG (a b c x y z : Int) : gEq (l3 a b c) (l3 x y z) = .ok (.bl (decide (a = x /\ b = y /\ c = z))) := by rw [zkK rfl, zvK]
theorem zrH (a b : Bool) : gIs (.bl a) (.bl b) = .ok (.bl (a == b)) := rfl
theorem zn2 (a b : Bool) : zsJ (.bl a) (.bl b) = .ok (.bl (a != b)) := rfl
theorem zn3 (d : D) : gIs d .non = .ok (.bl (zju d)) := by cases d <;> rfl
theorem zkL (d : D) : zsJ d .non = .ok (.bl (!zju d)) := by cases d <;> rfl
theorem zkM (a b c : D) : gIx (.tup [a, b, c]) (.int 0) = .ok a := rfl
theorem zkN (a b c : D) : gIx (.tup [a, b, c]) (.int 1) = .ok b := rfl
theorem zkO (a b c : D) : gIx (.tup [a, b, c]) (.int 2) = .ok c := rfl
theorem zkP (a b c : D) : gIx (.lst [a, b, c]) (.int 0) = .ok a := rfl
theorem zkQ (a b c : D) : gIx (.lst [a, b, c]) (.int 1) = .ok b := rfl
theorem zkR (a b c : D) : gIx (.lst [a, b, c]) (.int 2) = .ok c := rfl
theorem zfG {xs : List D} {j : Nat} {d : D} (h : xs[j]? = some d) : gIx (.lst xs) (.int (j : Int)) = .ok d := by
 show (match atI xs (j : Int) with | some d => R.ok d | none => .bad) = _
 rw [zsc h]
theorem zpZ (xs : List D) (d : D) : gIx (.lst (xs ++ [d])) (.int (-1)) = .ok d := by
 show (match atI (xs ++ [d]) (-1) with | some d => R.ok d | none => .bad) = _
 rw [zpj]
theorem zrI (xs : List D) : zgk [.lst xs] = .ok (.int xs.length) := rfl
theorem zn4 : zgk [.tup []] = .ok (.int 0) := rfl
theorem zn5 (a : D) : zgk [.tup [a]] = .ok (.int 1) := rfl
theorem zn6 (a b : D) : zgk [.tup [a, b]] = .ok (.int 2) := rfl
theorem zn7 (a b c : D) : zgk [.tup [a, b, c]] = .ok (.int 3) := rfl
theorem zn8 (a b c d : D) : zgk [.tup [a, b, c, d]] = .ok (.int 4) := rfl
theorem zrJ (i : Int) : zqZ [.int i] = .ok (.int (i.natAbs : Int)) := rfl
theorem zn9 (i j : Int) : zwr [.int i, .int j] = .ok (.int (min i j)) := rfl
theorem zoa (i j : Int) : zws [.int i, .int j] = .ok (.int (max i j)) := rfl
theorem zrK (b : Bool) : gInt [.bl b] = .ok (.int (if b then 1 else 0)) := rfl
theorem zfH (i : Int) : g2 zfE [.int i, .ty "int"] = .ok (.bl true) := rfl
theorem zeK (i : Int) : g2 zfE [.int i, .ty "bool"] = .ok (.bl false) := rfl
theorem zfI (i : Bool) : g2 zfE [.bl i, .ty "bool"] = .ok (.bl true) := rfl
theorem zgP (i : Bool) : g2 zfE [.bl i, .ty "int"] = .ok (.bl true) := rfl
theorem zfJ (xs : List D) : g2 zfE [.tup xs, .ty "tuple"] = .ok (.bl true) := rfl
theorem zfK (xs : List D) : g2 zfE [.lst xs, .ty "list"] = .ok (.bl true) := rfl
theorem zfL (xs : List D) : g2 zfE [.lst xs, .ty "tuple"] = .ok (.bl false) := rfl
theorem zfM (xs : List D) : g2 zfE [.tup xs, .ty "list"] = .ok (.bl false) := rfl
theorem zkS (c : Str) : g2 zfE [.exc c [], .ty "ValueError"] = .ok (.bl true) := rfl
theorem zgQ (j : Int) (h : rOk j = true) : zin [.int j] = .ok (zgj 0 j.toNat) := by
 show (bif rOk j then _ else _) = _
 rw [h]; rfl
theorem zhs (i j : Int) (h : rOk i = true) (h' : rOk j = true) : zsA [.int i, .int j] = .ok (zgj i (j - i).toNat) := by
 show (bif rOk i && rOk j then _ else _) = _
 rw [h, h']; rfl
theorem zcM {i : Int} (h : -1000000000 <= i) (h' : i <= 1000000000) : rOk i = true := by
 unfold rOk
 rw [Nat.blt_eq]
 omega
def zvL (g : List D -> R (List D)) (a : R (List D)) : R (List D) := a.bind g
theorem ziJ (g : List D -> R (List D)) (fs : DSt -> R (List D)) (U : DSt) : zcW g fs U = zvL g (fs U) := (rfl)
theorem zkT (g : List D -> R (List D)) (ds : List D) : zvL g (.ok ds) = g ds := (rfl)
def zp1 (a : R D) : R (List D) := a.bind zsz
theorem zkU (f : DSt -> R D) (U : DSt) : zhU f U = zp1 (f U) := rfl
theorem zob (xs : List D) : zp1 (.ok (.tup xs)) = .ok xs := rfl
theorem zoc (xs : List D) : zp1 (.ok (.lst xs)) = .ok xs := rfl
def forK (ks : List Nat) (gp : D -> R (List D)) (fb : DSt -> R Out) (a : R (List D)) (U : DSt) : R Out := a.bind fun ds => zez ks gp fb ds U
theorem zkV (own ks : List Nat) (gp : D -> R (List D)) (fi : DSt -> R (List D)) (fb : DSt -> R Out) (U : DSt) : zjh own ks gp fi fb U = forK ks gp fb (fi (mask own U)) U := rfl
theorem zod (ks : List Nat) (gp : D -> R (List D)) (fb : DSt -> R Out) (ds : List D) (U : DSt) : forK ks gp fb (.ok ds) U = zez ks gp fb ds U := rfl
def zjw (r : R Out) (k : DSt -> R Out) : R Out := r.bind fun o => match o with
 | .nx U' => k U'
 | .ct U' => k U'
 | .bk U' => .ok (.nx U')
 | .rt d => .ok (.rt d)
 | .rf d => .ok (.rf d)
theorem zdo (U : DSt) (k : DSt -> R Out) : zjw (.ok (.nx U)) k = k U := rfl
theorem zkW (U : DSt) (k : DSt -> R Out) : zjw (.ok (.ct U)) k = k U := rfl
theorem zkX (U : DSt) (k : DSt -> R Out) : zjw (.ok (.bk U)) k = .ok (.nx U) := rfl
theorem zkY (d : D) (k : DSt -> R Out) : zjw (.ok (.rt d)) k = .ok (.rt d) := rfl
theorem ziK (d : D) (k : DSt -> R Out) : zjw (.err d) k = .err d := rfl
theorem zkZ (ks : List Nat) (gp : D -> R (List D)) (fb : DSt -> R Out) (U : DSt) : zez ks gp fb [] U = .ok (.nx U) := rfl
theorem zbF (i : Nat) (fb : DSt -> R Out) (d : D) (ds : List D) (U : DSt) : zez [i] zan fb (d :: ds) U = zjw (fb (U.set i (some d))) (zez [i] zan fb ds) := by
 show (fb (U.set i (some d))).bind _ = _
 unfold zjw
 cases fb (U.set i (some d)) with
 | ok o => cases o <;> rfl
 | err e => rfl
 | bad => rfl
theorem zk0 {i : Nat} {fb : DSt -> R Out} (I : DSt -> Prop) : ∀ (ds : List D), (∀ d ∈ ds, ∀ U, I U -> ∃ U', (fb (U.set i (some d)) = .ok (.nx U') \/ fb (U.set i (some d)) = .ok (.ct U')) /\ I U') -> ∀ U, I U -> ∃ U', zez [i] zan fb ds U = .ok (.nx U') /\ I U'
 | [], _, U, h => ⟨U, rfl, h⟩
 | d :: ds, hs, U, h => by
  obtain ⟨U1, h1, h2⟩ := hs d xab U h
  obtain ⟨U2, h3, h4⟩ := zk0 I ds (fun d' hd => hs d' (xad _ hd)) U1 h2
  refine ⟨U2, ?_, h4⟩
  rw [zbF]
  rcases h1 with h1 | h1 <;> rw [h1]
  ·exact h3
  ·exact h3
theorem zk1 {i : Nat} {fb : DSt -> R Out} (I : Nat -> DSt -> Prop) (ds : List D) (hs : ∀ (k : Nat) (d : D) (U : DSt), ds[k]? = some d -> I k U -> ∃ U', (fb (U.set i (some d)) = .ok (.nx U') \/ fb (U.set i (some d)) = .ok (.ct U')) /\ I (k + 1) U') (U : DSt) (h : I 0 U) : ∃ U', zez [i] zan fb ds U = .ok (.nx U') /\ I ds.length U' := by
 have go : ∀ (ds : List D) (n : Nat), (∀ (k : Nat) (d : D) (U : DSt), ds[k]? = some d -> I (n + k) U -> ∃ U', (fb (U.set i (some d)) = .ok (.nx U') \/ fb (U.set i (some d)) = .ok (.ct U')) /\ I (n + k + 1) U') -> ∀ U, I n U -> ∃ U', zez [i] zan fb ds U = .ok (.nx U') /\ I (n + ds.length) U' := by
  intro ds
  induction ds with
  | nil => intro n _ U h; exact ⟨U, rfl, h⟩
  | cons d ds ih =>
   intro n hs U h
   obtain ⟨U1, h1, h2⟩ := hs 0 d U rfl h
   obtain ⟨U2, h3, h4⟩ := ih (n + 1) (fun k d' U hd hI => by
    have := hs (k + 1) d' U (by simpa using hd) (by rw [show n + (k + 1) = n + 1 + k by omega]; exact hI)
    rw [show n + (k + 1) + 1 = n + 1 + k + 1 by omega] at this
    exact this) U1 h2
   refine ⟨U2, ?_, by rw [xam, show n + (ds.length + 1) = n + 1 + ds.length by omega]; exact h4⟩
   rw [zbF]
   rcases h1 with h1 | h1 <;> rw [h1]
   ·exact h3
   ·exact h3
 obtain ⟨U', h1, h2⟩ := go ds 0 (fun k d U hd hI => by
  rw [xbk] at hI ⊢
  exact hs k d U hd hI) U h
 exact ⟨U', h1, by rw [xbk] at h2; exact h2⟩
theorem zk2 {c : DSt -> R Bool} {fb : DSt -> R Out} {U U' : DSt} (h : c U = .ok true) (h' : fb U = .ok (.nx U')) : zaT c fb U = zaT c fb U' := by rw [zfA, h]; show (fb U).bind _ = _; rw [h']; rfl
theorem zk3 {c : DSt -> R Bool} {fb : DSt -> R Out} {U : DSt} (h : c U = .ok false) : zaT c fb U = .ok (.nx U) := by rw [zfA, h]; rfl
def lcK (k : Nat) (ks : List Nat) (a : R (List D)) (gp : D -> R (List D)) (c : DSt -> R Bool) (e : DSt -> R D) (U : DSt) : R (List D) := a.bind fun ds => bif most ds.length then (lcD ks gp c e (List.replicate k none ++ U) ds).noerr else .bad
theorem zoe (k : Nat) (ks : List Nat) (fi : DSt -> R (List D)) (gp : D -> R (List D)) (c : DSt -> R Bool) (e : DSt -> R D) (U : DSt) : eLC k ks fi gp c e U = lcK k ks (fi U) gp c e U := rfl
theorem zeB {n : Nat} (h : n <= 1000000) : most n = true := decide_eq_true (xb3 h (by decide))
theorem zrL {ds : List D} {e : DSt -> R D} {U : DSt} {g : D -> D} (hl : ds.length <= 1000000) (h : ∀ d ∈ ds, e (some d :: U) = .ok (g d)) : lcK 1 [0] (.ok ds) zan zby e U = .ok (ds.map g) := by
 have go : ∀ ds : List D, (∀ d ∈ ds, e (some d :: U) = .ok (g d)) -> lcD [0] zan zby e (List.replicate 1 none ++ U) ds = .ok (ds.map g) := by
  intro ds
  induction ds with
  | nil => intro _; rfl
  | cons d ds ih =>
   intro h
   show (e (some d :: U)).bind (fun y => (lcD [0] zan zby e (List.replicate 1 none ++ U) ds).bind fun ys => .ok (y :: ys)) = _
   rw [h d xab, ih fun d' hd => h d' (xad _ hd)]; rfl
 show (bif most ds.length then _ else _) = _
 rw [zeB hl, go ds h]; rfl
theorem zcl {ds : List D} {c : DSt -> R Bool} {e : DSt -> R D} {U : DSt} {p : D -> Bool} {g : D -> D} (hl : ds.length <= 1000000) (hc : ∀ d ∈ ds, c (some d :: U) = .ok (p d)) (h : ∀ d ∈ ds, p d = true -> e (some d :: U) = .ok (g d)) :
  lcK 1 [0] (.ok ds) zan c e U = .ok ((ds.filter p).map g) := by
 have go : ∀ ds : List D, (∀ d ∈ ds, c (some d :: U) = .ok (p d)) -> (∀ d ∈ ds, p d = true -> e (some d :: U) = .ok (g d)) -> lcD [0] zan c e (List.replicate 1 none ++ U) ds = .ok ((ds.filter p).map g) := by
  intro ds
  induction ds with
  | nil => intro _ _; rfl
  | cons d ds ih =>
   intro hc h
   have ih' := ih (fun d' hd => hc d' (xad _ hd)) fun d' hd => h d' (xad _ hd)
   show (c (some d :: U)).bind (fun k => bif k then (e (some d :: U)).bind (fun y => (lcD [0] zan c e (List.replicate 1 none ++ U) ds).bind fun ys => .ok (y :: ys)) else lcD [0] zan c e (List.replicate 1 none ++ U) ds) = _
   rw [hc d xab, ih']
   cases hp : p d with
   | true =>
    show (e (some d :: U)).bind _ = _
    rw [h d xab hp, List.filter_cons_of_pos hp]; rfl
   | false => rw [List.filter_cons_of_neg (by rw [hp]; exact xaw)]; rfl
 show (bif most ds.length then _ else _) = _
 rw [zeB hl, go ds hc h]; rfl
end DL
namespace DL
open L2 PyProof.Rows
section
variable {X : Cx} {E : XK} {e : Expr} {te : TE} {pos : Pos}
theorem zht (its : List Value) : slicePick its.toArray none none (some (-1)) = its.reverse.toArray := by
 unfold slicePick
 have hb : sliceBounds none none (some (-1)) its.toArray.size = ((its.length : Int) - 1, -1, -1) := by
  simp [sliceBounds]
 rw [hb]
 have hr : sliceRange ((its.length : Int) - 1) (-1) (-1) = (List.range its.length).map fun k => its.length - 1 - k := by
  unfold sliceRange
  rw [if_neg (by decide)]
  have hc : (if ((its.length : Int) - 1) > -1 then (((its.length : Int) - 1) - -1 - -1 - 1) / (- -1) else 0).toNat = its.length := by
   split
   ·rw [show (- -1 : Int) = 1 from rfl, Int.ediv_one]; omega
   ·omega
  show List.map (fun (k : Nat) => (((its.length : Int) - 1) + -1 * (k : Int)).toNat) (List.range (if ((its.length : Int) - 1) > -1 then (((its.length : Int) - 1) - -1 - -1 - 1) / (- -1) else 0).toNat) = _
  rw [hc]
  refine xck fun k hk => ?_
  have := xaz.mp hk
  omega
 show ((sliceRange ((its.length : Int) - 1) (-1) (-1)).filterMap (its.toArray[·]?)).toArray = _
 rw [hr, List.filterMap_map]
 congr 1
 refine xdf fun i => ?_
 have key : ∀ n, n <= its.length -> (List.range n).filterMap ((fun x => its.toArray[x]?) ∘ fun k => its.length - 1 - k) = (its.drop (its.length - n)).reverse := by
  intro n
  induction n with
  | zero => intro _; simp
  | succ n ih =>
   intro hn
   rw [List.range_succ, List.filterMap_append, ih (by omega)]
   have hlt : its.length - (n + 1) < its.length := by omega
   have e1 : its.drop (its.length - (n + 1)) = its[its.length - (n + 1)] :: its.drop (its.length - n) := by
    rw [xb4 hlt]
    congr 2
    omega
   have e2 : its.length - 1 - n = its.length - (n + 1) := by omega
   rw [e1, xcq]
   congr 1
   simp only [xcj, List.filterMap_nil, Function.comp]
   rw [e2]
   simp [hlt]
 rw [key its.length (xai _), Nat.sub_self, List.drop_zero]
def tRev (K : xFg) (te : TE) : TE := fun U H Q => te U H fun x H1 => ∃ a xs, x = .ref a /\ SqL K H1 a xs /\ ∀ p, H1 p = none -> Q (.ref p) (upd H1 p (.lst xs.reverse))
theorem zvM {j : Nat} {p1 p2 p3 : Pos} (he : PE X e te) : PE X (.Subscript e (.Slice none none (some (.UnaryOp .USub (.Constant (.int 1) j p1) p3)) p2) pos) (tRev X.K te) := by
 intro pins s U H Q I h
 refine Subscript_ (thn (he pins s U H _ I h) fun v s1 ⟨x, H1, I1, r1, a, xs, ex, hx, q⟩ => ?_)
 subst ex
 cases r1
 refine wpAny_Slice ?_
 rw [evalPart_none]
 refine wpAny_pure (wpAny_pure ?_)
 have hu : PE X (.UnaryOp .USub (.Constant (.int 1) j p1) p3) (tUn (rU fun i => .int (-i)) (tC (.int 1))) := zuc zqJ zqF
 have hpo : PO X (some (.UnaryOp .USub (.Constant (.int 1) j p1) p3)) (zul (tUn (rU fun i => .int (-i)) (tC (.int 1)))) := zmB hu
 refine thn (hpo pins s1 U H1 (fun o H' => o = some (-1) /\ H' = H1) I1 ⟨1, rfl, -1, rfl, rfl, rfl⟩) fun vs s3 ⟨o, H3, I3, po, eo, eH⟩ => ?_
 subst eo; subst eH
 have I4 : Inv X pins U H3 { s3 with heap := s3.heap.push { cls := .type "slice", data := .fields #[.none, .none, vs] } } := I3.kept (t' := s3.toks) fun b ob q => xaa _ q
 obtain ⟨its, r, ht, hz⟩ := I4.list hx
 refine tail_any (ops := [.ref a, .ref s3.heap.objs.size]) ht.isList.typeIs slot_list_getitem.lookup (wpAny_getItem_list_slice ht.isList (Heap.IsSliceOf.new ..) .none .none po (by simp) ?_ (by rw [xag, <- r.length]; exact hz)) (by with_unfolding_all rfl)
 rw [zht]
 refine ⟨.ref _, _, I4.lnew (t' := s3.toks) r.reverse (by rw [xc0]; exact hz), rfl, q _ I4.fresh⟩
def zxD : D -> R D
 | .lst xs => .ok (.lst xs.reverse)
 | _ => .bad
theorem Reps.reverse {K : xFg} {mg : Str -> Option Value} {G : Hp} : ∀ {ds : List D} {vs : List V}, Reps K mg G ds vs -> Reps K mg G ds.reverse vs.reverse
 | [], _, h => by cases h; exact rfl
 | d :: ds, _, ⟨v, r, h1, h2, h3⟩ => by
  subst h1
  rw [xcq, xcq]
  exact (Reps.reverse h3).append (Reps.cons h2 Reps.nil)
theorem zvN {fe : DSt -> R D} {j : Nat} {p1 p2 p3 : Pos} (he : DE X E e fe) : DE X E (.Subscript e (.Slice none none (some (.UnaryOp .USub (.Constant (.int 1) j p1) p3)) p2) pos) (eUn zxD fe) := by
 refine PE.mono' (zvM he) fun U H Q ⟨G, Ud, ok, q⟩ => ?_
 refine zbR (P := zag X.K X.mg Q) ok q fun d v G' H' s ok' r q' => ?_
 cases d with
 | lst xs =>
  obtain ⟨a, vs, rfl, h1, h2⟩ := r
  refine ⟨a, vs, rfl, ok'.ext.seq h1, fun p hp => ?_⟩
  have sp := zaS.pub (o := .lst vs.reverse) ok'.ext hp
  exact (show zag X.K X.mg Q G H (.lst xs.reverse) from q') _ _ _ (s.trans sp) ⟨p, _, rfl, SqL.of zae, h2.reverse.mono sp.g⟩
 | _ => exact (show False from q').elim
def zww (i : Nat) (l : R (List D)) (a k : R D) (U : DSt) : R Out := l.bind fun ds => a.bind fun d => k.bind fun kd => match kd with
 | .int n => match ixN ds.length n with
  | some j => .ok (.nx (U.set i (some (.lst (ds.set j d)))))
  | none => .bad
 | _ => .bad
def zvO (own : List Nat) (i : Nat) (fk fe : DSt -> R D) : DSt -> R Out := fun U => zww i (zb3 U i) (fe (mask own U)) (fk (mask own U)) U
variable {own ol : List Nat} {x : Str} {k : Expr} {fk fe : DSt -> R D} {np tpos : Pos}
theorem zvP (i : Nat) (hk : DE X E k fk) (he : DE X E e fe) (ho : own.contains i = true := by rfl) (hN : X.N[i]? = some x := by rfl) (hv : Vis X.env.scope x := by first | exact Or.inl rfl | exact Or.inr (Or.inl rfl) | exact Or.inr (Or.inr rfl)) (hd : (x == ("__debug__" : Str)) = false := by decide)
  (hcd : (x == ("__classdict__" : Str)) = false := by decide)
  (ha : ∀ v, assign (.Subscript (.Name x np) k tpos) X.env v = (do
   let ov <- holding [v] (eval (.Name x np) X.env)
   let iv <- holding [v, ov] (eval k X.env)
   standAt tpos
   holding [v, ov, iv] (setItem ov iv v)
   release [v, ov, iv] []) := by intro _; rfl)
  (hs : swapsWithSole [.Subscript (.Name x np) k tpos] e pos.line X.env = pure false := by rfl) (hw : swappedStores [.Subscript (.Name x np) k tpos] e X.env = pure none := by rfl)
  (h1 : (assignEach [.Subscript (.Name x np) k tpos] X.env).map (·.2) = [assign (.Subscript (.Name x np) k tpos) X.env] := by rfl) :
  DS X E own own ol (.Assign [.Subscript (.Name x np) k tpos] e pos) (zvO own i fk fe) := fun G0 =>
 PS.mono' (zqH he (zt8 (pv i hN hv hd hcd) hk zpk ha) hs hw h1) fun Dn U H ⟨G, Ud, ok, s0, q⟩ => by
 unfold zvO zww at q
 cases hL : zb3 Ud i with
 | bad => rw [hL] at q; exact q.elim
 | err e => exact absurd hL zkb
 | ok ds =>
  rw [hL] at q
  have hd := zka hL
  have hi : i ∈ own := by simpa using ho
  obtain ⟨a, ds', vs, p1, p2, p3, p4, p5, p6⟩ := ok.mine i _ hi hd
  cases p2
  refine ⟨G, mask own Ud, ok.masked, (show RW ((fe (mask own Ud)).bind _) _ _ from q).of_bind.mono (fun d _ z v G1 H1 s1 r1 => ?_) fun _ z => z.step s0⟩
  have ok1 := ok.step s1
  refine ⟨_, p1, G1, mask own Ud, ok1.masked, z.of_bind.mono (fun kd _ z kv G2 H2 s2 r2 => ?_) fun _ z => z.step (s0.trans s1)⟩
  have ok2 := ok1.step s2
  have s12 := s1.trans s2
  cases kd with
  | int n =>
   cases r2
   cases hj : ixN ds.length n with
   | none => simp only [hj] at z; exact z.elim
   | some j =>
    simp only [hj] at z
    refine ⟨a, vs, n, j, rfl, rfl, s12.h _ _ p3, by rw [<- p6.length]; exact hj, ?_⟩
    exact (show zgm X.K X.mg G0 X.H₀ own ol Dn G (.nx (Ud.set i (some (.lst (ds.set j d))))) from z) U G2 _ (ok2.write hi hd p1 ((p6.mono s12.g).set j (r1.mono s2.g))) ((s0.trans s12).write (o := .lst vs) p5 (s12.c _ _ p3 p4)) s12.g
  | _ => exact (show False from z).elim
end
end DL
namespace DL
open L2 PyProof.Rows
def inD (d : D) (xs : List D) : Bool := xs.any fun y => eqD y d
def in2 (d : D) (xs : List D) : Bool := zcy 9 d && xs.all (zcy 9)
def gIn : D -> D -> R D
 | d, .lst xs => bif in2 d xs then .ok (.bl (inD d xs)) else .bad
 | d, .tup xs => bif in2 d xs then .ok (.bl (inD d xs)) else .bad
 | .str i, .str j => .ok (.bl (!(Builtin.Str.occurrences j i 0 j.length 1).isEmpty))
 | _, _ => .bad
def zlM : D -> D -> R D
 | d, .lst xs => bif in2 d xs then .ok (.bl (!inD d xs)) else .bad
 | d, .tup xs => bif in2 d xs then .ok (.bl (!inD d xs)) else .bad
 | .str i, .str j => .ok (.bl (!(!(Builtin.Str.occurrences j i 0 j.length 1).isEmpty)))
 | _, _ => .bad
section
variable {X : Cx} {E : XK}
theorem zvQ {K : xFg} {mg : Str -> Option Value} {G : Hp} {d : D} (f : Value -> Bool) : ∀ {ds : List D} {vs : List V} {its : List Value}, (∀ d' v' u, d' ∈ ds -> Rep K mg G d' v' -> RelV v' u -> f u = eqD d' d) -> Reps K mg G ds vs -> zaP vs its -> its.any f = ds.any fun y => eqD y d
 | [], _, _, _, r, t => by cases r; cases t; rfl
 | d' :: ds, _, _, h, ⟨v, vs, e, r1, r2⟩, t => by
  subst e
  cases t with
  | cons q t =>
   rw [List.any_cons, List.any_cons, h d' _ _ xab r1 q, zvQ f (fun d'' v'' u hd => h d'' v'' u (xad _ hd)) r2 t]
theorem zfN {K : xFg} {mg : Str -> Option Value} {G : Hp} : ∀ {ds : List D} {vs : List V} {its : List Value}, Reps K mg G ds vs -> zaP vs its -> ∀ u ∈ its, ∃ d' v', d' ∈ ds /\ Rep K mg G d' v' /\ RelV v' u
 | [], _, _, r, t, u, hu => by cases r; cases t; cases hu
 | d' :: ds, _, _, ⟨v, vs, e, r1, r2⟩, t, u, hu => by
  subst e
  cases t with
  | cons q t =>
   rcases xak.mp hu with rfl | hu
   ·exact ⟨d', v, xab, r1, q⟩
   ·obtain ⟨d'', v'', h1, h2, h3⟩ := zfN r2 t u hu
    exact ⟨d'', v'', xad _ h1, h2, h3⟩
def rInD (K : xFg) (mg : Str -> Option Value) (neg : Bool) : R2 := fun x y H Q => ∃ G d ds p vs, zai G H /\ Rep K mg G d x /\ y = .ref p /\ (SqL K G p vs \/ SqT K G p vs) /\ Reps K mg G ds vs /\ in2 d ds = true /\ Q (.bl (bif neg then !inD d ds else inD d ds)) H
open Classical in
theorem zfg {pins : List (Addr × Obj)} {U : L2.St} {G H : Hp} {s : Shared} (I : Inv X pins U H s) {k : Nat} (r : ze9 k X.A) (e : zai G H) {d : D} {x : V} {v : Value} {ds : List D} {vs : List V} {its : List Value} (rx : Rep X.K X.mg G d x) (qx : RelV x v) (rs : Reps X.K X.mg G ds vs) (t : zaP vs its) (h : in2 d ds = true) :
  ∃ f : Value -> Bool, (∀ u ∈ its, SeqAt.EqAt X.A.in1 s u v (f u)) /\ its.any f = inD d ds := by
 unfold in2 at h
 rw [xax, xay] at h
 obtain ⟨h1, h2⟩ := h
 have key : ∀ d' v' u, d' ∈ ds -> Rep X.K X.mg G d' v' -> RelV v' u -> decide (∃ d'' v'', d'' ∈ ds /\ Rep X.K X.mg G d'' v'' /\ RelV v'' u /\ eqD d'' d = true) = eqD d' d := by
  intro d' v' u hd r1 q1
  by_cases hq : eqD d' d = true
  ·rw [hq]; exact decide_eq_true ⟨d', v', hd, r1, q1, hq⟩
  ·rw [Bool.not_eq_true] at hq
   rw [hq]
   refine decide_eq_false ?_
   rintro ⟨d'', v'', hd', r2, q2, hq'⟩
   have ev := q1.inj q2
   subst ev
   have := zjt I e 9 (h2 _ hd) (h2 _ hd') r1 r2
   subst this
   rw [hq] at hq'; cases hq'
 refine ⟨fun u => decide (∃ d'' v'', d'' ∈ ds /\ Rep X.K X.mg G d'' v'' /\ RelV v'' u /\ eqD d'' d = true), fun u hu => ?_, zvQ _ key rs t⟩
 obtain ⟨d', v', hd, r1, q1⟩ := zfN rs t u hu
 show SeqAt.EqAt X.A.in1 s u v (decide _)
 rw [key d' v' u hd r1 q1]
 exact (znn I e 9 (by rw [in1_units]; have := r.un; omega) (h2 _ hd) h1 r1 q1 rx qx).1
theorem zvR {k : Nat} (r : ze9 k X.A) : OpR X (compareOp .In) (rInD X.K X.mg false) := by
 intro pins s U H x y v u Q I rx ry h
 obtain ⟨G, d, ds, p, vs, e, r1, rfl, hq, rs, c, q⟩ := h
 cases ry
 rcases hq with hq | hq
 ·obtain ⟨its, t, pl, hz⟩ := I.list (e.seq hq)
  obtain ⟨f, h1, h2⟩ := zfg I r e r1 rx rs t c
  refine SeqAt.in_listAt f pl.isList (fun w hw => h1 w (by simpa using hw)) ⟨.bl _, H, I, rfl, ?_⟩
  rw [show its.toArray.any f = its.any f by simp, h2]; exact q
 ·obtain ⟨its, t, pl, hz⟩ := I.tuple (zai.sqT e hq)
  obtain ⟨f, h1, h2⟩ := zfg I r e r1 rx rs t c
  refine SeqAt.in_tupleAt f pl (fun w hw => h1 w (by simpa using hw)) ⟨.bl _, H, I, rfl, ?_⟩
  rw [show its.toArray.any f = its.any f by simp, h2]; exact q
theorem zsZ {k : Nat} (r : ze9 k X.A) : OpR X (compareOp .NotIn) (rInD X.K X.mg true) := by
 intro pins s U H x y v u Q I rx ry h
 obtain ⟨G, d, ds, p, vs, e, r1, rfl, hq, rs, c, q⟩ := h
 cases ry
 rcases hq with hq | hq
 ·obtain ⟨its, t, pl, hz⟩ := I.list (e.seq hq)
  obtain ⟨f, h1, h2⟩ := zfg I r e r1 rx rs t c
  refine SeqAt.notIn_listAt f pl.isList (fun w hw => h1 w (by simpa using hw)) ⟨.bl _, H, I, rfl, ?_⟩
  rw [show its.toArray.any f = its.any f by simp, h2]; exact q
 ·obtain ⟨its, t, pl, hz⟩ := I.tuple (zai.sqT e hq)
  obtain ⟨f, h1, h2⟩ := zfg I r e r1 rx rs t c
  refine SeqAt.notIn_tupleAt f pl (fun w hw => h1 w (by simpa using hw)) ⟨.bl _, H, I, rfl, ?_⟩
  rw [show its.toArray.any f = its.any f by simp, h2]; exact q
abbrev rInS (neg : Bool) : R2 := fun x y H Q => ∃ i j, x = .str i /\ y = .str j /\ Q (.bl (bif neg then !(!(Builtin.Str.occurrences j i 0 j.length 1).isEmpty) else !(Builtin.Str.occurrences j i 0 j.length 1).isEmpty)) H
theorem zxE {k : Nat} (C : XC X E k) : zke X .In gIn := ⟨_, (zvR C.room).or (zmw : OpR X _ (rInS false)), fun G H a b x y Q e ra rb q => by
 cases b with
 | lst xs =>
  obtain ⟨p, vs, rfl, h1, h2⟩ := rb
  cases hc : in2 a xs with
  | false => simp only [gIn, hc, cond_false] at q; exact q.elim
  | true => simp only [gIn, hc, cond_true] at q; exact .inl ⟨G, a, xs, p, vs, e, ra, rfl, .inl h1, h2, hc, zag.now q e rfl⟩
 | tup xs =>
  obtain ⟨p, vs, rfl, h1, h2⟩ := rb
  cases hc : in2 a xs with
  | false => simp only [gIn, hc, cond_false] at q; exact q.elim
  | true => simp only [gIn, hc, cond_true] at q; exact .inl ⟨G, a, xs, p, vs, e, ra, rfl, .inr h1, h2, hc, zag.now q e rfl⟩
 | str j => cases a with
  | str i => cases ra; cases rb; exact .inr ⟨i, j, rfl, rfl, zag.now q e rfl⟩
  | _ => exact (show False from q).elim
 | _ => cases a <;> exact (show False from q).elim, fun a b e => by
  cases b with
  | lst xs => simp only [gIn]; cases in2 a xs <;> simp [cond]
  | tup xs => simp only [gIn]; cases in2 a xs <;> simp [cond]
  | _ => cases a <;> simp [gIn]⟩
theorem zvS {k : Nat} (C : XC X E k) : zke X .NotIn zlM := ⟨_, (zsZ C.room).or (zh6 : OpR X _ (rInS true)), fun G H a b x y Q e ra rb q => by
 cases b with
 | lst xs =>
  obtain ⟨p, vs, rfl, h1, h2⟩ := rb
  cases hc : in2 a xs with
  | false => simp only [zlM, hc, cond_false] at q; exact q.elim
  | true => simp only [zlM, hc, cond_true] at q; exact .inl ⟨G, a, xs, p, vs, e, ra, rfl, .inl h1, h2, hc, zag.now q e rfl⟩
 | tup xs =>
  obtain ⟨p, vs, rfl, h1, h2⟩ := rb
  cases hc : in2 a xs with
  | false => simp only [zlM, hc, cond_false] at q; exact q.elim
  | true => simp only [zlM, hc, cond_true] at q; exact .inl ⟨G, a, xs, p, vs, e, ra, rfl, .inr h1, h2, hc, zag.now q e rfl⟩
 | str j => cases a with
  | str i => cases ra; cases rb; exact .inr ⟨i, j, rfl, rfl, zag.now q e rfl⟩
  | _ => exact (show False from q).elim
 | _ => cases a <;> exact (show False from q).elim, fun a b e => by
  cases b with
  | lst xs => simp only [zlM]; cases in2 a xs <;> simp [cond]
  | tup xs => simp only [zlM]; cases in2 a xs <;> simp [cond]
  | _ => cases a <;> simp [zlM]⟩
end
theorem zs0 {d : D} {xs : List D} (h : in2 d xs = true) : zlM d (.lst xs) = .ok (.bl (!inD d xs)) := by
 cases d <;> (simp only [zlM]; rw [h]; rfl)
end DL
namespace DL
open L2 PyProof.Rows
section
variable {prog : Program} {w : World} {A : Around} {E : Value -> Shared -> Prop} {s : Shared}
theorem items_int {ks : List Int} {vs : List Value} (h : ItemsAre (intKind prog w) ks vs) : ∀ v ∈ vs, ∃ i t, v = .int i t := by
 induction h with
 | nil => intro v hv; cases hv
 | cons q _ ih =>
  intro v hv
  rcases xak.mp hv with rfl | hv
  ·cases v with
   | int i t => exact ⟨i, t, rfl⟩
   | _ => cases q
  ·exact ih v hv
theorem zk4 {ks : List Int} {b : Addr} {Q : Bool -> Shared -> Prop} (hk : IsTupleKey (intKind prog w) s.heap ks b) (q : Q false s) : wpAny (model prog w) A (ofAClassStatement 8 (.ref b)) Q E s := by
 have ty := hk.typeIs
 obtain ⟨ob, its, m, g1, _, g2, g3⟩ := hk
 have hint := items_int g3
 unfold ofAClassStatement
 refine wpAny_bind (wpAny_typeOf ty ?_)
 refine wpAny_bind (wpAny_pure ?_)
 dsimp only
 rw [if_neg (by decide)]
 refine wpAny_bind (wpAny_seqItems g1 g2 ?_)
 dsimp only
 refine wpAny_bind ?_
 show wpAny _ _ (forIn its _ _) _ _ s
 rw [<- Array.forIn_toList]
 refine wpAny_forIn_list _ (fun left r s1 => r.1 = none /\ s1 = s /\ ∀ v ∈ left, ∃ i t, v = Value.int i t) _ ?_ ?_ _ _ ⟨rfl, rfl, hint⟩
 ·rintro v left r s1 ⟨hr, rfl, all⟩
  obtain ⟨i, t, rfl⟩ := all v xab
  refine wpAny_bind (wpAny_pure (a := false) ?_)
  rw [if_neg (by decide)]
  exact wpAny_pure ⟨rfl, rfl, fun u hu => all u (xad _ hu)⟩
 ·rintro ⟨r1, r2⟩ s1 ⟨hr, rfl, _⟩
  simp only at hr
  subst hr
  exact wpAny_pure q
theorem zjx {ks : List Int} {b : Addr} {stored : List Value} {Q : Bool -> Shared -> Prop} (hk : IsTupleKey (intKind prog w) s.heap ks b) (hs : ∀ v ∈ stored, ∃ c ls, v = .ref c /\ IsTupleKey (intKind prog w) s.heap ls c) (q : Q false s) : wpAny (model prog w) A (searchCouldBeSeen (.ref b) stored) Q E s := by
 unfold searchCouldBeSeen
 refine wpAny_bind ?_
 refine wpAny_forIn_list _ (fun left r s1 => r.1 = none /\ s1 = s /\ ∀ v ∈ left, ∃ c ls, v = Value.ref c /\ IsTupleKey (intKind prog w) s.heap ls c) _ ?_ ?_ _ _ ⟨rfl, rfl, hs⟩
 ·rintro v left r s1 ⟨hr, rfl, all⟩
  obtain ⟨c, ls, rfl, hc⟩ := all v xab
  have zaD : ∀ u ∈ left, ∃ c ls, u = Value.ref c /\ IsTupleKey (intKind prog w) s1.heap ls c := fun u hu => all u (xad _ hu)
  dsimp only
  by_cases hv : (b == c || carriedByValue (.ref b) && carriedByValue (.ref c)) = true
  ·rw [if_pos hv]
   exact wpAny_pure ⟨rfl, rfl, zaD⟩
  ·rw [if_neg hv]
   refine wpAny_bind (wpAny_eqIsQuiet_tuple hk ?_)
   rw [if_neg (by decide)]
   refine wpAny_bind (wpAny_eqIsQuiet_tuple hc ?_)
   rw [if_neg (by decide)]
   refine wpAny_bind (zk4 hk ?_)
   rw [if_neg (by decide)]
   refine wpAny_bind (zk4 hc ?_)
   rw [if_neg (by decide)]
   exact wpAny_pure ⟨rfl, rfl, zaD⟩
 ·rintro ⟨r1, r2⟩ s1 ⟨hr, rfl, _⟩
  simp only at hr
  subst hr
  exact wpAny_pure q
theorem zof {ks : List Int} {b : Addr} {Q : Bool -> Shared -> Prop} (hk : IsTupleKey (intKind prog w) s.heap ks b) (q : Q true s) : wpAny (model prog w) A (hashByValue 8 (.ref b)) Q E s := by
 have ty := hk.typeIs
 obtain ⟨ob, its, m, g1, _, g2, g3⟩ := hk
 have hint := items_int g3
 unfold hashByValue
 refine wpAny_bind (wpAny_specialOf ty PySem.F.slot_tuple_hash.lookup ?_)
 dsimp only
 refine wpAny_bind (wpAny_seqItems g1 g2 ?_)
 refine wpAny_bind ?_
 show wpAny _ _ (forIn its _ _) _ _ s
 rw [<- Array.forIn_toList]
 refine wpAny_forIn_list _ (fun left r s1 => r.1 = none /\ s1 = s /\ ∀ v ∈ left, ∃ i t, v = Value.int i t) _ ?_ ?_ _ _ ⟨rfl, rfl, hint⟩
 ·rintro v left r s1 ⟨hr, rfl, all⟩
  obtain ⟨i, t, rfl⟩ := all v xab
  refine wpAny_bind (wpAny_pure (a := true) ?_)
  rw [if_neg (by decide)]
  exact wpAny_pure ⟨rfl, rfl, fun u hu => all u (xad _ hu)⟩
 ·rintro ⟨r1, r2⟩ s1 ⟨hr, rfl, _⟩
  simp only at hr
  subst hr
  exact wpAny_pure q
structure TSet (prog : Program) (w : World) (h : Heap) (a : Addr) (o : Obj) (es : Array (Int × Value)) (ep : Nat) (t : SetTable) (kss : List (List Int)) : Prop where
 get : h.get? a = some o
 ex : o.ExactSet
 dat : o.data = .set es ep t
 dm : t.dummies = #[]
 pl : t.place.size = es.size
 msk : (t.mask = 7 /\ es.size <= 4) \/ (t.mask = 31 /\ es.size <= 18)
 n : es.size = kss.length
 el : ∀ e ∈ es.toList, ∃ c ls, e.2 = .ref c /\ IsTupleKey (intKind prog w) h ls c /\ ls ∈ kss
variable {h : Heap} {a : Addr} {o : Obj} {es : Array (Int × Value)} {ep : Nat} {t : SetTable} {kss : List (List Int)}
theorem TSet.fits (S : TSet prog w h a o es ep t kss) : t.fits es.size = true := by
 unfold SetTable.fits SetTable.fill
 rw [S.pl, S.dm, xax, decide_eq_true_eq]
 refine ⟨beq_self_eq_true _, ?_⟩
 show es.size + 0 <= t.mask
 rcases S.msk with ⟨h1, h2⟩ | ⟨h1, h2⟩ <;> omega
theorem TSet.odd (S : TSet prog w h a o es ep t kss) : t.gaveWay = false := by
 unfold SetTable.gaveWay
 rcases S.msk with ⟨h1, h2⟩ | ⟨h1, h2⟩ <;> rw [h1] <;> rfl
theorem zeC : ∀ (n : Nat) (p : SetTable.Probe), p.dummy = none -> (SetT.iter t n p).dummy = none
 | 0, _, hp => hp
 | n + 1, p, hp => zeC n (t.advance p) (by rw [SetT.adv_dummy]; exact hp)
theorem zog {ks : List Int} {b : Addr} {Q : SetFound -> Shared -> Prop} (S : TSet prog w s.heap a o es ep t kss) (hk : IsTupleKey (intKind prog w) s.heap ks b) (hu : A.units < cLine) (hne : ks ∉ kss) (hh : Int) (q : ∀ j, Q (.free j false) s) :
  ∀ (k fuel : Nat) (stand : Option SetTable.Probe), (stand.getD (t.probeStart hh)).dummy = none -> t.slot (SetT.iter t k (stand.getD (t.probeStart hh))).j = .empty -> k < 10 * SetTable.turns t.mask -> k < fuel -> wpAny (model prog w) A (setSearchFrom a (.ref b) hh true fuel stand) Q E s := by
 intro k
 induction k using Nat.strongRecOn with
 | _ k ih =>
  intro fuel stand hd he hk1 hk2
  obtain ⟨f, rfl⟩ : ∃ f, fuel = f + 1 := ⟨fuel - 1, by omega⟩
  unfold setSearchFrom
  refine wpAny_bind (wpAny_setState_of S.get S.dat S.fits ?_)
  dsimp only
  rw [S.odd, if_neg (by decide)]
  have key : ∀ ha, (∃ j, t.probe ha hh (stand.getD (t.probeStart hh)) = some (.empty j none)) \/ ∃ j i m, m < k /\ t.probe ha hh (stand.getD (t.probeStart hh)) = some (.candidate j i (SetT.iter t (m + 1) (stand.getD (t.probeStart hh)))) /\ t.slot j = .live i /\ t.place[i]? = some j := fun ha => SetT.go_ok S.dm ha hh k (10 * SetTable.turns t.mask) (stand.getD (t.probeStart hh)) hd he hk1
  have key2 : ∀ ha X, t.probe ha hh (stand.getD (t.probeStart hh)) = X -> (∃ j, X = some (.empty j none)) \/ ∃ j i m, m < k /\ X = some (.candidate j i (SetT.iter t (m + 1) (stand.getD (t.probeStart hh)))) /\ t.slot j = .live i /\ t.place[i]? = some j := fun ha X z => by
   subst z
   exact key ha
  generalize hX : t.probe _ hh (stand.getD (t.probeStart hh)) = X
  rcases key2 _ _ hX with ⟨j, rfl⟩ | ⟨j, i, m, hm, rfl, hl, hp⟩
  ·exact wpAny_pure (q j)
  ·dsimp only
   have hi : i < es.size := by
    have := (xa3.mp hp).1
    rw [S.pl] at this
    exact this
   have pre : ∀ {mm : Sem SetFound}, wpAny (model prog w) A mm Q E s -> wpAny (model prog w) A (if (!t.led) = true then do
     let l <- searchCouldBeSeen (Value.ref b) (List.map (fun x => x.snd) (Array.filter (fun x => x.fst == hh) es).toList)
     if l = true then do
      unsupported "set:the-search-would-show-the-table"
      mm
     else mm
    else mm) Q E s := by
    intro mm hmm
    by_cases hled : (!t.led) = true
    ·rw [if_pos hled]
     refine wpAny_bind (zjx hk (fun v hv => ?_) ?_)
     ·obtain ⟨x, hx, rfl⟩ := xav.mp hv
      rw [xdw] at hx
      obtain ⟨c, ls, h1, h2, _⟩ := S.el x (xbm.mp hx).1
      exact ⟨c, ls, h1, h2⟩
     ·rw [if_neg (by decide)]
      exact hmm
    ·rw [if_neg hled]
     exact hmm
   refine pre ?_
   obtain ⟨c, ls, h1, h2, h3⟩ := S.el es[i] (by rw [<- xdu]; exact xbz _)
   have eqn : es[i]? = some (es[i].1, Value.ref c) := by rw [xa1 hi, <- h1]
   rw [eqn]
   dsimp only
   refine wpAny_bind (wpAny_holding (wpAny_eqBool_tuple hu h2 hk ?_))
   rw [decide_eq_false (fun z : ls = ks => hne (z ▸ h3))]
   refine wpAny_bind (wpAny_setState_of S.get S.dat S.fits ?_)
   dsimp only
   rw [if_neg (by decide), show t.sameMemory t.moves t.mask = some true from by unfold SetTable.sameMemory; rw [if_pos (beq_self_eq_true _)]]
   dsimp only
   rw [if_pos rfl, hl]
   dsimp only
   rw [eqn]
   dsimp only
   refine wpAny_bind (wpAny_isSame_ref_self ?_)
   refine wpAny_bind (wpAny_pure ?_)
   rw [if_pos rfl]
   dsimp only
   rw [if_neg (by decide)]
   refine ih (k - (m + 1)) (by omega) f (some _) (zeC _ _ hd) ?_ (by omega) (by omega)
   have e3 : SetT.iter t k (stand.getD (t.probeStart hh)) = SetT.iter t (k - (m + 1)) (SetT.iter t (m + 1) (stand.getD (t.probeStart hh))) := by
    rw [<- SetT.iter_add]
    congr 1
    omega
   rw [e3] at he
   exact he
theorem zbV {h' : Heap} (sb : Heap.SameBut a h h') (g : h.get? a = some o) (dd : o.data = .set es ep t) {ls : List Int} {c : Addr} (hk : IsTupleKey (intKind prog w) h ls c) : IsTupleKey (intKind prog w) h' ls c := by
 obtain ⟨ob, its, m, g1, g2, g3, g4⟩ := hk
 have ne : c ≠ a := fun z => by
  subst z
  rw [g] at g1
  cases g1
  rw [dd] at g3
  cases g3
 exact ⟨ob, its, m, (sb.2 c ne).trans g1, g2, g3, g4⟩
theorem zdY {es' : Array (Int × Value)} {t' : SetTable} (g : h.get? a = some o) (dd : o.data = .set es ep t) : (h.update a (Obj.putSet es' t')).get? a = some { o with data := .set es' (ep + 1) t' } := by
 have := xb2 (Obj.putSet es' t') g (by rw [putSet_of es' t' dd]; rfl)
 rw [putSet_of es' t' dd] at this
 exact this
theorem zbG {α : Type} (xs : Array α) (p : Nat) (x : α) : (SetTable.insertAt xs p x).size = xs.size + 1 := by
 have := (SetTable.insertAt_perm xs p x).length_eq
 rw [xaj, xaj, Array.size_push] at this
 exact this
theorem zeL {α : Type} {xs : Array α} {p : Nat} {x y : α} (hy : y ∈ (SetTable.insertAt xs p x).toList) : y = x \/ y ∈ xs.toList := by
 have := (SetTable.insertAt_perm xs p x).mem_iff.mp hy
 rw [Array.toList_push] at this
 rcases xbr.mp this with z | z
 ·exact .inr z
 ·exact .inl (xa9.mp z)
theorem zvT {ks : List Int} {b : Addr} {Q : Bool -> Shared -> Prop} (S : TSet prog w s.heap a o es ep t kss) (hk : IsTupleKey (intKind prog w) s.heap ks b) (hu : A.units < cLine) (hne : ks ∉ kss) (hsz : kss.length <= 17)
  (q : ∀ h' o' es' ep' t' tk, Heap.SameBut a s.heap h' -> TSet prog w h' a o' es' ep' t' (ks :: kss) -> Q true { s with heap := h', toks := tk }) : wpAny (model prog w) A (setAdd a (.ref b)) Q E s := by
 unfold setAdd
 refine wpAny_holding (wpAny_bind (wpAny_pyHash_tuple hu hk ?_))
 generalize tupleKeyHash (intKind prog w) ks = hh
 unfold setAddHashed setAddHashedIn
 refine wpAny_holding (wpAny_bind (wpAny_setState_of S.get S.dat S.fits ?_))
 dsimp only
 rw [show byScan (.ref b) es = false from rfl, if_neg (by decide)]
 unfold setSearch
 have hm : t.mask = 7 \/ t.mask = 31 := S.msk.elim (fun h => .inl h.1) fun h => .inr h.1
 obtain ⟨k, k1, k2⟩ := SetT.meets_empty S.dm hm (by rw [S.pl]; rcases S.msk with ⟨h1, h2⟩ | ⟨h1, h2⟩ <;> omega) hh
 refine wpAny_bind (zog (s := { s with toks := s.toks + (ks.length + 1) }) S hk hu hne hh (fun j => ?_) k 100000 none rfl k2 k1 (by
  have : 10 * SetTable.turns t.mask <= 460 := by unfold SetTable.turns; rcases hm with z | z <;> omega
  omega))
 dsimp only
 have p1 : (t.put j).1.mask = t.mask := rfl
 have p2 : (t.put j).1.dummies = #[] := by
  show (if SetTable.has t.dummies j then SetTable.eraseAt t.dummies (SetTable.below t.dummies j) else t.dummies) = #[]
  rw [S.dm, SetT.no_has]
  rfl
 have p3 : (t.put j).1.place.size = es.size + 1 := by
  show (SetTable.insertAt t.place _ j).size = _
  rw [zbG, S.pl]
 have fin : wpAny (model prog w) A (do
   storeSet a (SetTable.insertAt es (t.put j).snd (hh, Value.ref b)) (t.put j).fst
   if (!false && (t.put j).fst.tooFull) = true then do
    setRelay a (SetTable.grown (es.size + 1))
    pure true
   else pure true) Q E { s with toks := s.toks + (ks.length + 1) } := by
  generalize (t.put j).fst = t1 at p1 p2 p3
  have zz := zbG es (t.put j).snd (hh, Value.ref b)
  have mm := fun y hy => zeL (xs := es) (p := (t.put j).snd) (x := (hh, Value.ref b)) (y := y) hy
  generalize SetTable.insertAt es (t.put j).snd (hh, Value.ref b) = es1 at zz mm
  have hn := S.n
  have h18 : es.size <= 17 := by omega
  refine wpAny_bind (wpAny_storeSet_of S.get S.dat ?_ (xa4 (show es1.size <= 1000 by omega) (by decide)))
  have g1 := zdY (es' := es1) (t' := t1) S.get S.dat
  have sb1 : Heap.SameBut a s.heap (s.heap.update a (Obj.putSet es1 t1)) := Heap.SameBut.update _ a _
  generalize s.heap.update a (Obj.putSet es1 t1) = h1 at g1 sb1
  have el1 : ∀ e ∈ es1.toList, ∃ c ls, e.2 = .ref c /\ IsTupleKey (intKind prog w) h1 ls c /\ ls ∈ ks :: kss := by
   intro e he
   rcases mm e he with rfl | he
   ·exact ⟨b, ks, rfl, zbV sb1 S.get S.dat hk, xab⟩
   ·obtain ⟨c, ls, e1, e2, e3⟩ := S.el e he
    exact ⟨c, ls, e1, zbV sb1 S.get S.dat e2, xad _ e3⟩
  have fill1 : t1.fill = es.size + 1 := by
   unfold SetTable.fill
   rw [p2, p3]; rfl
  have full : t1.tooFull = decide ((es.size + 1) * 5 ≥ t.mask * 3) := by
   unfold SetTable.tooFull
   rw [fill1, p1]
  by_cases hf : (es.size + 1) * 5 ≥ t.mask * 3
  ·have h7 : t.mask = 7 /\ es.size = 4 := by rcases S.msk with ⟨x1, x2⟩ | ⟨x1, x2⟩ <;> omega
   rw [full, decide_eq_true hf, if_pos (by decide), h7.2]
   have gr : SetTable.grown (4 + 1) = 20 := by decide
   rw [gr]
   unfold setRelay
   refine wpAny_bind (wpAny_bind (wpAny_setState_of g1 rfl ?_ ?_))
   ·unfold SetTable.fits
    rw [fill1, p1, p3, zz, xax, decide_eq_true_eq]
    exact ⟨beq_self_eq_true _, by omega⟩
   ·dsimp only
    obtain ⟨t2, order, r1, r2, r3, r4, r5, r6⟩ := SetT.relaid_ok t1 (Array.map (fun x => x.fst) es1) (n := 5) (by rw [Array.size_map]; omega) (by decide)
    have z2 : (order.filterMap (es1[·]?)).size = 5 := by
     rw [<- xaj, xb9, SetT.fm_all _ _ (fun k hk => ?_), xaj, r5]
     have := r6 k hk
     rw [xa1 (by omega)]; rfl
    have m2 : ∀ e ∈ (order.filterMap (es1[·]?)).toList, e ∈ es1.toList := by
     intro e he
     rw [xb9] at he
     obtain ⟨k, _, hk⟩ := xby.mp he
     rw [<- xas] at hk
     exact xbn hk
    rw [if_neg (by decide), r1]
    refine wpAny_bind (wpAny_of_eq (a := (order.filterMap (es1[·]?), t2)) ?_ ?_)
    ·show (if ((order.filterMap (es1[·]?)).size != es1.size) = true then _ else _) = _
     rw [if_neg (by rw [z2, zz, h7.2]; decide)]
    ·generalize order.filterMap (es1[·]?) = es2 at z2 m2
     refine wpAny_storeSet_of g1 rfl ?_ (xa4 (show es2.size <= 1000 by omega) (by decide))
     have g2 := zdY (es' := es2) (t' := t2) g1 rfl
     have sb2 : Heap.SameBut a h1 (h1.update a (Obj.putSet es2 t2)) := Heap.SameBut.update _ a _
     generalize h1.update a (Obj.putSet es2 t2) = h2 at g2 sb2
     refine wpAny_pure (q h2 _ es2 (ep + 1 + 1) t2 _ (sb1.trans sb2) ⟨g2, S.ex, rfl, r3, by rw [r4, z2], .inr ⟨r2, by omega⟩, by rw [z2, xam, <- hn, h7.2], fun e he => ?_⟩)
     obtain ⟨c, ls, e1, e2, e3⟩ := el1 e (m2 e he)
     exact ⟨c, ls, e1, zbV sb2 g1 rfl e2, e3⟩
  ·rw [full, decide_eq_false hf, if_neg (by decide)]
   refine wpAny_pure (q h1 _ es1 (ep + 1) t1 _ sb1 ⟨g1, S.ex, rfl, p2, by rw [p3, zz], ?_, by rw [zz, hn, xam], el1⟩)
   rw [p1, zz]
   rcases S.msk with ⟨x1, x2⟩ | ⟨x1, x2⟩
   ·exact .inl ⟨x1, by omega⟩
   ·exact .inr ⟨x1, by omega⟩
 refine wpAny_bind (wpAny_setState_of (s := { s with toks := s.toks + (ks.length + 1) }) S.get S.dat S.fits ?_)
 dsimp only
 by_cases hpl : (t.put j).fst.plain = true
 ·rw [if_pos hpl]
  refine wpAny_bind (zof (s := { s with toks := s.toks + (ks.length + 1) }) hk ?_)
  exact fin
 ·rw [if_neg hpl]
  refine wpAny_bind (wpAny_pure ?_)
  exact fin
end
end DL
namespace DL
open L2 PyProof.Rows
section
variable {prog : Program} {w : World} {A : Around} {h h' : Heap} {it l z : Addr} {items : Array Value}
theorem zc5 (kp : ∀ b u, b ∉ [it] -> h.get? b = some u -> h'.get? b = some u) {i : Nat} (hi : h.IsListIter it l i) {ls : List Int} {c : Addr} (hk : IsTupleKey (intKind prog w) h ls c) : IsTupleKey (intKind prog w) h' ls c := by
 obtain ⟨ob, its, m, g1, g2, g3, g4⟩ := hk
 obtain ⟨oi, e1, e2, _⟩ := hi
 have ne : c ∉ [it] := fun q => by
  rw [xa9] at q
  subst q
  rw [g1] at e1
  cases e1
  rw [g2] at e2
  exact absurd e2 (by decide)
 exact ⟨ob, its, m, kp c _ ne g1, g2, g3, g4⟩
theorem TSet.move (kp : ∀ b u, b ∉ [it] -> h.get? b = some u -> h'.get? b = some u) {i : Nat} (hi : h.IsListIter it l i) (hz : z ≠ it) {o : Obj} {es : Array (Int × Value)} {ep : Nat} {t : SetTable} {kss : List (List Int)} (S : TSet prog w h z o es ep t kss) : TSet prog w h' z o es ep t kss :=
 ⟨kp z _ (by simpa using hz) S.get, S.ex, S.dat, S.dm, S.pl, S.msk, S.n, fun e he => by
  obtain ⟨c, ls, e1, e2, e3⟩ := S.el e he
  exact ⟨c, ls, e1, zc5 kp hi e2, e3⟩⟩
def zvU (prog : Program) (w : World) (h : Heap) (z : Addr) (keys : Nat -> List Int) (i : Nat) : Prop := ∃ o es ep t, TSet prog w h z o es ep t ((List.range i).reverse.map keys)
theorem zp2 {R : Result -> Shared -> Prop} (hh : A.handled = none) (hl : l ≠ it) (hz1 : z ≠ it) (hz2 : z ≠ l) (hu : A.units + 1 < cLine) (keys : Nat -> List Int) (kd : ∀ i j, i < j -> j < items.size -> keys i ≠ keys j) (hn : items.size <= 18) :
  ∀ (k i : Nat) (s : Shared), items.size - i = k -> i <= items.size -> (s.heap.IsListIter it l i /\ s.heap.IsList l items) -> zvU prog w s.heap z keys i -> (∀ j, j < items.size -> ∃ b, items[j]? = some (.ref b) /\ IsTupleKey (intKind prog w) s.heap (keys j) b) ->
   (∀ h2 tk, (∀ b u, b ≠ z -> b ≠ it -> s.heap.get? b = some u -> h2.get? b = some u) -> zvU prog w h2 z keys items.size -> R (.ok (.ret .none)) { s with heap := h2, toks := tk }) ->
   codeAny (model prog w) A (.builtin "set.update.loop" ⟨[.ref z, .ref it], []⟩) R s := by
 have W := Walks.list (prog := prog) (w := w) (A := A.in1) (by rw [Around.in1_handled]; exact hh) it l hl items
 intro k
 induction k with
 | zero =>
  intro i s hk hi st ⟨o, es, ep, t, S⟩ ht fin
  obtain rfl : i = items.size := by omega
  refine codeAny_builtin PyProof.Rows.F.entry_set_update_loop ?_
  rw [Around.under_plainId PyProof.Rows.F.plain_set_update_loop _]
  show wpAny _ A.in1 (pyNext (.ref it) >>= _) _ _ _
  refine wpAny_bind (W.done s _ _ st fun h2 tk kp => ?_)
  show wpAny _ A.in1 (ret Value.none) _ _ _
  exact wpAny_pure (fin h2 tk (fun b u _ b2 e => kp b u (by simpa using b2) e) ⟨o, es, ep, t, S.move kp st.1 hz1⟩)
 | succ k ih =>
  intro i s hk hi st ⟨o, es, ep, t, S⟩ ht fin
  have hlt : i < items.size := by omega
  refine codeAny_builtin PyProof.Rows.F.entry_set_update_loop ?_
  rw [Around.under_plainId PyProof.Rows.F.plain_set_update_loop _]
  show wpAny _ A.in1 (pyNext (.ref it) >>= _) _ _ _
  refine wpAny_bind (W.item i s _ _ hlt st fun v h1 tk hv st1 kp => ?_)
  obtain ⟨b, e1, e2⟩ := ht i hlt
  rw [hv] at e1
  cases e1
  have S1 := S.move (prog := prog) (w := w) kp st.1 hz1
  have ht1 : ∀ j, j < items.size -> ∃ b, items[j]? = some (.ref b) /\ IsTupleKey (intKind prog w) h1 (keys j) b := fun j hj => by
   obtain ⟨c, c1, c2⟩ := ht j hj
   exact ⟨c, c1, zc5 kp st.1 c2⟩
  show wpAny _ A.in1 (holding [Value.ref b] (setAdd z (.ref b)) >>= _) _ _ _
  refine wpAny_bind (wpAny_holding (zvT (s := { s with heap := h1, toks := tk }) S1 (zc5 kp st.1 e2) (by rw [Around.in1_units]; exact hu) (fun q => ?_) (by simp; omega) fun h2 o2 es2 ep2 t2 tk2 sb S2 => ?_))
  ·obtain ⟨j, j1, j2⟩ := xav.mp q
   have := xaz.mp (xbg.mp j1)
   exact kd j i this hlt j2
  ·have gz : z ∉ [it, l] := by
    rw [xak, xa9]
    rintro (q | q)
    ·exact hz1 q
    ·exact hz2 q
   refine wpAny_pure ⟨plainId_quiet PyProof.Rows.F.plain_set_update_loop _, ih (i + 1) _ (by omega) hlt ?_ ⟨o2, es2, ep2, t2, ?_⟩ (fun j hj => ?_) fun h3 tk3 kp3 S3 => ?_⟩
   ·exact W.frame _ h1 h2 st1 fun b hb u e => (sb.2 b fun q => gz (q ▸ hb)).trans e
   ·rw [List.range_succ, List.reverse_append]
    exact S2
   ·obtain ⟨c, c1, c2⟩ := ht1 j hj
    exact ⟨c, c1, zbV sb S1.get S1.dat c2⟩
   ·exact fin h3 tk3 (fun b u b1 b2 e => kp3 b u b1 b2 ((sb.2 b b1).trans (kp b u (by simpa using b2) e))) S3
abbrev zaX (led : Bool) : Obj := { cls := .type "set", dict := none, data := .set #[] 0 (.fresh 0 0 led) }
theorem zp3 {led : Bool} {keys : Nat -> List Int} (g : h.get? z = some (zaX led)) : zvU prog w h z keys 0 :=
 ⟨_, #[], 0, .fresh 0 0 led, g, ⟨rfl, rfl, rfl⟩, rfl, rfl, rfl, .inl ⟨rfl, by decide⟩, rfl, fun e he => by cases he⟩
set_option maxHeartbeats 3200000 in
theorem zoh {E : Value -> Shared -> Prop} {s : Shared} {Q : Value -> Shared -> Prop} (hh : A.handled = none) (hl : s.heap.IsList l items) (hu : A.units + 3 < cLine) (keys : Nat -> List Int) (kd : ∀ i j, i < j -> j < items.size -> keys i ≠ keys j) (hn : items.size <= 18)
  (ht : ∀ j, j < items.size -> ∃ b, items[j]? = some (.ref b) /\ IsTupleKey (intKind prog w) s.heap (keys j) b)
  (q : ∀ h2 tk, zvU prog w h2 s.heap.objs.size keys items.size -> (∀ b u, s.heap.get? b = some u -> h2.get? b = some u) -> Q (.ref s.heap.objs.size) { s with heap := h2, toks := tk }) : wpAny (model prog w) A (call (.type "set") [.ref l]) Q E s := by
 obtain ⟨mr1, mr2, mr3⟩ := PySem.F.called_set.mro
 have ma := PySem.F.called_set.made
 have su := PySem.F.called_set.sub
 have no := PySem.F.called_set.notType
 have cc := PySem.F.called_set.canCreate
 have ct := PySem.F.typeCall_set_1 (.ref l)
 refine wpAny_call (codeAny_of_tree ?_)
 show wpAny _ _ (callAny (.type "set") _) _ _ _
 refine wpAny_pure ⟨Code.quiet_builtin _ (by decide +kernel), codeAny_builtin F.entry_type_call ?_⟩
 rw [Around.under_plain (weight_type_call_type "set" [.ref l] []) rfl]
 repeat (any_goals (first | assumption | wp_step))
 refine codeAny_mono (code_set_new_1 (.ref l) (E := E) (Q₁ := fun ob s1 => ∃ led : Bool, ob = .ref s.heap.objs.size /\ s1 = { s with heap := s.heap.push (zaX led) }) fun led => ⟨led, rfl, rfl⟩) fun r s1 hr => ?_
 cases r with
 | error e => exact hr
 | ok fl =>
  cases fl with
  | ret ob =>
   obtain ⟨led, rfl, rfl⟩ := hr
   have gS : (s.heap.push (zaX led)).get? s.heap.objs.size = some (zaX led) := xal _ rfl
   have tS : Shared.TypeIs { s with heap := s.heap.push (zaX led) } (.ref s.heap.objs.size) "set" := ⟨_, gS, rfl⟩
   have il := PySem.F.called_set.init.lookup
   have ib := PySem.F.called_set.init.bind (.ref s.heap.objs.size)
   repeat (any_goals (first | assumption | wp_step))
   refine codeAny_mono (codeAny_call_builtin (R := wants (fun r s2 => r = .none /\ ∃ h2 tk, s2 = { s with heap := h2, toks := tk } /\ zvU prog w h2 s.heap.objs.size keys items.size /\ (∀ b u, s.heap.get? b = some u -> h2.get? b = some u)) E) PySem.F.called_set.init.plain PySem.F.entry_set_init (check_set_init_1 tS ?_)) fun r2 s2 hr2 => ?_
   ·obtain ⟨⟨c1, c2, c3, c4⟩, gl, cl, nl, dl⟩ := hl
    simp only at cl dl
    subst cl dl
    have gl1 : (s.heap.push (zaX led)).get? l = some { cls := .type "list", dict := c2, data := .seq items nl, slots := c4 } := xaa _ gl
    have ls := PySem.F.sub_list_set
    have lf := PySem.F.sub_list_frozenset
    have nd : (Value.type "list" == Value.type "dict") = false := by decide
    have il1 : (s.heap.push (zaX led)).IsList l items := ⟨_, gl1, rfl, nl, rfl⟩
    unfold Builtin.«set.__init__» noKeywords Builtin.Frozenset.updateFrom
    generalize hPI : pyIter = PI
    wp_walk
    subst hPI
    refine wpAny_pyIter_list il1 ?_
    refine wpAny_bind (wpAny_runValue ?_)
    have lS : l < s.heap.objs.size := xaf gl
    refine zp2 (A := A.in1.in1) (it := (s.heap.push (zaX led)).objs.size) (l := l) (z := s.heap.objs.size) (items := items) hh ?_ ?_ ?_ hu keys kd hn items.size 0 _ (by omega) (xb0 _) ⟨⟨_, xal _ rfl, rfl, rfl⟩, il1.push _⟩ (zp3 (led := led) (xaa _ gS)) ?_ ?_
    ·rw [xbq]; exact xat (xdg lS)
    ·rw [xbq]; exact xat (xcu _)
    ·exact xci lS
    ·intro j hj
     obtain ⟨b, b1, b2⟩ := ht j hj
     obtain ⟨ob, its, m, g1, g2, g3, g4⟩ := b2
     exact ⟨b, b1, ob, its, m, xaa _ (xaa _ g1), g2, g3, g4⟩
    ·intro h2 tk kp S2
     show wpAny _ _ _ _ _ _
     refine wpAny_pure ?_
     show wpAny _ _ (ret Value.none) _ _ _
     refine wpAny_pure ⟨rfl, h2, tk, rfl, S2, fun b u e => ?_⟩
     have lb := xaf e
     refine kp b u (xat lb) ?_ (xaa _ (xaa _ e))
     rw [xbq]; exact xat (xdg lb)
   ·cases r2 with
    | error e => exact hr2
    | ok fl2 =>
     cases fl2 with
     | ret r =>
      obtain ⟨rfl, h2, tk, rfl, S2, k2⟩ := hr2
      repeat (any_goals (first | assumption | wp_step))
      exact q _ _ S2 k2
     | _ => exact hr2.elim
  | _ => exact hr.elim
end
end DL
namespace DL
open L2 PyProof.Rows
section
variable {X : Cx} {E : XK}
def zwx (a : Addr) (n : Nat) : Heap -> Prop := fun h => ∃ o es ep t, h.get? a = some o /\ o.ExactSet /\ o.data = .set es ep t /\ SetTable.fits t es.size = true /\ es.size = n
def zav (K : xFg) (H : Hp) : List V -> List (List Int) -> Prop
 | [], [] => True
 | v :: vs, ks :: kss => (∃ b, v = .ref b /\ SqT K H b (ks.map V.int)) /\ zav K H vs kss
 | _, _ => False
theorem zav.length {K : xFg} {H : Hp} : ∀ {vs : List V} {kss : List (List Int)}, zav K H vs kss -> vs.length = kss.length
 | [], [], _ => rfl
 | _ :: _, _ :: _, ⟨_, t⟩ => by rw [xam, xam, zav.length t]
 | [], _ :: _, h => h.elim
 | _ :: _, [], h => h.elim
theorem zhu : ∀ {ks : List Int} {us : List Value}, zaP (ks.map V.int) us -> ItemsAre (intKind X.prog X.w) ks us
 | [], _, h => by cases h; exact .nil
 | k :: ks, _, h => by
  cases h with
  | cons q t =>
   obtain ⟨tk, rfl⟩ := q
   exact .cons (intKind_is _ _ _ _) (zhu t)
theorem zjy {pins : List (Addr × Obj)} {U : L2.St} {H : Hp} {s : Shared} (I : Inv X pins U H s) : ∀ {vs : List V} {kss : List (List Int)} {us : List Value}, zav X.K H vs kss -> zaP vs us -> ∀ j, j < us.length -> ∃ b, us[j]? = some (.ref b) /\ IsTupleKey (intKind X.prog X.w) s.heap (kss.getD j []) b
 | [], [], _, _, h, j, hj => by cases h; cases hj
 | v :: vs, ks :: kss, _, ⟨⟨b, e1, e2⟩, t⟩, h, j, hj => by
  cases h with
  | cons q r =>
   subst e1
   cases q
   cases j with
   | zero =>
    obtain ⟨its, rv, ⟨ob, g1, g2, n, g3⟩, _⟩ := I.tuple e2
    exact ⟨b, rfl, ob, its.toArray, n, g1, g2, g3, by rw [xcz]; exact zhu rv⟩
   | succ j =>
    obtain ⟨c, c1, c2⟩ := zjy I t r j (by simpa using hj)
    exact ⟨c, c1, c2⟩
 | [], _ :: _, _, h, _, _, _ => h.elim
 | _ :: _, [], _, h, _, _, _ => h.elim
def zxF (K : xFg) : List V -> Hp -> VK -> Prop := fun xs H Q => ∃ (p : Addr) (ys : List V) (kss : List (List Int)), xs = [.ref p] /\ SqL K H p ys /\ zav K H ys kss /\ kss.Nodup /\ kss.length <= 18 /\ ∀ a, H a = none -> Q (.ref a) (upd H a (.ext (zwx a kss.length)))
theorem zoi {k : Nat} (hc : X.calm = true) (r : ze9 k X.A) : zbw X (.type "set") (zxF X.K) := by
 intro pins s U H xs us Q I rs h
 obtain ⟨p, ys, kss, rfl, hq, ht, nd, h18, q⟩ := h
 obtain ⟨u, rfl, rx⟩ := zeu rs
 cases rx
 obtain ⟨its, rv, pl, hz⟩ := I.list hq
 have hlen : its.length = kss.length := by rw [<- rv.length, ht.length]
 refine zoh (I.ok.hd hc) pl.isList (by have := r.un; omega) (fun j => kss.getD j []) (fun i j hij hj => ?_) (by rw [xag]; omega) (fun j hj => ?_) fun h2 tk S2 kp => ?_
 ·rw [xag] at hj
  have hj' : j < kss.length := by omega
  have hi' : i < kss.length := by omega
  show kss.getD i [] ≠ kss.getD j []
  rw [xbv, xbv, xap hi', xap hj']
  exact fun z => xat hij ((List.getElem_inj nd).mp z)
 ·rw [xag] at hj
  obtain ⟨b, b1, b2⟩ := zjy I ht rv j hj
  exact ⟨b, by rw [xcb]; exact b1, b2⟩
 ·obtain ⟨o, es, ep, t, S⟩ := S2
  have hn : es.size = kss.length := by rw [S.n, xae, xc0, List.length_range, xag, hlen]
  refine ⟨.ref s.heap.objs.size, _, I.laid (t' := tk) (h' := h2) kp (xai _) (show zbv X.prog X.w _ h2 _ (.ext (zwx s.heap.objs.size kss.length)) from ⟨⟨o, es, ep, t, S.get, S.ex, S.dat, S.fits, hn⟩, ⟨o, S.get⟩, ?_⟩), rfl, q _ (I.hok.fresh (xai _))⟩
  rintro h1 h3 ⟨o, es, ep, t, g, r1⟩ kk
  exact ⟨o, es, ep, t, kk o g, r1⟩
def zxG : List V -> Hp -> VK -> Prop := fun xs H Q => ∃ (a : Addr) (n : Nat), xs = [.ref a] /\ H a = some (.ext (zwx a n)) /\ n <= 1000 /\ Q (.int n) H
theorem zoj : zbw X (.builtin "len") zxG := by
 intro pins s U H xs us Q I rs h
 obtain ⟨a, n, rfl, hq, hn, q⟩ := h
 obtain ⟨u, rfl, rx⟩ := zeu rs
 cases rx
 obtain ⟨⟨o, es, ep, t, g1, g2, g3, g4, g5⟩, _⟩ := (show zbv X.prog X.w H s.heap a (.ext (zwx a n)) from I.hok a _ hq)
 exact call_len_set g1 g2 g3 g4 (by omega) ⟨.int n, H, I.tok _, ⟨s.toks + 1, by rw [g5]⟩, q⟩
def zat : List D -> Option (List (List Int))
 | [] => some []
 | .tup xs :: ds => match zck xs with
  | some ks => (zat ds).map (ks :: ·)
  | none => none
 | _ => none
def zc6 : D -> R D
 | .lst ds => match zat ds with
  | some kss => bif decide kss.Nodup && Nat.ble kss.length 18 then .ok (.int kss.length) else .bad
  | none => .bad
 | _ => .bad
def zjz (f : DSt -> R D) : DSt -> R D := fun U => (f U).bind zc6
theorem zc7 {K : xFg} {mg : Str -> Option Value} {G : Hp} : ∀ {ds : List D} {kss : List (List Int)} {vs : List V}, zat ds = some kss -> Reps K mg G ds vs -> zav K G vs kss
 | [], _, _, h, r => by cases h; cases r; exact True.intro
 | .tup xs :: ds, _, _, h, ⟨v, t, e1, r1, r2⟩ => by
  subst e1
  cases hi : zck xs with
  | none => simp [zat, hi] at h
  | some ks =>
   cases hd : zat ds with
   | none => simp [zat, hi, hd] at h
   | some kss' =>
    simp [zat, hi, hd] at h
    subst h
    obtain ⟨a, ws, rfl, q1, q2⟩ := r1
    rw [zfC hi] at q2
    rw [Reps.of_ints q2] at q1
    exact ⟨⟨a, rfl, q1⟩, zc7 hd r2⟩
 | .non :: _, _, _, h, _ => by simp [zat] at h
 | .bl _ :: _, _, _, h, _ => by simp [zat] at h
 | .int _ :: _, _, _, h, _ => by simp [zat] at h
 | .str _ :: _, _, _, h, _ => by simp [zat] at h
 | .ty _ :: _, _, _, h, _ => by simp [zat] at h
 | .cls _ :: _, _, _, h, _ => by simp [zat] at h
 | .lst _ :: _, _, _, h, _ => by simp [zat] at h
 | .dct _ _ :: _, _, _, h, _ => by simp [zat] at h
 | .exc _ _ :: _, _, _, h, _ => by simp [zat] at h
theorem zav.mono {K : xFg} {G H : Hp} (e : zai G H) : ∀ {vs : List V} {kss : List (List Int)}, zav K G vs kss -> zav K H vs kss
 | [], [], _ => True.intro
 | _ :: _, _ :: _, ⟨⟨b, e1, e2⟩, t⟩ => ⟨⟨b, e1, zai.sqT e e2⟩, zav.mono e t⟩
 | [], _ :: _, h => h.elim
 | _ :: _, [], h => h.elim
theorem zok {k : Nat} (C : XC X E k) (hm1 : X.mg "len" = none) (hm2 : X.mg "set" = none) {e : Expr} {fe : DSt -> R D} {p1 p2 pos pos2 : Pos} (hfe : DE X E e fe) (hg1 : Gl X "len" := by rfl) (hg2 : Gl X "set" := by rfl)
  (he1 : starEach [.Call (.Name "set" p2) [e] [] pos2] X.env = (false, eval (.Call (.Name "set" p2) [e] [] pos2) X.env) :: starEach [] X.env := by rfl) (hpl1 : (backTo pos (starEach [] X.env)).any (·.1) = false := by rfl)
  (he2 : starEach [e] X.env = (false, eval e X.env) :: starEach [] X.env := by rfl) (hpl2 : (backTo pos2 (starEach [] X.env)).any (·.1) = false := by rfl) :
  DE X E (.Call (.Name "len" p1) [.Call (.Name "set" p2) [e] [] pos2] [] pos) (zjz fe) := by
 refine PE.mono' (zfa zoj hg1 hm1 PySem.boot_len (zg2 (zdP (zoi C.calm C.room) hg2 hm2 (by rfl) (zaI hfe zbS he2) (by decide) (by decide) he2 hpl2) zjT he1) (by decide) (by decide) he1 hpl1) fun U H Q ⟨G, Ud, ok, q⟩ => ?_
 refine ⟨G, Ud, ok, (show RW ((zaa fe zaj) Ud) _ _ from ?_)⟩
 unfold zaa
 have q2 := q.of_bind
 cases hf : fe Ud with
 | bad => rw [hf] at q2; exact q2.elim
 | err x => rw [hf] at q2; exact (show zau X.K X.mg E G H x from q2)
 | ok d =>
  rw [hf] at q2
  have q3 : RW (zc6 d) (zag X.K X.mg Q G H) (zau X.K X.mg E G H) := q2
  rintro ws G2 H2 s2 ⟨v, _, e1, r3, r4⟩
  subst e1
  cases r4
  cases d with
  | lst ds =>
   obtain ⟨b, vs, rfl, hb, hv⟩ := r3
   cases hs' : zat ds with
   | none => simp only [zc6, hs'] at q3; exact q3.elim
   | some kss =>
    cases hC : (decide kss.Nodup && Nat.ble kss.length 18) with
    | false => simp only [zc6, hs', hC, cond_false] at q3; exact q3.elim
    | true =>
     simp only [zc6, hs', hC, cond_true] at q3
     rw [xax, decide_eq_true_eq, Nat.ble_eq] at hC
     refine ⟨b, vs, kss, rfl, s2.e.seq hb, (zc7 hs' hv).mono s2.e, hC.1, hC.2, fun a ha => ?_⟩
     have q4 : zag X.K X.mg Q G H (.int kss.length) := q3
     exact ⟨a, kss.length, rfl, zae, by omega, q4 _ G2 _ (s2.trans (.hid s2.e ha)) rfl⟩
  | _ => exact (show False from q3).elim
end
end DL
namespace L2
open PyProof.Rows
section
variable {prog : Program} {w : World} {A : Around} {E : Value -> Shared -> Prop} {s : Shared}
theorem zrM {it t : Addr} {k : Nat} {its : Array Value} {x : Value} {Q : Value -> Shared -> Prop} (st : s.heap.IsTupleIter it t k) (ht : s.heap.IsTuple t its) (hx : its[k]? = some x)
  (q : ∀ g, g.IsTupleIter it t (k + 1) -> Heap.SameBut it s.heap g -> Q x { s with heap := g }) : wpAny (model prog w) A (Builtin.SmallTypes.nextOf (.ref it)) Q E s := by
 obtain ⟨o, eo, co, d⟩ := id st
 obtain ⟨l, el, _, n, dl⟩ := ht
 unfold Builtin.SmallTypes.nextOf
 apply wpAny_bind
 refine wpAny_callSpecial?_slot (name := "__next__") st.typeIs F.slot_tuple_iterator_next ?_
 refine wpAny_call_entry F.slot_tuple_iterator_next st.typeIs F.entry_tuple_iterator_next ?_ (F.args_tuple_iterator_next_1 _)
 show wpAny _ _ (field (.ref it) 0 >>= _) _ _ s
 apply wpAny_bind
 refine wpAny_field eo d (x := .ref t) rfl ?_
 show wpAny _ _ (if (Value.ref t == .none) = true then _ else _) _ _ s
 have nn : ¬ (Value.ref t == .none) = true := xaw
 rw [if_neg nn]
 show wpAny _ _ (field (.ref it) 1 >>= _) _ _ s
 apply wpAny_bind
 refine wpAny_field eo d (x := .int k 0) rfl ?_
 show wpAny _ _ (seqItems? (.ref t) >>= _) _ _ s
 apply wpAny_bind
 refine wpAny_seqItems el dl ?_
 simp only [hx, xb6]
 apply wpAny_bind
 refine wpAny_setField eo d (by simp) (wpAny_pure ⟨x, rfl, wpAny_pure (q _ ⟨_, xb2 _ eo (Obj.isFreed_of_fields (Obj.data_mapFields d _)), (Obj.cls_mapFields ..).trans co, ?_⟩ (.update ..))⟩)
 rw [Obj.data_mapFields d]; simp [rawInt]
theorem zlN {it t : Addr} {k : Nat} {its : Array Value} {Q : Value -> Shared -> Prop} (hh : A.handled = none) (st : s.heap.IsTupleIter it t k) (ht : s.heap.IsTuple t its) (hx : its[k]? = none)
  (q : ∀ g e, Heap.ExtBut it s.heap g -> (∃ o, g.get? e = some o /\ o.cls = .type "StopIteration") -> E (.ref e) { s with heap := g }) : wpAny (model prog w) A (Builtin.SmallTypes.nextOf (.ref it)) Q E s := by
 obtain ⟨o, eo, co, d⟩ := id st
 obtain ⟨l, el, _, n, dl⟩ := ht
 unfold Builtin.SmallTypes.nextOf
 apply wpAny_bind
 refine wpAny_callSpecial?_slot (name := "__next__") st.typeIs F.slot_tuple_iterator_next ?_
 refine wpAny_call_entry F.slot_tuple_iterator_next st.typeIs F.entry_tuple_iterator_next ?_ (F.args_tuple_iterator_next_1 _)
 show wpAny _ _ (field (.ref it) 0 >>= _) _ _ s
 apply wpAny_bind
 refine wpAny_field eo d (x := .ref t) rfl ?_
 show wpAny _ _ (if (Value.ref t == .none) = true then _ else _) _ _ s
 have nn : ¬ (Value.ref t == .none) = true := xaw
 rw [if_neg nn]
 show wpAny _ _ (field (.ref it) 1 >>= _) _ _ s
 apply wpAny_bind
 refine wpAny_field eo d (x := .int k 0) rfl ?_
 show wpAny _ _ (seqItems? (.ref t) >>= _) _ _ s
 apply wpAny_bind
 refine wpAny_seqItems el dl ?_
 simp only [hx, xb6]
 apply wpAny_bind; apply wpAny_rule; apply wpAny_bind
 refine wpAny_setField eo d (by simp) ?_
 show wpAny _ _ (newExc (.type "StopIteration") [] >>= _) _ _ _
 apply wpAny_bind
 simp only [newExc, newTuple]
 apply wpAny_bind
 refine wpAny_newObj_type ?_ (by size_fits)
 apply wpAny_bind (m := firstArgMember _ _)
 refine wpAny_of_eq (a := Value.none) (by first | rfl | (simp only [firstArgMember]; rfl)) ?_
 refine wpAny_newObj_type ?_ (by size_fits)
 simp only [raiseNew]
 apply wpAny_bind
 refine wpAny_handled ?_
 first | rw [show A.in1.handled = none from hh] | rw [hh]
 exact wpAny_bind (wpAny_pure (wpAny_throw (q _ _ (((Heap.SameBut.update ..).extBut.push _).push _) ⟨_, xal _ rfl, rfl⟩)))
structure ZAt (h : Heap) (z TI TO i1 i2 t1 t2 : Addr) (k : Nat) (xs ys : Array Value) (f : Value) : Prop where
 z : IsZip h z TI TO f
 ti : IsPair h TI (.ref i1) (.ref i2)
 to : ∃ a b, IsPair h TO a b
 i1 : h.IsTupleIter i1 t1 k
 i2 : h.IsTupleIter i2 t2 k
 t1 : h.IsTuple t1 xs
 t2 : h.IsTuple t2 ys
theorem ZAt.next {z TI TO i1 i2 t1 t2 : Addr} {k : Nat} {xs ys : Array Value} {x y : Value} {Q : Value -> Shared -> Prop} (D : ZipApart z TI TO i1 i2 t1 t2) (Z : ZAt s.heap z TI TO i1 i2 t1 t2 k xs ys .none) (hx : xs[k]? = some x) (hy : ys[k]? = some y)
  (q : ∀ g, ZAt g z TI TO i1 i2 t1 t2 (k + 1) xs ys (rawInt s.heap.objs.size) -> IsPair g s.heap.objs.size x y -> g.objs.size = s.heap.objs.size + 1 -> (∀ c o, c ≠ z -> c ≠ TO -> c ≠ i1 -> c ≠ i2 -> s.heap.get? c = some o -> g.get? c = some o) -> Q (.ref s.heap.objs.size) { s with heap := g }) :
  wpAny (model prog w) A (Builtin.«zip.__next__» ⟨[.ref z], []⟩) (fun fin s' => ∃ v, fin = .done (.ret v) /\ Q v s') E s := by
 obtain ⟨a, b, hTO⟩ := Z.to
 show wpAny _ _ (field (.ref z) 2 >>= _) _ _ _
 apply wpAny_bind
 refine wpAny_field Z.z rfl (x := .bool false) rfl ?_
 show wpAny _ _ (field (.ref z) 3 >>= _) _ _ _
 apply wpAny_bind
 refine wpAny_field Z.z rfl (x := .ref TI) rfl ?_
 apply wpAny_bind
 refine wpAny_seqItems Z.ti rfl ?_
 show wpAny _ _ (Builtin.SmallTypes.ownedTupleIsFree (.ref z) >>= _) _ _ _
 apply wpAny_bind
 unfold Builtin.SmallTypes.ownedTupleIsFree
 apply wpAny_bind
 refine wpAny_field Z.z rfl (x := .none) rfl (wpAny_pure ?_)
 simp only [if_true]
 apply wpAny_bind; apply wpAny_rule; apply wpAny_bind
 refine wpAny_field Z.z rfl (x := .ref TO) rfl ?_
 apply wpAny_bind
 refine wpAny_setField_rec Z.z (by simp) fun g1 z1 s1 => ?_
 have z1 : IsZip g1 z TI TO .ellipsis := z1
 apply wpAny_bind
 simp only [List.zipIdx_cons, List.zipIdx_nil, List.forIn_cons, List.forIn_nil]
 apply wpAny_bind; apply wpAny_bind; apply wpAny_onRaise
 show wpAny _ _ (Builtin.SmallTypes.nextOf (.ref i1) >>= _) _ _ _
 apply wpAny_bind
 refine zrM (Z.i1.extBut s1.extBut D.i1z) (Z.t1.extBut s1.extBut D.l1z) hx fun g2 j2 s2 => wpAny_pure ?_
 have o2 : IsPair g2 TO a b := s2.extBut _ _ D.TOi1 (s1.extBut _ _ D.TOz hTO)
 apply wpAny_bind
 refine wpAny_seqItems o2 rfl ?_
 apply wpAny_bind
 refine wpAny_updateSeq_pair o2 fun g3 o3 s3 => ?_
 have o3 : IsPair g3 TO x b := o3
 apply wpAny_bind
 refine wpAny_letGo (wpAny_pure ?_)
 apply wpAny_bind; apply wpAny_bind; apply wpAny_onRaise
 show wpAny _ _ (Builtin.SmallTypes.nextOf (.ref i2) >>= _) _ _ _
 apply wpAny_bind
 have u3 : ∀ c o, c ≠ z -> c ≠ TO -> c ≠ i1 -> s.heap.get? c = some o -> g3.get? c = some o := fun c o n1 n2 n3 e => s3.extBut _ _ n2 (s2.extBut _ _ n3 (s1.extBut _ _ n1 e))
 refine zrM (Z.i2.at fun o e => u3 _ o D.i2z D.TOi2.symm D.i12.symm e) (Z.t2.at fun o e => u3 _ o D.l2z D.l2TO D.l2i1 e) hy fun g4 j4 s4 => wpAny_pure ?_
 have o4 : IsPair g4 TO x b := s4.extBut _ _ D.TOi2 o3
 apply wpAny_bind
 refine wpAny_seqItems o4 rfl ?_
 apply wpAny_bind
 refine wpAny_updateSeq_pair o4 fun g5 o5 s5 => ?_
 have o5 : IsPair g5 TO x y := o5
 apply wpAny_bind
 refine wpAny_letGo (wpAny_pure (wpAny_pure ?_))
 apply wpAny_bind
 refine wpAny_seqItems o5 rfl ?_
 apply wpAny_bind
 refine wpAny_newTuple ?_
 have sz : g5.objs.size = s.heap.objs.size := s5.1.trans (s4.1.trans (s3.1.trans (s2.1.trans s1.1)))
 have z5 : IsZip g5 z TI TO .ellipsis := s5.extBut _ _ D.TOz.symm (s4.extBut _ _ D.i2z.symm (s3.extBut _ _ D.TOz.symm (s2.extBut _ _ D.i1z.symm z1)))
 have u5 : ∀ c o, c ≠ z -> c ≠ TO -> c ≠ i1 -> c ≠ i2 -> s.heap.get? c = some o -> g5.get? c = some o := fun c o n1 n2 n3 n4 e => s5.extBut _ _ n2 (s4.extBut _ _ n4 (u3 c o n1 n2 n3 e))
 have a5 : g5.IsTupleIter i1 t1 (k + 1) := j2.at fun o e => s5.extBut _ _ D.TOi1.symm (s4.extBut _ _ D.i12 (s3.extBut _ _ D.TOi1.symm e))
 have b5 : g5.IsTupleIter i2 t2 (k + 1) := j4.at fun o e => s5.extBut _ _ D.TOi2.symm e
 have lz : z < g5.objs.size := xaf z5
 show wpAny _ _ (Builtin.SmallTypes.ownedTupleHandOut (.ref z) (.ref g5.objs.size) >>= _) _ _ _
 apply wpAny_bind
 unfold Builtin.SmallTypes.ownedTupleHandOut
 have z6 : IsZip (g5.push { cls := .type "tuple", data := .seq #[x, y] }) z TI TO .ellipsis := xaa _ z5
 apply wpAny_bind
 refine wpAny_setField_rec z6 (by simp) fun g7 z7 s7 => ?_
 have z7 : IsZip g7 z TI TO (rawInt g5.objs.size) := z7
 refine wpAny_setField_rec z7 (by simp) fun g8 z8 s8 => ?_
 have z8 : IsZip g8 z TI TO (rawInt g5.objs.size) := z8
 have up : ∀ c o, c ≠ z -> g5.get? c = some o -> g8.get? c = some o := fun c o n e => s8.extBut _ _ n (s7.extBut _ _ n (xaa _ e))
 have p8 : IsPair g8 g5.objs.size x y := s8.extBut _ _ (xci lz) (s7.extBut _ _ (xci lz) (xal _ rfl))
 have w8 : g8.objs.size = g5.objs.size + 1 := s8.1.trans (s7.1.trans (xbq ..))
 rw [sz] at z8 p8 w8
 refine wpAny_pure ⟨_, rfl, ?_⟩
 show Q (.ref g5.objs.size) _
 rw [sz]
 have nT : ∀ c o, s.heap.get? c = some o -> c ≠ z -> c ≠ TO -> c ≠ i1 -> c ≠ i2 -> g8.get? c = some o := fun c o e n1 n2 n3 n4 => up c o n1 (u5 c o n1 n2 n3 n4 e)
 exact q g8 ⟨z8, nT _ _ Z.ti D.TIz D.TITO D.TIi1 D.TIi2, ⟨_, _, up _ _ D.TOz o5⟩, a5.at fun o e => up _ o D.i1z e, b5.at fun o e => up _ o D.i2z e, Z.t1.at fun o e => nT _ o e D.l1z D.l1TO D.l1i1 D.l1i2, Z.t2.at fun o e => nT _ o e D.l2z D.l2TO D.l2i1 D.l2i2⟩ p8 w8 fun c o n1 n2 n3 n4 e => nT c o e n1 n2 n3 n4
theorem ZAt.last {z TI TO i1 i2 t1 t2 : Addr} {k : Nat} {xs ys : Array Value} {Q : Fin -> Shared -> Prop} (hh : A.handled = none) (D : ZipApart z TI TO i1 i2 t1 t2) (Z : ZAt s.heap z TI TO i1 i2 t1 t2 k xs ys .none) (hx : xs[k]? = none)
  (q : ∀ g e, (∀ c o, c ≠ z -> c ≠ TO -> c ≠ i1 -> c ≠ i2 -> s.heap.get? c = some o -> g.get? c = some o) -> (∃ o, g.get? e = some o /\ o.cls = .type "StopIteration") -> E (.ref e) { s with heap := g }) :
  wpAny (model prog w) A (Builtin.«zip.__next__» ⟨[.ref z], []⟩) Q E s := by
 show wpAny _ _ (field (.ref z) 2 >>= _) _ _ _
 apply wpAny_bind
 refine wpAny_field Z.z rfl (x := .bool false) rfl ?_
 show wpAny _ _ (field (.ref z) 3 >>= _) _ _ _
 apply wpAny_bind
 refine wpAny_field Z.z rfl (x := .ref TI) rfl ?_
 apply wpAny_bind
 refine wpAny_seqItems Z.ti rfl ?_
 show wpAny _ _ (Builtin.SmallTypes.ownedTupleIsFree (.ref z) >>= _) _ _ _
 apply wpAny_bind
 unfold Builtin.SmallTypes.ownedTupleIsFree
 apply wpAny_bind
 refine wpAny_field Z.z rfl (x := .none) rfl (wpAny_pure ?_)
 simp only [if_true]
 apply wpAny_bind; apply wpAny_rule; apply wpAny_bind
 refine wpAny_field Z.z rfl (x := .ref TO) rfl ?_
 apply wpAny_bind
 refine wpAny_setField_rec Z.z (by simp) fun g1 z1 s1 => ?_
 have z1 : IsZip g1 z TI TO .ellipsis := z1
 apply wpAny_bind
 simp only [List.zipIdx_cons, List.zipIdx_nil, List.forIn_cons, List.forIn_nil]
 apply wpAny_bind; apply wpAny_bind; apply wpAny_onRaise
 show wpAny _ _ (Builtin.SmallTypes.nextOf (.ref i1) >>= _) _ _ _
 apply wpAny_bind
 refine zlN hh (Z.i1.extBut s1.extBut D.i1z) (Z.t1.extBut s1.extBut D.l1z) hx fun g2 e s2 he => ?_
 obtain ⟨o, eo, co⟩ := he
 have z2 : IsZip g2 z TI TO .ellipsis := s2 _ _ D.i1z.symm z1
 have ez : e ≠ z := fun w => by subst w; rw [z2] at eo; cases eo; simp at co
 refine wpAny_setField_rec z2 (by simp) fun g3 _ s3 => ?_
 exact q g3 e (fun c o n1 _ n3 _ w => s3.extBut _ _ n1 (s2 _ _ n3 (s1.extBut _ _ n1 w))) ⟨o, s3.extBut _ _ ez eo, co⟩
theorem zvV {z TI TO i1 i2 t1 t2 : Addr} {k : Nat} {xs ys : Array Value} {x y : Value} {Q : Option Value -> Shared -> Prop} (D : ZipApart z TI TO i1 i2 t1 t2) (Z : ZAt s.heap z TI TO i1 i2 t1 t2 k xs ys .none) (hx : xs[k]? = some x) (hy : ys[k]? = some y)
  (q : ∀ g, ZAt g z TI TO i1 i2 t1 t2 (k + 1) xs ys (rawInt s.heap.objs.size) -> IsPair g s.heap.objs.size x y -> g.objs.size = s.heap.objs.size + 1 -> (∀ c o, c ≠ z -> c ≠ TO -> c ≠ i1 -> c ≠ i2 -> s.heap.get? c = some o -> g.get? c = some o) -> Q (some (.ref s.heap.objs.size)) { s with heap := g }) :
  wpAny (model prog w) A (pyNext (.ref z)) Q E s := by
 have T : s.TypeIs (.ref z) "zip" := ⟨_, Z.z, rfl⟩
 unfold pyNext
 apply wpAny_bind; apply wpAny_attempt
 refine wpAny_callSpecial?_slot (name := "__next__") T F.slot_zip_next ?_
 refine wpAny_call_entry F.slot_zip_next T F.entry_zip_next ?_ (F.args_zip_next_1 _)
 exact Z.next D hx hy fun g a1 a2 a3 a4 => wpAny_pure (q g a1 a2 a3 a4)
theorem zs1 {z TI TO i1 i2 t1 t2 : Addr} {k : Nat} {xs ys : Array Value} {Q : Option Value -> Shared -> Prop} (hh : A.handled = none) (D : ZipApart z TI TO i1 i2 t1 t2) (Z : ZAt s.heap z TI TO i1 i2 t1 t2 k xs ys .none) (hx : xs[k]? = none)
  (q : ∀ g, (∀ c o, c ≠ z -> c ≠ TO -> c ≠ i1 -> c ≠ i2 -> s.heap.get? c = some o -> g.get? c = some o) -> Q none { s with heap := g }) : wpAny (model prog w) A (pyNext (.ref z)) Q E s := by
 have T : s.TypeIs (.ref z) "zip" := ⟨_, Z.z, rfl⟩
 unfold pyNext
 apply wpAny_bind; apply wpAny_attempt
 refine wpAny_callSpecial?_slot (name := "__next__") T F.slot_zip_next ?_
 refine wpAny_call_entry F.slot_zip_next T F.entry_zip_next ?_ (F.args_zip_next_1 _)
 refine Z.last hh D hx fun g e hk he => ?_
 obtain ⟨o, ho, hc⟩ := he
 apply wpAny_bind
 exact wpAny_isInstance (T := "StopIteration") (b := true) ⟨o, ho, hc⟩ isSubtype_stop (wpAny_pure (q _ hk))
def ti0 (t : Addr) : Obj := { cls := .type "tuple_iterator", data := .fields #[.ref t, .int 0 0] }
def tp2 (a b : Value) : Obj := { cls := .type "tuple", data := .seq #[a, b] }
def zp0 (TI TO : Addr) : Obj := { cls := .type "zip", data := .fields #[.none, .bool false, .bool false, .ref TI, .ref TO] }
def zpH (h : Heap) (t1 t2 : Addr) : Heap :=
 ((((h.push (ti0 t1)).push (ti0 t2)).push (tp2 (.ref h.objs.size) (.ref (h.push (ti0 t1)).objs.size))).push (tp2 .none .none)).push (zp0 ((h.push (ti0 t1)).push (ti0 t2)).objs.size (((h.push (ti0 t1)).push (ti0 t2)).push (tp2 (.ref h.objs.size) (.ref (h.push (ti0 t1)).objs.size))).objs.size)
theorem zlO (t1 t2 : Addr) (xs ys : Array Value) : Meets (Builtin.«zip.__new__» ⟨[.type "zip", .ref t1, .ref t2], []⟩) (fun _ R s => s.heap.IsTuple t1 xs /\ s.heap.IsTuple t2 ys /\
  R (.ok (.ret (.ref ((((s.heap.push (ti0 t1)).push (ti0 t2)).push (tp2 (.ref s.heap.objs.size) (.ref (s.heap.push (ti0 t1)).objs.size))).push (tp2 .none .none)).objs.size))) { s with heap := zpH s.heap t1 t2 }) :=
 .of_wp fun prog w A R s h => by
  obtain ⟨hp, g, d, tk, os⟩ := s; obtain ⟨h1, h2, h⟩ := h
  have sub := sub_zip
  have L1 : Heap.IsTuple (Shared.heap ⟨hp, g, d, tk, os⟩) t1 xs := h1
  have L2 : Heap.IsTuple (Shared.heap ⟨hp.push { cls := .type "tuple_iterator", data := .fields #[.ref t1, .int 0 0] }, g, d, tk, os⟩) t2 ys := h2.at fun o e => xaa _ e
  wp_walk using wpAny_pyIter_tuple L1, wpAny_pyIter_tuple L2
  exact ⟨_, rfl, h⟩
theorem zol {t1 t2 : Addr} {xs ys : Array Value} {Q : Value -> Shared -> Prop} (h1 : s.heap.IsTuple t1 xs) (h2 : s.heap.IsTuple t2 ys)
  (q : ∀ g, ZAt g (s.heap.objs.size + 4) (s.heap.objs.size + 2) (s.heap.objs.size + 3) s.heap.objs.size (s.heap.objs.size + 1) t1 t2 0 xs ys .none -> (∀ c o, s.heap.get? c = some o -> g.get? c = some o) -> Q (.ref (s.heap.objs.size + 4)) { s with heap := g }) :
  wpAny (model prog w) A (call (.type "zip") [.ref t1, .ref t2]) Q E s := by
 refine callType_new F.called_zip (by decide) (F.typeCall_zip_2 _ _) (F.newCall_zip_2 _ _) (fun obj => F.args_object_init_3 obj _ _) F.entry_zip_new (zlO t1 t2 xs ys) ⟨h1, h2, ?_⟩
 have a1 : (s.heap.push (ti0 t1)).objs.size = s.heap.objs.size + 1 := xbq ..
 have a2 : ((s.heap.push (ti0 t1)).push (ti0 t2)).objs.size = s.heap.objs.size + 2 := by rw [xbq, a1]
 have a3 : (((s.heap.push (ti0 t1)).push (ti0 t2)).push (tp2 (.ref s.heap.objs.size) (.ref (s.heap.push (ti0 t1)).objs.size))).objs.size = s.heap.objs.size + 3 := by rw [xbq, a2]
 have a4 : ((((s.heap.push (ti0 t1)).push (ti0 t2)).push (tp2 (.ref s.heap.objs.size) (.ref (s.heap.push (ti0 t1)).objs.size))).push (tp2 .none .none)).objs.size = s.heap.objs.size + 4 := by rw [xbq, a3]
 have k : ∀ c o, s.heap.get? c = some o -> (zpH s.heap t1 t2).get? c = some o := fun c o e => xaa _ (xaa _ (xaa _ (xaa _ (xaa _ e))))
 have b5 : (zpH s.heap t1 t2).get? (s.heap.objs.size + 4) = some (zp0 (s.heap.objs.size + 2) (s.heap.objs.size + 3)) := by
  unfold zpH; rw [a2, a3]; exact xdh a4.symm rfl
 have b4 : (zpH s.heap t1 t2).get? (s.heap.objs.size + 3) = some (tp2 .none .none) := xaa _ (xdh a3.symm rfl)
 have b3 : (zpH s.heap t1 t2).get? (s.heap.objs.size + 2) = some (tp2 (.ref s.heap.objs.size) (.ref (s.heap.objs.size + 1))) := xaa _ (xaa _ (by rw [a1]; exact xdh a2.symm rfl))
 have b2 : (zpH s.heap t1 t2).get? (s.heap.objs.size + 1) = some (ti0 t2) := xaa _ (xaa _ (xaa _ (xdh a1.symm rfl)))
 have b1 : (zpH s.heap t1 t2).get? s.heap.objs.size = some (ti0 t1) := xaa _ (xaa _ (xaa _ (xaa _ (xal _ rfl))))
 show _ /\ _
 rw [a4]
 exact ⟨⟨_, b5, rfl⟩, q _ ⟨b5, b3, ⟨_, _, b4⟩, ⟨_, b1, rfl, rfl⟩, ⟨_, b2, rfl, rfl⟩, h1.at fun o e => k _ o e, h2.at fun o e => k _ o e⟩ k⟩
end
section
variable {X : Cx} {pins : List (Addr × Obj)} {U : St} {H : Hp} {s : Shared} {h' : Heap}
theorem Inv.turnedL {t' : Nat} {ch : List Addr} (I : Inv X pins U H s) (k : ∀ b o, b ∉ ch -> s.heap.get? b = some o -> h'.get? b = some o) (f : ∀ b ∈ ch, zmg X pins H b) : Inv X pins U H { s with heap := h', toks := t' } := by
 have nit : ∀ b u, H b = some u -> b ∉ ch := fun b u e z => by rw [(f b z).1] at e; cases e
 refine I.step (g' := s.gens) (d' := s.drawn) (ch := ch) (fun b hb => ?_) (fun b o _ _ hc e _ => k b o hc e) (fun b o _ _ hc e _ => ⟨o.slots, k b o hc e⟩) (fun _ _ _ _ n => n) (fun b o hc e => ⟨o, k b o hc e⟩) (fun _ _ e => e) (fun _ _ _ e => e) (fun b ps e => ⟨#[], by rw [e]; simp⟩) (fun m hm => ?_) (fun b u e => ?_) I.bare
 ·obtain ⟨_, f1, _, f3, f4, f5⟩ := f b hb
  exact ⟨f3, f1, f4, f5⟩
 ·obtain ⟨o, es, ep, ho, r⟩ := hm
  exact ⟨o, es, ep, k _ o (fun z => (f _ z).2.1 rfl) ho, r⟩
 ·refine (I.hok b u e).stay (fun c v hc q => k c v ?_ q) (fun _ q => q) fun _ _ q => q
  rcases hc with z | z
  ·rw [z]; exact nit b u e
  ·exact nit c _ z
end
def Itz (K : xFg) (a b : Addr) : It :=
 ⟨fun i H => ∃ xs ys x y, SqT K H a xs /\ SqT K H b ys /\ xs[i]? = some x /\ ys[i]? = some y,
  fun i H v H' => ∃ T x y, v = .ref T /\ H T = none /\ H' = upd H T (.tup [x, y]) /\ (∀ xs, SqT K H a xs -> xs[i]? = some x) /\ ∀ ys, SqT K H b ys -> ys[i]? = some y,
  fun i H => ∃ xs ys, SqT K H a xs /\ SqT K H b ys /\ xs.length <= i⟩
structure ZT (z TI TO i1 i2 a b : Addr) (k : Nat) (h : Heap) : Prop where
 z : IsZip h z TI TO .none
 ti : IsPair h TI (.ref i1) (.ref i2)
 to : ∃ u v, IsPair h TO u v
 i1 : h.IsTupleIter i1 a k
 i2 : h.IsTupleIter i2 b k
theorem zp4 {P : Program} {w : World} {K : xFg} {es : List Expr} {ct : Nat} {ps : Pos} {z TI TO i1 i2 a b : Addr} (D : ZipApart z TI TO i1 i2 a b) : ztD P w K (.Tuple es ct ps) (Itz K a b) [z, TI, TO, i1, i2] z (ZT z TI TO i1 i2 a b) where
 mem := by simp
 obj := fun i h st c hc => by
  simp only [xak, xbf, or_false] at hc
  rcases hc with rfl | rfl | rfl | rfl | rfl
  ·exact ⟨_, st.z, fun v q => by cases q⟩
  ·exact ⟨_, st.ti, fun v q => by cases q⟩
  ·obtain ⟨u, v, e⟩ := st.to
   exact ⟨_, e, fun v q => by cases q⟩
  ·obtain ⟨o, e, c, d⟩ := st.i1
   exact ⟨o, e, fun v q => by rw [d] at q; cases q⟩
  ·obtain ⟨o, e, c, d⟩ := st.i2
   exact ⟨o, e, fun v q => by rw [d] at q; cases q⟩
 keep := fun i h h' st k => by
  obtain ⟨u, v, e⟩ := st.to
  exact ⟨k _ (by simp) _ st.z, k _ (by simp) _ st.ti, ⟨u, v, k _ (by simp) _ e⟩, st.i1.at fun o e => k _ (by simp) o e, st.i2.at fun o e => k _ (by simp) o e⟩
 item := by
  intro X hP hw hK hc i pins s U H E I hf st hg
  subst hP hw hK
  obtain ⟨xs, ys, x, y, h1, h2, hx, hy⟩ := hg
  obtain ⟨its, rv, p, _⟩ := I.tuple h1
  obtain ⟨jts, rw', p', _⟩ := I.tuple h2
  obtain ⟨u, hu, ru⟩ := rv.get hx
  obtain ⟨v, hv, rr⟩ := rw'.get hy
  have Z : ZAt s.heap z TI TO i1 i2 a b i its.toArray jts.toArray .none := ⟨st.z, st.ti, st.to, st.i1, st.i2, p, p'⟩
  refine zvV D Z (x := u) (y := v) (by simpa using hu) (by simpa using hv) fun g Zg pg sg kg => ⟨_, rfl, ?_⟩
  refine wpAny_letOwnedTupleGo_zip Zg.z fun g' zg sb => ?_
  have lz : z < s.heap.objs.size := xaf st.z
  have I1 : Inv X pins U (upd H s.heap.objs.size (.tup [x, y])) { s with heap := s.heap.push (tp2 u v), toks := s.toks } :=
   I.laid (fun _ _ q => xaa _ q) (xai _) ⟨by show 2 <= sizeLine; decide, [u, v], .cons ru (.cons rr .nil), ⟨_, xal _ rfl, rfl, 0, rfl⟩⟩
  have fr : ∀ c ∈ [z, TI, TO, i1, i2], c ≠ s.heap.objs.size := fun c hc e => by
   simp only [xak, xbf, or_false] at hc
   obtain ⟨u, v, eTO⟩ := st.to
   obtain ⟨o1, q1, _⟩ := st.i1
   obtain ⟨o2, q2, _⟩ := st.i2
   rcases hc with rfl | rfl | rfl | rfl | rfl
   ·exact xat lz e
   ·exact xat (xaf st.ti) e
   ·exact xat (xaf eTO) e
   ·exact xat (xaf q1) e
   ·exact xat (xaf q2) e
  have I2 : Inv X pins U (upd H s.heap.objs.size (.tup [x, y])) { s with heap := g', toks := s.toks } := by
   refine Inv.turnedL (s := { s with heap := s.heap.push (tp2 u v), toks := s.toks }) (h' := g') (t' := s.toks) (ch := [z, TI, TO, i1, i2]) I1 (fun c o hc e => ?_) fun c hc => ?_
   ·have cz : c ≠ z := fun q => hc (by simp [q])
    rcases Heap.get?_push_cases e with ⟨rfl, rfl⟩ | e
    ·exact sb.extBut _ _ cz pg
    ·exact sb.extBut _ _ cz (kg c o cz (fun q => hc (by simp [q])) (fun q => hc (by simp [q])) (fun q => hc (by simp [q])) e)
   ·exact ⟨by rw [zah (fr c hc)]; exact (hf c hc).1, (hf c hc).2⟩
  obtain ⟨u', v', eTO⟩ := Zg.to
  refine ⟨.ref s.heap.objs.size, _, I2, rfl, ⟨_, x, y, rfl, I.fresh, rfl, fun zs hz => by rw [I.tuple_inj hz h1]; exact hx, fun zs hz => by rw [I.tuple_inj hz h2]; exact hy⟩, ⟨zg, sb.extBut _ _ D.TIz Zg.ti, ⟨u', v', sb.extBut _ _ D.TOz eTO⟩, Zg.i1.at fun o e => sb.extBut _ _ D.i1z e, Zg.i2.at fun o e => sb.extBut _ _ D.i2z e⟩, fun c hc => by rw [zah (fr c hc)]; exact (hf c hc).1⟩
 done := by
  intro X hP hw hK hc i pins s U H E I hf st hg
  subst hP hw hK
  obtain ⟨xs, ys, h1, h2, hx⟩ := hg
  obtain ⟨its, rv, p, _⟩ := I.tuple h1
  obtain ⟨jts, rw', p', _⟩ := I.tuple h2
  have Z : ZAt s.heap z TI TO i1 i2 a b i its.toArray jts.toArray .none := ⟨st.z, st.ti, st.to, st.i1, st.i2, p, p'⟩
  have hl := rv.length
  refine zs1 (I.ok.hd hc) D Z (by simp; omega) fun g kg => ⟨rfl, I.turnedL (t' := s.toks) (ch := [z, TI, TO, i1, i2]) (fun c o hc e => ?_) hf⟩
  exact kg c o (fun q => hc (by simp [q])) (fun q => hc (by simp [q])) (fun q => hc (by simp [q])) (fun q => hc (by simp [q])) e
 self := fun _ _ _ _ _ st h => wpAny_pyIter_zip st.z h
end L2
namespace DL
open L2 PyProof.Rows
section
variable {X : Cx} {E : XK}
def zxH (K : xFg) (ta : TA) : TI := fun U H R => ta U H fun vs H1 => ∃ a b, vs = [.ref a, .ref b] /\ (∃ xs, SqT K H1 a xs) /\ (∃ ys, SqT K H1 b ys) /\ R (Itz K a b) H1
theorem zvW {a b : Expr} {ta : TA} {p pos ps : Pos} {es : List Expr} {ct : Nat} (hg : Gl X "zip") (hm : X.mg "zip" = none) (ha : PA X [a, b] ta) (hs : starEach [a, b] X.env = [(false, eval a X.env), (false, eval b X.env)] := by rfl) (hs2 : starEach [b] X.env = [(false, eval b X.env)] := by rfl) :
  PI X (.Tuple es ct ps) (.Call (.Name "zip" p) [a, b] [] pos) (zxH X.K ta) := by
 intro pins s U H R I h
 refine Call_ (zgy I hg hm boot_zip (PyProof.Rows.callWith_type1 (thn (ha pos pins s U H _ I h) fun us s1 ⟨vs, H1, I1, r1, q1⟩ => ?_) (by rw [hs, hs2]) (by rw [hs2]; rfl)))
 obtain ⟨a, b, e, ⟨xs, hx⟩, ⟨ys, hy⟩, q⟩ := q1
 subst e
 cases r1 with
 | cons r rr =>
  cases rr with
  | cons r' rr =>
   cases rr
   cases r
   cases r'
   obtain ⟨its, _, p1, _⟩ := I1.tuple hx
   obtain ⟨jts, _, p2, _⟩ := I1.tuple hy
   have l1 : a < s1.heap.objs.size := by obtain ⟨o, e, _⟩ := p1; exact xaf e
   have l2 : b < s1.heap.objs.size := by obtain ⟨o, e, _⟩ := p2; exact xaf e
   refine zol p1 p2 fun g Z kg => ?_
   refine wpAny_pyIter_zip Z.z ?_
   refine ⟨_, [s1.heap.objs.size + 4, s1.heap.objs.size + 2, s1.heap.objs.size + 3, s1.heap.objs.size, s1.heap.objs.size + 1], _, _, H1, rfl, I1.kept (t' := s1.toks) kg, zp4 (zipApart_new l1 l2), ⟨Z.z, Z.ti, Z.to, Z.i1, Z.i2⟩, fun c hc => ?_, q⟩
   have hc : s1.heap.objs.size <= c := by
    simp only [xak, xbf, or_false] at hc
    rcases hc with rfl | rfl | rfl | rfl | rfl
    ·exact xdm _ _
    ·exact xdm _ _
    ·exact xdm _ _
    ·exact xai _
    ·exact xdm _ _
   exact I1.fpOk hc (I1.hok.fresh hc)
def zvX (xs ys : List D) : List D := List.zipWith (fun x y => .tup [x, y]) xs ys
def zom : List D -> R (List D)
 | [.tup xs, .tup ys] => bif xs.length == ys.length then .ok (zvX xs ys) else .bad
 | _ => .bad
theorem zfv.zip {K : xFg} {mg : Str -> Option Value} {G : Hp} {a b : Addr} {vs us : List V} {xs ys : List D} (h : SqT K G a vs) (h' : SqT K G b us) (r : Reps K mg G xs vs) (r' : Reps K mg G ys us) (hl : xs.length = ys.length) : zfv K mg (Itz K a b) G (zvX xs ys) := by
 have ln : (zvX xs ys).length = vs.length := by unfold zvX; rw [List.length_zipWith, <- hl, Nat.min_self, r.length]
 refine ⟨fun H e => ⟨vs, us, zai.sqT e h, zai.sqT e h', by rw [ln]; exact xai _⟩, fun H i d e hd => ?_⟩
 obtain ⟨x, y, hx, hy, rfl⟩ : ∃ x y, xs[i]? = some x /\ ys[i]? = some y /\ d = .tup [x, y] := by
  unfold zvX at hd
  rw [List.getElem?_zipWith] at hd
  cases ex : xs[i]? with
  | none => rw [ex] at hd; cases hd
  | some x =>
   cases ey : ys[i]? with
   | none => rw [ex, ey] at hd; cases hd
   | some y => rw [ex, ey] at hd; exact ⟨x, y, rfl, rfl, (Option.some.inj hd).symm⟩
 obtain ⟨v, hv, rv⟩ := r.get hx
 obtain ⟨u, hu, ru⟩ := r'.get hy
 refine ⟨⟨vs, us, v, u, zai.sqT e h, zai.sqT e h', hv, hu⟩, ?_⟩
 rintro _ H' ⟨T, v', u', rfl, hn, rfl, q1, q2⟩ G1 e1 e2
 have z1 := q1 _ (zai.sqT e h)
 have z2 := q2 _ (zai.sqT e h')
 rw [hv] at z1; cases z1
 rw [hu] at z2; cases z2
 have st := zaS.pub (o := .tup [v, u]) e2 hn
 exact ⟨upd G1 T (.tup [v, u]), st, T, [v, u], rfl, SqT.of zae, .cons (rv.mono (e1.trans st.g)) (.cons (ru.mono (e1.trans st.g)) rfl)⟩
theorem zs2 {a b : Expr} {fs : DSt -> R (List D)} {p pos ps : Pos} {es : List Expr} {ct : Nat} (hm : X.mg "zip" = none) (ha : DA X E [a, b] fs) (hg : Gl X "zip" := by rfl) (hs : starEach [a, b] X.env = [(false, eval a X.env), (false, eval b X.env)] := by rfl) (hs2 : starEach [b] X.env = [(false, eval b X.env)] := by rfl) :
  DI X E (.Tuple es ct ps) (.Call (.Name "zip" p) [a, b] [] pos) (zcW zom fs) := by
 refine PI.mono' (zvW hg hm ha hs hs2) fun U H R ⟨G, Ud, ok, q⟩ => ?_
 refine ⟨G, Ud, ok, q.of_bind.mono (fun ds _ z vs G' H' s r => ?_) fun _ z => z⟩
 match ds, z, r with
 | [.tup xs, .tup ys], z, r =>
  obtain ⟨v, r1, rfl, ⟨a, as, rfl, h1, k1⟩, r2⟩ := r
  obtain ⟨v', r3, rfl, ⟨b, bs, rfl, h2, k2⟩, r4⟩ := r2
  cases r4
  cases hl : (xs.length == ys.length) with
  | false => simp only [zom, hl, cond_false] at z; exact z.elim
  | true =>
   simp only [zom, hl, cond_true] at z
   exact ⟨a, b, rfl, ⟨as, zai.sqT s.e h1⟩, ⟨bs, zai.sqT s.e h2⟩, z _ G' H' s (.zip h1 h2 k1 k2 (by simpa using hl))⟩
end
end DL
section
namespace L2
open PySem.Spec PyProof.Rows
def zbs : Int -> List Int -> Int
 | a, [] => a
 | a, b :: r => zbs (min a b) r
theorem ziL : ∀ (r : List Int) (a : Int), zbs a r <= a /\ (∀ b ∈ r, zbs a r <= b) /\ (zbs a r = a \/ zbs a r ∈ r)
 | [], a => ⟨Int.le_refl _, by simp, .inl rfl⟩
 | b :: r, a => by
  obtain ⟨h1, h2, h3⟩ := ziL r (min a b)
  refine ⟨Int.le_trans h1 (Int.min_le_left _ _), fun c hc => ?_, ?_⟩
  ·rcases xak.mp hc with rfl | hc
   ·exact Int.le_trans h1 (Int.min_le_right _ _)
   ·exact h2 c hc
  ·show zbs (min a b) r = a \/ zbs (min a b) r ∈ b :: r
   rcases h3 with h3 | h3
   ·by_cases hab : a <= b
    ·left; rw [h3]; omega
    ·right; rw [h3, show min a b = b by omega]; exact xab
   ·right; exact xad _ h3
theorem ziM {a : Int} {r : List Int} {M : Int} (hm : M ∈ a :: r) (hl : ∀ b ∈ a :: r, M <= b) : zbs a r = M := by
 obtain ⟨h1, h2, h3⟩ := ziL r a
 have u : zbs a r <= M := by
  rcases xak.mp hm with rfl | hm
  ·exact h1
  ·exact h2 _ hm
 have v : M <= zbs a r := by
  rcases h3 with h3 | h3
  ·rw [h3]; exact hl _ xab
  ·exact hl _ (xad _ h3)
 omega
variable {X : Cx}
theorem zon (hc : X.calm = true) : zbw X (.builtin "min") (fun xs H Q => ∃ (p : Addr) (a : Int) (r : List Int), xs = [.ref p] /\ SqL X.K H p ((a :: r).map V.int) /\ Q (.int (zbs a r)) H) := by
 intro pins s U H xs us Q I r h
 obtain ⟨p, a, ns, rfl, hq, q⟩ := h
 obtain ⟨u, rfl, e⟩ := zeu r
 cases e
 obtain ⟨its, rv, pl, hz⟩ := I.list hq
 have hi := zly rv
 obtain ⟨zs, e⟩ := hi.allInts.items
 have hl : s.heap.IsList p (intItems zs) := by rw [<- e]; exact pl.isList
 have hn : (zs.toList.map (·.1)) = a :: ns := by
  have a1 := nums_intItems zs
  rw [<- e] at a1
  rw [show its.toArray.toList = its from rfl, hi.numsOf] at a1
  exact a1.symm
 have hs : zs.size = ns.length + 1 := by
  have := congrArg List.length hn
  simpa using this
 refine min_intList (I.ok.hd hc) hl (by omega) fun v h' tk hv hk => ?_
 obtain ⟨t, rfl⟩ := intItems_at hv
 refine ⟨.int (zbs a ns), H, I.kept hk, ⟨t, ?_⟩, q⟩
 obtain ⟨b1, b2⟩ := argBest_lt (numAt zs) (zs.size - 1)
 have hle : zbs a ns = numAt zs (argBest (fun i j => decide (numAt zs i < numAt zs j)) (zs.size - 1)) := by
  refine ziM ?_ fun b hb => ?_
  ·rw [numAt_eq, hn]; exact getD_mem (by rw [xam]; omega)
  ·obtain ⟨j, hj, rfl⟩ := mem_getD hb
   rw [<- hn, <- numAt_eq]
   exact b2 j (by rw [xam] at hj; omega)
 rw [hle]
end L2
namespace DL
open PySem.Spec PyProof.Rows L2
variable {K : xFg} {mg : Str -> Option Value} {X : Cx} {e : Expr} {es : List Expr} {p pos : Pos}
def zlP : D -> R D
 | .lst xs => match zck xs with
  | some (a :: r) => .ok (.int (zbs a r))
  | _ => .bad
 | _ => .bad
abbrev zp5 := g1 zlP
theorem zs3 : zex K mg (fun xs H Q => ∃ (p : Addr) (a : Int) (r : List Int), xs = [.ref p] /\ SqL K H p ((a :: r).map V.int) /\ Q (.int (zbs a r)) H) zp5 := cd1 fun G H d v Q e r q => by
 cases d with
 | lst xs =>
  obtain ⟨a, vs, rfl, h1, h2⟩ := r
  cases hn : zck xs with
  | none => simp only [zlP, hn] at q; exact q.elim
  | some ns =>
   cases ns with
   | nil => simp only [zlP, hn] at q; exact q.elim
   | cons n ns =>
    simp only [zlP, hn] at q
    rw [zfC hn] at h2
    rw [Reps.of_ints h2] at h1
    exact ⟨a, n, ns, rfl, e.seq h1, zag.now q e rfl⟩
 | _ => exact (show False from q).elim
theorem zs4 {E : XK} {fs : DSt -> R (List D)} (hc : X.calm = true) (hm : X.mg "min" = none) (ha : DA X E (e :: es) fs) (hg : Gl X "min" := by rfl) (he : starEach (e :: es) X.env = (false, eval e X.env) :: starEach es X.env := by rfl) (hpl : (backTo pos (starEach es X.env)).any (·.1) = false := by rfl) : DE X E (.Call (.Name "min" p) (e :: es) [] pos) (zcc zp5 fs) :=
 zeJ (zon hc) zs3 hm PyProof.Rows.boot_min ha hg (by decide) (by decide) he hpl
theorem zp6 {a : Int} {r : List Int} : zp5 [.lst ((a :: r).map D.int)] = .ok (.int (zbs a r)) := by
 show zlP (.lst ((a :: r).map D.int)) = _
 simp only [zlP, zgI]
end DL
end
section
namespace SetT
open PySem.SetTable
theorem go_ok2 {t : SetTable} (hd : t.dummies = #[]) (hashAt : Nat -> Int) (h : Int) : ∀ (k n : Nat) (p : Probe), p.dummy = none -> t.slot (iter t k p).j = .empty -> (∀ m, m < k -> t.slot (iter t m p).j ≠ .empty) -> k < n ->
  SetTable.probe.go t hashAt h n p = some (.empty (iter t k p).j none) \/ ∃ j i m, m < k /\ SetTable.probe.go t hashAt h n p = some (.candidate j i (iter t (m + 1) p)) /\ t.slot j = .live i /\ t.place[i]? = some j := by
 intro k
 induction k with
 | zero =>
  intro n p hp he _ hn
  obtain ⟨n, rfl⟩ : ∃ m, n = m + 1 := ⟨n - 1, by omega⟩
  have he : t.slot p.j = .empty := he
  left
  unfold SetTable.probe.go
  rw [he, hp]; rfl
 | succ k ih =>
  intro n p hp he hb hn
  obtain ⟨n, rfl⟩ : ∃ m, n = m + 1 := ⟨n - 1, by omega⟩
  rcases slot_cases hd p.j with e | ⟨i, e, hi⟩
  ·exact absurd e (hb 0 (by omega))
  ·by_cases hh : (hashAt i == h) = true
   ·refine .inr ⟨p.j, i, 0, by omega, ?_, e, hi⟩
    unfold SetTable.probe.go
    rw [e]
    simp only [hh, if_true]
    rfl
   ·rcases ih n (t.advance p) (by rw [adv_dummy]; exact hp) he (fun m hm => hb (m + 1) (by omega)) (by omega) with q | ⟨j, i', m, hm, q, q2, q3⟩
    ·left
     unfold SetTable.probe.go
     rw [e]
     simp only [hh, if_false]
     exact q
    ·refine .inr ⟨j, i', m + 1, by omega, ?_, q2, q3⟩
     unfold SetTable.probe.go
     rw [e]
     simp only [hh, if_false]
     exact q
theorem go_there {t : SetTable} (hd : t.dummies = #[]) (hashAt : Nat -> Int) (h : Int) {i0 : Nat} (h0 : hashAt i0 = h) : ∀ (k n : Nat) (p : Probe), t.slot (iter t k p).j = .live i0 -> (∀ m, m < k -> t.slot (iter t m p).j ≠ .empty) -> k < n ->
  ∃ i m, m <= k /\ SetTable.probe.go t hashAt h n p = some (.candidate (iter t m p).j i (iter t (m + 1) p)) /\ t.slot (iter t m p).j = .live i /\ t.place[i]? = some (iter t m p).j := by
 intro k
 induction k with
 | zero =>
  intro n p he _ hn
  obtain ⟨n, rfl⟩ : ∃ m, n = m + 1 := ⟨n - 1, by omega⟩
  have he : t.slot p.j = .live i0 := he
  refine ⟨i0, 0, by omega, ?_, he, ?_⟩
  ·unfold SetTable.probe.go
   rw [he]
   simp only [h0, beq_self_eq_true, if_true]
   rfl
  ·rcases slot_cases hd p.j with e | ⟨i, e, hi⟩
   ·rw [e] at he; cases he
   ·rw [e] at he; cases he; exact hi
 | succ k ih =>
  intro n p he hb hn
  obtain ⟨n, rfl⟩ : ∃ m, n = m + 1 := ⟨n - 1, by omega⟩
  rcases slot_cases hd p.j with e | ⟨i, e, hi⟩
  ·exact absurd e (hb 0 (by omega))
  ·by_cases hh : (hashAt i == h) = true
   ·refine ⟨i, 0, by omega, ?_, e, hi⟩
    unfold SetTable.probe.go
    rw [e]
    simp only [hh, if_true]
    rfl
   ·obtain ⟨i', m, hm, q, q2, q3⟩ := ih n (t.advance p) he (fun m hm => hb (m + 1) (by omega)) (by omega)
    refine ⟨i', m + 1, by omega, ?_, q2, q3⟩
    unfold SetTable.probe.go
    rw [e]
    simp only [hh, if_false]
    exact q
theorem srt_lt {xs : Array Nat} (hs : xs.toList.Pairwise (· < ·)) {i k a b : Nat} (h : i < k) (ha : xs[i]? = some a) (hb : xs[k]? = some b) : a < b := by
 rw [<- xas] at ha hb
 obtain ⟨h1, rfl⟩ := xah.mp ha
 obtain ⟨h2, rfl⟩ := xah.mp hb
 exact xcf.mp hs i k h1 h2 h
theorem zp7 {xs : Array Nat} {j : Nat} (hs : xs.toList.Pairwise (· < ·)) : ∀ (n lo hi : Nat), hi - lo <= n -> lo <= hi -> hi <= xs.size -> (∀ i v, i < lo -> xs[i]? = some v -> v < j) -> (∀ i v, hi <= i -> xs[i]? = some v -> j <= v) ->
  SetTable.below.go xs j n lo hi <= xs.size /\ (∀ i v, i < SetTable.below.go xs j n lo hi -> xs[i]? = some v -> v < j) /\ (∀ i v, SetTable.below.go xs j n lo hi <= i -> xs[i]? = some v -> j <= v) := by
 intro n
 induction n with
 | zero =>
  intro lo hi h1 h2 h3 h4 h5
  unfold SetTable.below.go
  exact ⟨by omega, h4, fun i v hi' => h5 i v (by omega)⟩
 | succ n ih =>
  intro lo hi h1 h2 h3 h4 h5
  unfold SetTable.below.go
  by_cases hl : lo < hi
  ·rw [if_pos hl]
   simp only
   have hm : (lo + hi) / 2 < xs.size := by omega
   have hg : xs[(lo + hi) / 2]? = some xs[(lo + hi) / 2] := xa1 hm
   have hd : xs.getD ((lo + hi) / 2) j = xs[(lo + hi) / 2] := by rw [xa2, hg]; rfl
   rw [hd]
   by_cases hx : xs[(lo + hi) / 2] < j
   ·rw [if_pos hx]
    refine ih _ _ (by omega) (by omega) h3 (fun i v hi' hv => ?_) h5
    by_cases e : i = (lo + hi) / 2
    ·subst e; rw [hg] at hv; cases hv; exact hx
    ·exact Nat.lt_trans (srt_lt hs (show i < (lo + hi) / 2 by omega) hv hg) hx
   ·rw [if_neg hx]
    refine ih _ _ (by omega) (by omega) (by omega) h4 (fun i v hi' hv => ?_)
    by_cases e : i = (lo + hi) / 2
    ·subst e; rw [hg] at hv; cases hv; omega
    ·have := srt_lt hs (show (lo + hi) / 2 < i by omega) hg hv
     omega
  ·rw [if_neg hl]
   exact ⟨by omega, h4, fun i v hi' => h5 i v (by omega)⟩
theorem below_ok {xs : Array Nat} (j : Nat) (hs : xs.toList.Pairwise (· < ·)) : below xs j <= xs.size /\ (∀ i v, i < below xs j -> xs[i]? = some v -> v < j) /\ (∀ i v, below xs j <= i -> xs[i]? = some v -> j <= v) :=
 zp7 hs xs.size 0 xs.size (by omega) (by omega) (by omega) (fun i v h => absurd h (by omega)) fun i v h hv => by
  have := (xa3.mp hv).1
  omega
theorem slot_live {t : SetTable} (hs : t.place.toList.Pairwise (· < ·)) {i j : Nat} (hp : t.place[i]? = some j) : t.slot j = .live i := by
 obtain ⟨b1, b2, b3⟩ := below_ok j hs
 have e : below t.place j = i := by
  by_cases h1 : i < below t.place j
  ·have := b2 i j h1 hp; omega
  ·by_cases h2 : below t.place j < i
   ·have hlt : below t.place j < t.place.size := by have := (xa3.mp hp).1; omega
    have hg : t.place[below t.place j]? = some t.place[below t.place j] := xa1 hlt
    have := b3 _ _ (xai _) hg
    have := srt_lt hs h2 hg hp
    omega
   ·omega
 unfold slot
 simp only
 rw [e, hp, if_pos (beq_self_eq_true _)]
theorem put_srt {xs : Array Nat} {j : Nat} (hs : xs.toList.Pairwise (· < ·)) (hj : ∀ i : Nat, xs[i]? ≠ some j) : (insertAt xs (below xs j) j).toList.Pairwise (· < ·) := by
 obtain ⟨b1, b2, b3⟩ := below_ok j hs
 rw [toList_insertAt, List.pairwise_append]
 refine ⟨hs.sublist (List.take_sublist _ _), xbt.mpr ⟨fun x hx => ?_, hs.sublist (List.drop_sublist _ _)⟩, fun x hx y hy => ?_⟩
 ·obtain ⟨i, hi, rfl⟩ := xbe hx
  have e : xs[below xs j + i]? = some (xs.toList.drop (below xs j))[i] := by
   rw [<- xas, <- List.getElem?_drop, xap hi]
  have := b3 _ _ (by omega) e
  have : (xs.toList.drop (below xs j))[i] ≠ j := fun z => hj _ (by rw [e, z])
  omega
 ·have hx' : x < j := by
   obtain ⟨i, hi, rfl⟩ := xbe hx
   rw [xbj] at hi
   have e : xs[i]? = some (xs.toList.take (below xs j))[i] := by
    rw [<- xas, List.getElem_take, xap]
   exact b2 _ _ (by omega) e
  rcases xak.mp hy with rfl | hy
  ·exact hx'
  ·obtain ⟨i, hi, rfl⟩ := xbe hy
   have e : xs[below xs j + i]? = some (xs.toList.drop (below xs j))[i] := by
    rw [<- xas, <- List.getElem?_drop, xap hi]
   have := b3 _ _ (by omega) e
   omega
theorem zip_put {α β : Type} {as : Array α} {bs : Array β} {p : Nat} {x : α} {y : β} (hl : as.size = bs.size) (hp : p <= as.size) {z : α × β} : z ∈ (insertAt as p x).toList.zip (insertAt bs p y).toList ↔ z = (x, y) \/ z ∈ as.toList.zip bs.toList := by
 rw [toList_insertAt, toList_insertAt, List.zip_append (by rw [xbj, xbj, xaj, xaj, hl]), List.zip_cons_cons, xbr, xak]
 have e : as.toList.zip bs.toList = (as.toList.take p).zip (bs.toList.take p) ++ (as.toList.drop p).zip (bs.toList.drop p) := by
  rw [<- List.zip_append (by rw [xbj, xbj, xaj, xaj, hl]), xdp, xdp]
 rw [e, xbr]
 constructor
 ·rintro (h | h | h)
  ·exact .inr (.inl h)
  ·exact .inl h
  ·exact .inr (.inr h)
 ·rintro (h | h | h)
  ·exact .inr (.inl h)
  ·exact .inl h
  ·exact .inr (.inr h)
theorem iter_mask {t t' : SetTable} (h : t'.mask = t.mask) : ∀ (k : Nat) (p : Probe), iter t' k p = iter t k p
 | 0, _ => rfl
 | k + 1, p => by
  show iter t' k (t'.advance p) = iter t k (t.advance p)
  have : t'.advance p = t.advance p := by unfold advance; rw [h]
  rw [this, iter_mask h k]
theorem start_mask {t t' : SetTable} (h : t'.mask = t.mask) (hh : Int) : t'.probeStart hh = t.probeStart hh := by unfold probeStart; rw [h]
theorem first_empty {t : SetTable} (p : Probe) {k : Nat} (h : t.slot (iter t k p).j = .empty) : ∃ k0, k0 <= k /\ t.slot (iter t k0 p).j = .empty /\ ∀ m, m < k0 -> t.slot (iter t m p).j ≠ .empty := by
 induction k using Nat.strongRecOn with
 | _ k ih =>
  by_cases hx : ∃ m, m < k /\ t.slot (iter t m p).j = .empty
  ·obtain ⟨m, h1, h2⟩ := hx
   obtain ⟨k0, a, b, c⟩ := ih m h1 h2
   exact ⟨k0, by omega, b, c⟩
  ·exact ⟨k, xai _, h, fun m hm e => hx ⟨m, hm, e⟩⟩
theorem relaid_flags {t t' : SetTable} {hashes : Array Int} {order : Array Nat} {n : Nat} (h : t.relaid hashes n = some (t', order)) : t'.plain = t.plain /\ t'.led = t.led := by
 unfold relaid laid at h
 cases hl : layClean (sizeAbove n - 1) hashes with
 | none => rw [hl] at h; cases h
 | some o =>
  rw [hl] at h
  have h := Option.some.inj h
  have e : t' = _ := (congrArg Prod.fst h).symm
  rw [e]
  exact ⟨rfl, rfl⟩
theorem relaid_found (t : SetTable) (hashes : Array Int) {n : Nat} (hn : hashes.size = n) (h : n <= 32) : ∃ t' order, t.relaid hashes 20 = some (t', order) /\ t'.mask = 31 /\ t'.dummies = #[] /\ t'.place.size = n /\ order.size = n /\ (∀ k ∈ order.toList, k < n) /\ t'.place.toList.Pairwise (· < ·) /\
  ∀ c, c < n -> ∃ (i j m : Nat), order[i]? = some c /\ t'.place[i]? = some j /\ m < 10 * turns t'.mask /\ (iter t' m (t'.probeStart (hashes.getD c 0))).j = j /\ ∀ m', m' < m -> t'.slot (iter t' m' (t'.probeStart (hashes.getD c 0))).j ≠ .empty := by
 obtain ⟨t', order, r1, r2, r3, r4, r5, r6⟩ := relaid_ok t hashes hn h
 refine ⟨t', order, r1, r2, r3, r4, r5, r6, ?_⟩
 have e0 : sizeAbove 20 - 1 = 31 := by decide
 unfold relaid at r1
 rw [e0] at r1
 unfold laid at r1
 cases hl : layClean 31 hashes with
 | none => rw [hl] at r1; cases r1
 | some o =>
  rw [hl] at r1
  have r1 := Option.some.inj r1
  have rt := (congrArg Prod.fst r1).symm
  have ro := (congrArg Prod.snd r1).symm
  simp only at rt ro
  have pl : t'.place = (((List.range 32).filterMap fun j => (o.getD j none).map (j, ·)).map (·.1)).toArray := by rw [rt]
  have srt : t'.place.toList.Pairwise (· < ·) := by
   rw [pl, xcz]
   exact zm4 _ _ List.pairwise_lt_range
  refine ⟨srt, ?_⟩
  unfold layClean at hl
  rw [<- Array.foldl_toList] at hl
  obtain ⟨⟨o', k'⟩, hl1, hl2⟩ := xdj.mp hl
  have hl2 : o' = o := hl2
  subst hl2
  have m0 : ∀ P : Nat -> Prop, P 31 -> P t'.mask := fun P hP => by rw [r2]; exact hP
  obtain ⟨os, L⟩ := zij (t := t') (fun c => hashes.getD c 0) hashes.toList (Array.replicate 32 none) o' 0 k' (by rw [r2]; simp) (fun i hi => by
   rw [xbk, xa2, xas]
   rw [xaj] at hi
   rw [xa1 hi]; rfl) (fun c hc => absurd hc (by omega)) (by rw [r2]; exact hl1)
  rw [xbk, xaj, hn] at L
  have tk : ∀ j, j <= t'.mask -> (o'.getD j none).isSome = true -> t'.slot j ≠ .empty := fun j hj hs => by
   obtain ⟨b, hb⟩ := xbi.mp hs
   have := zqT (f := fun j => o'.getD j none) (l := List.range 32) (xaz.mpr (by omega)) hb
   obtain ⟨i, hi, ei⟩ := xbe this
   have : t'.place[i]? = some j := by
    rw [pl, xcb, xa6, xap hi, ei]; rfl
   rw [slot_live srt this]
   exact fun z => by cases z
  intro c hc
  obtain ⟨j, j1, j2, m, m1, m2, m3⟩ := L c hc
  have := zqT (f := fun j => o'.getD j none) (l := List.range 32) (xaz.mpr (by omega)) j2
  obtain ⟨i, hi, ei⟩ := xbe this
  refine ⟨i, j, m, ?_, ?_, m1, m2, fun m' hm => tk _ (zhi _ _) (m3 m' hm)⟩
  ·rw [ro, xcb, xa6, xap hi, ei]; rfl
  ·rw [pl, xcb, xa6, xap hi, ei]; rfl
end SetT
namespace DL
open L2 PyProof.Rows
section
variable {prog : Program} {w : World} {A : Around} {E : Value -> Shared -> Prop} {s : Shared}
structure zjA (prog : Program) (w : World) (P : Addr -> Prop) (h : Heap) (a : Addr) (o : Obj) (es : Array (Int × Value)) (ep : Nat) (t : SetTable) (kss : List (List Int)) : Prop where
 get : h.get? a = some o
 ex : o.ExactSet
 dat : o.data = .set es ep t
 dm : t.dummies = #[]
 pl : t.place.size = es.size
 msk : (t.mask = 7 /\ es.size <= 4) \/ (t.mask = 31 /\ es.size <= 18)
 srt : t.place.toList.Pairwise (· < ·)
 n : es.size = kss.length
 el : ∀ e ∈ es.toList, ∃ c ls, e.2 = .ref c /\ IsTupleKey (intKind prog w) h ls c /\ ls ∈ kss /\ P c
 all : ∀ ls ∈ kss, ∃ c j k, ((tupleKeyHash (intKind prog w) ls, Value.ref c), j) ∈ es.toList.zip t.place.toList /\ IsTupleKey (intKind prog w) h ls c /\ k < 10 * SetTable.turns t.mask /\ (SetT.iter t k (t.probeStart (tupleKeyHash (intKind prog w) ls))).j = j /\ ∀ m, m < k -> t.slot (SetT.iter t m (t.probeStart (tupleKeyHash (intKind prog w) ls))).j ≠ .empty
 pln : t.plain = true
 ld : t.led = !w.params.followText "set-order"
variable {P : Addr -> Prop} {h : Heap} {a : Addr} {o : Obj} {es : Array (Int × Value)} {ep : Nat} {t : SetTable} {kss : List (List Int)}
theorem zjA.fits (S : zjA prog w P h a o es ep t kss) : t.fits es.size = true := by
 unfold SetTable.fits SetTable.fill
 rw [S.pl, S.dm, xax, decide_eq_true_eq]
 refine ⟨beq_self_eq_true _, ?_⟩
 show es.size + 0 <= t.mask
 rcases S.msk with ⟨h1, h2⟩ | ⟨h1, h2⟩ <;> omega
theorem zjA.odd (S : zjA prog w P h a o es ep t kss) : t.gaveWay = false := by
 unfold SetTable.gaveWay
 rcases S.msk with ⟨h1, h2⟩ | ⟨h1, h2⟩ <;> rw [h1] <;> rfl
theorem zp8 {ks : List Int} {b : Addr} {Q : SetFound -> Shared -> Prop} (S : zjA prog w P s.heap a o es ep t kss) (hk : IsTupleKey (intKind prog w) s.heap ks b) (hu : A.units < cLine) (hh : Int) {i0 j0 : Nat} {c0 : Addr} (z1 : es[i0]? = some (hh, .ref c0)) (z2 : t.place[i0]? = some j0) (z3 : IsTupleKey (intKind prog w) s.heap ks c0) (q : Q (.there none) s) :
  ∀ (k fuel : Nat) (stand : Option SetTable.Probe), (SetT.iter t k (stand.getD (t.probeStart hh))).j = j0 -> (∀ m, m < k -> t.slot (SetT.iter t m (stand.getD (t.probeStart hh))).j ≠ .empty) -> k < 10 * SetTable.turns t.mask -> k < fuel -> wpAny (model prog w) A (setSearchFrom a (.ref b) hh true fuel stand) Q E s := by
 intro k
 induction k using Nat.strongRecOn with
 | _ k ih =>
  intro fuel stand he hb hk1 hk2
  obtain ⟨f, rfl⟩ : ∃ f, fuel = f + 1 := ⟨fuel - 1, by omega⟩
  have l0 := SetT.slot_live S.srt z2
  unfold setSearchFrom
  refine wpAny_bind (wpAny_setState_of S.get S.dat S.fits ?_)
  dsimp only
  rw [S.odd, if_neg (by decide)]
  have key2 : ∀ ha X, ha i0 = hh -> t.probe ha hh (stand.getD (t.probeStart hh)) = X -> ∃ i m, m <= k /\ X = some (.candidate (SetT.iter t m (stand.getD (t.probeStart hh))).j i (SetT.iter t (m + 1) (stand.getD (t.probeStart hh)))) /\ t.slot (SetT.iter t m (stand.getD (t.probeStart hh))).j = .live i /\ t.place[i]? = some (SetT.iter t m (stand.getD (t.probeStart hh))).j := fun ha X h0 z => by
   subst z
   exact SetT.go_there S.dm ha hh h0 k (10 * SetTable.turns t.mask) (stand.getD (t.probeStart hh)) (by rw [he]; exact l0) hb hk1
  generalize hX : t.probe _ hh (stand.getD (t.probeStart hh)) = X
  obtain ⟨i, m, hm, rfl, hl, hp⟩ := key2 _ _ (by show (Option.map (fun x => x.fst) es[i0]?).getD 0 = hh; rw [z1]; rfl) hX
  dsimp only
  have hi : i < es.size := by
   have := (xa3.mp hp).1
   rw [S.pl] at this
   exact this
  have pre : ∀ {mm : Sem SetFound}, wpAny (model prog w) A mm Q E s -> wpAny (model prog w) A (if (!t.led) = true then do
    let l <- searchCouldBeSeen (Value.ref b) (List.map (fun x => x.snd) (Array.filter (fun x => x.fst == hh) es).toList)
    if l = true then do
     unsupported "set:the-search-would-show-the-table"
     mm
    else mm
   else mm) Q E s := by
   intro mm hmm
   by_cases hled : (!t.led) = true
   ·rw [if_pos hled]
    refine wpAny_bind (zjx hk (fun v hv => ?_) ?_)
    ·obtain ⟨x, hx, rfl⟩ := xav.mp hv
     rw [xdw] at hx
     obtain ⟨c, ls, h1, h2, _⟩ := S.el x (xbm.mp hx).1
     exact ⟨c, ls, h1, h2⟩
    ·rw [if_neg (by decide)]
     exact hmm
   ·rw [if_neg hled]
    exact hmm
  refine pre ?_
  by_cases ei : i = i0
  ·subst ei
   rw [z1]
   dsimp only
   refine wpAny_bind (wpAny_holding (wpAny_eqBool_tuple hu z3 hk ?_))
   rw [decide_eq_true rfl]
   refine wpAny_bind (wpAny_setState_of S.get S.dat S.fits ?_)
   dsimp only
   rw [if_pos (by decide)]
   exact wpAny_pure q
  ·have hmk : m < k := by
    refine Nat.lt_of_le_of_ne hm fun z => ei ?_
    rw [z, he, l0] at hl
    cases hl; rfl
   obtain ⟨c, ls, h1, h2, h3⟩ := S.el es[i] (by rw [<- xdu]; exact xbz _)
   have eqn : es[i]? = some (es[i].1, Value.ref c) := by rw [xa1 hi, <- h1]
   rw [eqn]
   dsimp only
   refine wpAny_bind (wpAny_holding (wpAny_eqBool_tuple hu h2 hk ?_))
   by_cases ek : ls = ks
   ·rw [decide_eq_true ek]
    refine wpAny_bind (wpAny_setState_of S.get S.dat S.fits ?_)
    dsimp only
    rw [if_pos (by decide)]
    exact wpAny_pure q
   ·rw [decide_eq_false ek]
    refine wpAny_bind (wpAny_setState_of S.get S.dat S.fits ?_)
    dsimp only
    rw [if_neg (by decide), show t.sameMemory t.moves t.mask = some true from by unfold SetTable.sameMemory; rw [if_pos (beq_self_eq_true _)]]
    dsimp only
    rw [if_pos rfl, hl]
    dsimp only
    rw [eqn]
    dsimp only
    refine wpAny_bind (wpAny_isSame_ref_self ?_)
    refine wpAny_bind (wpAny_pure ?_)
    rw [if_pos rfl]
    dsimp only
    rw [if_neg (by decide)]
    have e3 : ∀ n, SetT.iter t (m + 1 + n) (stand.getD (t.probeStart hh)) = SetT.iter t n (SetT.iter t (m + 1) (stand.getD (t.probeStart hh))) := fun n => SetT.iter_add t (m + 1) n _
    refine ih (k - (m + 1)) (by omega) f (some _) ?_ (fun n hn => ?_) (by omega) (by omega)
    ·show (SetT.iter t (k - (m + 1)) (SetT.iter t (m + 1) (stand.getD (t.probeStart hh)))).j = j0
     rw [<- e3, show m + 1 + (k - (m + 1)) = k by omega]; exact he
    ·show t.slot (SetT.iter t n (SetT.iter t (m + 1) (stand.getD (t.probeStart hh)))).j ≠ .empty
     rw [<- e3]; exact hb _ (by omega)
theorem zlQ {ks : List Int} {b : Addr} {Q : SetFound -> Shared -> Prop} (S : zjA prog w P s.heap a o es ep t kss) (hk : IsTupleKey (intKind prog w) s.heap ks b) (hu : A.units < cLine) (hne : ks ∉ kss) (hh : Int) {j0 : Nat} (q : Q (.free j0 false) s) :
  ∀ (k fuel : Nat) (stand : Option SetTable.Probe), (stand.getD (t.probeStart hh)).dummy = none -> (SetT.iter t k (stand.getD (t.probeStart hh))).j = j0 -> t.slot j0 = .empty -> (∀ m, m < k -> t.slot (SetT.iter t m (stand.getD (t.probeStart hh))).j ≠ .empty) -> k < 10 * SetTable.turns t.mask -> k < fuel -> wpAny (model prog w) A (setSearchFrom a (.ref b) hh true fuel stand) Q E s := by
 intro k
 induction k using Nat.strongRecOn with
 | _ k ih =>
  intro fuel stand hd hj he hb hk1 hk2
  obtain ⟨f, rfl⟩ : ∃ f, fuel = f + 1 := ⟨fuel - 1, by omega⟩
  unfold setSearchFrom
  refine wpAny_bind (wpAny_setState_of S.get S.dat S.fits ?_)
  dsimp only
  rw [S.odd, if_neg (by decide)]
  have key2 : ∀ ha X, t.probe ha hh (stand.getD (t.probeStart hh)) = X -> X = some (.empty j0 none) \/ ∃ j i m, m < k /\ X = some (.candidate j i (SetT.iter t (m + 1) (stand.getD (t.probeStart hh)))) /\ t.slot j = .live i /\ t.place[i]? = some j := fun ha X z => by
   subst z
   have := SetT.go_ok2 S.dm ha hh k (10 * SetTable.turns t.mask) (stand.getD (t.probeStart hh)) hd (by rw [hj]; exact he) hb hk1
   rw [hj] at this
   exact this
  generalize hX : t.probe _ hh (stand.getD (t.probeStart hh)) = X
  rcases key2 _ _ hX with rfl | ⟨j, i, m, hm, rfl, hl, hp⟩
  ·exact wpAny_pure q
  ·dsimp only
   have hi : i < es.size := by
    have := (xa3.mp hp).1
    rw [S.pl] at this
    exact this
   have pre : ∀ {mm : Sem SetFound}, wpAny (model prog w) A mm Q E s -> wpAny (model prog w) A (if (!t.led) = true then do
     let l <- searchCouldBeSeen (Value.ref b) (List.map (fun x => x.snd) (Array.filter (fun x => x.fst == hh) es).toList)
     if l = true then do
      unsupported "set:the-search-would-show-the-table"
      mm
     else mm
    else mm) Q E s := by
    intro mm hmm
    by_cases hled : (!t.led) = true
    ·rw [if_pos hled]
     refine wpAny_bind (zjx hk (fun v hv => ?_) ?_)
     ·obtain ⟨x, hx, rfl⟩ := xav.mp hv
      rw [xdw] at hx
      obtain ⟨c, ls, h1, h2, _⟩ := S.el x (xbm.mp hx).1
      exact ⟨c, ls, h1, h2⟩
     ·rw [if_neg (by decide)]
      exact hmm
    ·rw [if_neg hled]
     exact hmm
   refine pre ?_
   obtain ⟨c, ls, h1, h2, h3⟩ := S.el es[i] (by rw [<- xdu]; exact xbz _)
   have eqn : es[i]? = some (es[i].1, Value.ref c) := by rw [xa1 hi, <- h1]
   rw [eqn]
   dsimp only
   refine wpAny_bind (wpAny_holding (wpAny_eqBool_tuple hu h2 hk ?_))
   rw [decide_eq_false (fun z : ls = ks => hne (z ▸ h3.1))]
   refine wpAny_bind (wpAny_setState_of S.get S.dat S.fits ?_)
   dsimp only
   rw [if_neg (by decide), show t.sameMemory t.moves t.mask = some true from by unfold SetTable.sameMemory; rw [if_pos (beq_self_eq_true _)]]
   dsimp only
   rw [if_pos rfl, hl]
   dsimp only
   rw [eqn]
   dsimp only
   refine wpAny_bind (wpAny_isSame_ref_self ?_)
   refine wpAny_bind (wpAny_pure ?_)
   rw [if_pos rfl]
   dsimp only
   rw [if_neg (by decide)]
   have e3 : ∀ n, SetT.iter t (m + 1 + n) (stand.getD (t.probeStart hh)) = SetT.iter t n (SetT.iter t (m + 1) (stand.getD (t.probeStart hh))) := fun n => SetT.iter_add t (m + 1) n _
   refine ih (k - (m + 1)) (by omega) f (some _) (zeC _ _ hd) ?_ he (fun n hn => ?_) (by omega) (by omega)
   ·show (SetT.iter t (k - (m + 1)) (SetT.iter t (m + 1) (stand.getD (t.probeStart hh)))).j = j0
    rw [<- e3, show m + 1 + (k - (m + 1)) = k by omega]; exact hj
   ·show t.slot (SetT.iter t n (SetT.iter t (m + 1) (stand.getD (t.probeStart hh)))).j ≠ .empty
    rw [<- e3]; exact hb _ (by omega)
theorem zvY {ks : List Int} {b : Addr} {Q : Bool -> Shared -> Prop} (S : zjA prog w P s.heap a o es ep t kss) (hk : IsTupleKey (intKind prog w) s.heap ks b) (hu : A.units < cLine) (hks : ks ∈ kss)
  (q : ∀ tk, Q false { s with toks := tk }) : wpAny (model prog w) A (setAdd a (.ref b)) Q E s := by
 unfold setAdd
 refine wpAny_holding (wpAny_bind (wpAny_pyHash_tuple hu hk ?_))
 obtain ⟨c0, j0, k, z1, z2, z3, z4, z5⟩ := S.all ks hks
 generalize tupleKeyHash (intKind prog w) ks = hh at z1 z4 z5
 unfold setAddHashed setAddHashedIn
 refine wpAny_holding (wpAny_bind (wpAny_setState_of S.get S.dat S.fits ?_))
 dsimp only
 rw [show byScan (.ref b) es = false from rfl, if_neg (by decide)]
 unfold setSearch
 obtain ⟨i0, hi, e⟩ := xbe z1
 have hi1 : i0 < es.toList.length := by rw [xdv] at hi; omega
 have hi2 : i0 < t.place.toList.length := by rw [xdv] at hi; omega
 rw [List.getElem_zip] at e
 have e1 : es[i0]? = some (hh, .ref c0) := by rw [<- xas, xap hi1]; exact congrArg some (congrArg Prod.fst e)
 have e2 : t.place[i0]? = some j0 := by rw [<- xas, xap hi2]; exact congrArg some (congrArg Prod.snd e)
 refine wpAny_bind (zp8 (s := { s with toks := s.toks + (ks.length + 1) }) S hk hu hh e1 e2 z2 ?_ k 100000 none z4 z5 z3 (by
  have : 10 * SetTable.turns t.mask <= 460 := by unfold SetTable.turns; rcases S.msk with ⟨h1, h2⟩ | ⟨h1, h2⟩ <;> omega
  omega))
 dsimp only
 exact wpAny_pure (q _)
theorem zvZ {ks : List Int} {b : Addr} {Q : Bool -> Shared -> Prop} (S : zjA prog w P s.heap a o es ep t kss) (hk : IsTupleKey (intKind prog w) s.heap ks b) (hu : A.units < cLine) (hne : ks ∉ kss) (hsz : kss.length <= 17) (hP : P b)
  (q : ∀ h' o' es' ep' t' tk, Heap.SameBut a s.heap h' -> zjA prog w P h' a o' es' ep' t' (ks :: kss) -> Q true { s with heap := h', toks := tk }) : wpAny (model prog w) A (setAdd a (.ref b)) Q E s := by
 unfold setAdd
 refine wpAny_holding (wpAny_bind (wpAny_pyHash_tuple hu hk ?_))
 obtain ⟨hh, hhe⟩ : ∃ hh, tupleKeyHash (intKind prog w) ks = hh := ⟨_, rfl⟩
 rw [hhe]
 unfold setAddHashed setAddHashedIn
 refine wpAny_holding (wpAny_bind (wpAny_setState_of S.get S.dat S.fits ?_))
 dsimp only
 rw [show byScan (.ref b) es = false from rfl, if_neg (by decide)]
 unfold setSearch
 obtain ⟨k', k1', k2'⟩ := SetT.meets_empty S.dm (S.msk.elim (fun h => .inl h.1) fun h => .inr h.1) (by rw [S.pl]; rcases S.msk with ⟨h1, h2⟩ | ⟨h1, h2⟩ <;> omega) hh
 obtain ⟨k, kk, k2, k3⟩ := SetT.first_empty (t.probeStart hh) k2'
 have k1 : k < 10 * SetTable.turns t.mask := by omega
 obtain ⟨j, hj⟩ : ∃ j, (SetT.iter t k (t.probeStart hh)).j = j := ⟨_, rfl⟩
 rw [hj] at k2
 refine wpAny_bind (zlQ (s := { s with toks := s.toks + (ks.length + 1) }) (j0 := j) S hk hu hne hh ?_ k 100000 none rfl hj k2 k3 k1 (by
  have : 10 * SetTable.turns t.mask <= 460 := by unfold SetTable.turns; rcases S.msk with ⟨h1, h2⟩ | ⟨h1, h2⟩ <;> omega
  omega))
 dsimp only
 have p1 : (t.put j).1.mask = t.mask := rfl
 have p2 : (t.put j).1.dummies = #[] := by
  show (if SetTable.has t.dummies j then SetTable.eraseAt t.dummies (SetTable.below t.dummies j) else t.dummies) = #[]
  rw [S.dm, SetT.no_has]
  rfl
 have p3 : (t.put j).1.place.size = es.size + 1 := by
  show (SetTable.insertAt t.place _ j).size = _
  rw [zbG, S.pl]
 have nj : ∀ i : Nat, t.place[i]? ≠ some j := fun i e => by
  have := SetT.slot_live S.srt e
  rw [k2] at this; cases this
 have p4 : (t.put j).1.place.toList.Pairwise (· < ·) := SetT.put_srt S.srt nj
 have bl := (SetT.below_ok j S.srt).1
 have p5 : ∀ z, z ∈ (SetTable.insertAt es (t.put j).snd (hh, Value.ref b)).toList.zip (t.put j).1.place.toList ↔ z = ((hh, Value.ref b), j) \/ z ∈ es.toList.zip t.place.toList := fun z => SetT.zip_put (as := es) (bs := t.place) (p := SetTable.below t.place j) S.pl.symm (by rw [<- S.pl]; exact bl)
 have fin : wpAny (model prog w) A (do
   storeSet a (SetTable.insertAt es (t.put j).snd (hh, Value.ref b)) (t.put j).fst
   if (!false && (t.put j).fst.tooFull) = true then do
    setRelay a (SetTable.grown (es.size + 1))
    pure true
   else pure true) Q E { s with toks := s.toks + (ks.length + 1) } := by
  have p6 : (t.put j).fst.plain = true /\ (t.put j).fst.led = !w.params.followText "set-order" := ⟨S.pln, S.ld⟩
  generalize (t.put j).fst = t1 at p1 p2 p3 p4 p5 p6
  have zz := zbG es (t.put j).snd (hh, Value.ref b)
  have mm := fun y hy => zeL (xs := es) (p := (t.put j).snd) (x := (hh, Value.ref b)) (y := y) hy
  generalize SetTable.insertAt es (t.put j).snd (hh, Value.ref b) = es1 at zz mm p5
  have hn := S.n
  have h18 : es.size <= 17 := by omega
  refine wpAny_bind (wpAny_storeSet_of S.get S.dat ?_ (xa4 (show es1.size <= 1000 by omega) (by decide)))
  have g1 := zdY (es' := es1) (t' := t1) S.get S.dat
  have sb1 : Heap.SameBut a s.heap (s.heap.update a (Obj.putSet es1 t1)) := Heap.SameBut.update _ a _
  generalize s.heap.update a (Obj.putSet es1 t1) = h1 at g1 sb1
  have el1 : ∀ e ∈ es1.toList, ∃ c ls, e.2 = .ref c /\ IsTupleKey (intKind prog w) h1 ls c /\ ls ∈ ks :: kss /\ P c := by
   intro e he
   rcases mm e he with rfl | he
   ·exact ⟨b, ks, rfl, zbV sb1 S.get S.dat hk, xab, hP⟩
   ·obtain ⟨c, ls, e1, e2, e3⟩ := S.el e he
    exact ⟨c, ls, e1, zbV sb1 S.get S.dat e2, xad _ e3.1, e3.2⟩
  have fill1 : t1.fill = es.size + 1 := by
   unfold SetTable.fill
   rw [p2, p3]; rfl
  have full : t1.tooFull = decide ((es.size + 1) * 5 ≥ t.mask * 3) := by
   unfold SetTable.tooFull
   rw [fill1, p1]
  have taken : ∀ jj, t.slot jj ≠ .empty -> t1.slot jj ≠ .empty := fun jj hx => by
   rcases SetT.slot_cases S.dm jj with e | ⟨i, e, hi⟩
   ·exact absurd e hx
   ·have hm : jj ∈ t1.place.toList := by
     have hi1 : i < t.place.toList.length := by have := (xa3.mp hi).1; simpa using this
     have hi2 : i < es.toList.length := by have := S.pl; simp at hi1 ⊢; omega
     have : (es.toList[i], t.place.toList[i]) ∈ es.toList.zip t.place.toList := by
      rw [<- List.getElem_zip (h := by rw [xdv]; omega)]; exact xbz _
     have := (p5 _).mpr (.inr this)
     have := (xc4 this).2
     rw [<- xas, xap hi1] at hi
     rw [Option.some.inj hi] at this
     exact this
    obtain ⟨i', hi', e'⟩ := xbe hm
    rw [SetT.slot_live p4 (i := i') (j := jj) (by rw [<- xas, xap hi', e'])]
    exact fun z => by cases z
  have zq0 : ∀ ls ∈ ks :: kss, ∃ c j k, ((tupleKeyHash (intKind prog w) ls, Value.ref c), j) ∈ es1.toList.zip t1.place.toList /\ IsTupleKey (intKind prog w) h1 ls c /\ k < 10 * SetTable.turns t1.mask /\ (SetT.iter t1 k (t1.probeStart (tupleKeyHash (intKind prog w) ls))).j = j /\ ∀ m, m < k -> t1.slot (SetT.iter t1 m (t1.probeStart (tupleKeyHash (intKind prog w) ls))).j ≠ .empty := by
   intro ls hls
   rcases xak.mp hls with rfl | hls
   ·refine ⟨b, j, k, (p5 _).mpr (.inl (by rw [hhe])), zbV sb1 S.get S.dat hk, by rw [p1]; exact k1, ?_, fun m hm => ?_⟩
    ·rw [SetT.iter_mask p1, SetT.start_mask p1, hhe]; exact hj
    ·rw [SetT.iter_mask p1, SetT.start_mask p1, hhe]; exact taken _ (k3 m hm)
   ·obtain ⟨c, j', k', y1, y2, y3, y4, y5⟩ := S.all ls hls
    refine ⟨c, j', k', (p5 _).mpr (.inr y1), zbV sb1 S.get S.dat y2, by rw [p1]; exact y3, ?_, fun m hm => ?_⟩
    ·rw [SetT.iter_mask p1, SetT.start_mask p1]; exact y4
    ·rw [SetT.iter_mask p1, SetT.start_mask p1]; exact taken _ (y5 m hm)
  by_cases hf : (es.size + 1) * 5 ≥ t.mask * 3
  ·have h7 : t.mask = 7 /\ es.size = 4 := by rcases S.msk with ⟨x1, x2⟩ | ⟨x1, x2⟩ <;> omega
   rw [full, decide_eq_true hf, if_pos (by decide), h7.2]
   have gr : SetTable.grown (4 + 1) = 20 := by decide
   rw [gr]
   unfold setRelay
   refine wpAny_bind (wpAny_bind (wpAny_setState_of g1 rfl ?_ ?_))
   ·unfold SetTable.fits
    rw [fill1, p1, p3, zz, xax, decide_eq_true_eq]
    exact ⟨beq_self_eq_true _, by omega⟩
   ·dsimp only
    obtain ⟨t2, order, r1, r2, r3, r4, r5, r6, r7, r8⟩ := SetT.relaid_found t1 (Array.map (fun x => x.fst) es1) (n := 5) (by rw [Array.size_map]; omega) (by decide)
    have some2 : ∀ k ∈ order.toList, (es1[k]?).isSome = true := fun k hk => by
     have := r6 k hk
     rw [xa1 (by omega)]; rfl
    have z2 : (order.filterMap (es1[·]?)).size = 5 := by
     rw [<- xaj, xb9, SetT.fm_all _ _ some2, xaj, r5]
    have i2 : ∀ i : Nat, (order.filterMap (es1[·]?)).toList[i]? = (order.toList[i]?).bind (es1[·]?) := fun i => by
     rw [xb9]; exact SetT.fm_get _ _ some2 i
    have m2 : ∀ e ∈ (order.filterMap (es1[·]?)).toList, e ∈ es1.toList := by
     intro e he
     rw [xb9] at he
     obtain ⟨k, _, hk⟩ := xby.mp he
     rw [<- xas] at hk
     exact xbn hk
    rw [if_neg (by decide), r1]
    refine wpAny_bind (wpAny_of_eq (a := (order.filterMap (es1[·]?), t2)) ?_ ?_)
    ·show (if ((order.filterMap (es1[·]?)).size != es1.size) = true then _ else _) = _
     rw [if_neg (by rw [z2, zz, h7.2]; decide)]
    ·generalize order.filterMap (es1[·]?) = es2 at z2 m2 i2
     refine wpAny_storeSet_of g1 rfl ?_ (xa4 (show es2.size <= 1000 by omega) (by decide))
     have g2 := zdY (es' := es2) (t' := t2) g1 rfl
     have sb2 : Heap.SameBut a h1 (h1.update a (Obj.putSet es2 t2)) := Heap.SameBut.update _ a _
     generalize h1.update a (Obj.putSet es2 t2) = h2 at g2 sb2
     refine wpAny_pure (q h2 _ es2 (ep + 1 + 1) t2 _ (sb1.trans sb2) ⟨g2, S.ex, rfl, r3, by rw [r4, z2], .inr ⟨r2, by omega⟩, r7, by rw [z2, xam, <- hn, h7.2], fun e he => ?_, fun ls hls => ?_, by rw [(SetT.relaid_flags r1).1]; exact p6.1, by rw [(SetT.relaid_flags r1).2]; exact p6.2⟩)
     ·obtain ⟨c, ls, e1, e2, e3⟩ := el1 e (m2 e he)
      exact ⟨c, ls, e1, zbV sb2 g1 rfl e2, e3⟩
     ·obtain ⟨c, j1, _, y1, y2, _⟩ := zq0 ls hls
      obtain ⟨i0, hi, e⟩ := xbe y1
      have hi1 : i0 < es1.toList.length := by rw [xdv] at hi; omega
      rw [List.getElem_zip] at e
      have e1 : es1[i0]? = some (tupleKeyHash (intKind prog w) ls, .ref c) := by rw [<- xas, xap hi1]; exact congrArg some (congrArg Prod.fst e)
      have eh : (Array.map (fun x => x.fst) es1).getD i0 0 = tupleKeyHash (intKind prog w) ls := by
       rw [xa2, Array.getElem?_map, e1]; rfl
      obtain ⟨i, j2, m, o1, o2, o3, o4, o5⟩ := r8 i0 (by rw [xaj, zz, h7.2] at hi1; omega)
      rw [eh] at o4 o5
      refine ⟨c, j2, m, ?_, zbV sb2 g1 rfl y2, o3, o4, o5⟩
      have f1 : es2.toList[i]? = some (tupleKeyHash (intKind prog w) ls, .ref c) := by
       rw [i2, xas, o1]; exact e1
      have f2 : t2.place.toList[i]? = some j2 := by rw [xas]; exact o2
      refine xbn (i := i) ?_
      rw [List.getElem?_zip_eq_some]
      exact ⟨f1, f2⟩
  ·rw [full, decide_eq_false hf, if_neg (by decide)]
   refine wpAny_pure (q h1 _ es1 (ep + 1) t1 _ sb1 ⟨g1, S.ex, rfl, p2, by rw [p3, zz], ?_, p4, by rw [zz, hn, xam], el1, zq0, p6.1, p6.2⟩)
   rw [p1, zz]
   rcases S.msk with ⟨x1, x2⟩ | ⟨x1, x2⟩
   ·exact .inl ⟨x1, by omega⟩
   ·exact .inr ⟨x1, by omega⟩
 refine wpAny_bind (wpAny_setState_of (s := { s with toks := s.toks + (ks.length + 1) }) S.get S.dat S.fits ?_)
 dsimp only
 by_cases hpl : (t.put j).fst.plain = true
 ·rw [if_pos hpl]
  refine wpAny_bind (zof (s := { s with toks := s.toks + (ks.length + 1) }) hk ?_)
  exact fin
 ·rw [if_neg hpl]
  refine wpAny_bind (wpAny_pure ?_)
  exact fin
end
end DL
namespace DL
open L2 PyProof.Rows
section
variable {prog : Program} {w : World} {P : Addr -> Prop} {A : Around} {h h' : Heap} {it l z : Addr} {items : Array Value}
theorem zjA.move (kp : ∀ b u, b ∉ [it] -> h.get? b = some u -> h'.get? b = some u) {i : Nat} (hi : h.IsListIter it l i) (hz : z ≠ it) {o : Obj} {es : Array (Int × Value)} {ep : Nat} {t : SetTable} {kss : List (List Int)} (S : zjA prog w P h z o es ep t kss) : zjA prog w P h' z o es ep t kss :=
 ⟨kp z _ (by simpa using hz) S.get, S.ex, S.dat, S.dm, S.pl, S.msk, S.srt, S.n, fun e he => by
  obtain ⟨c, ls, e1, e2, e3⟩ := S.el e he
  exact ⟨c, ls, e1, zc5 kp hi e2, e3⟩, fun ls hls => by
  obtain ⟨c, j, k, e1, e2, e3⟩ := S.all ls hls
  exact ⟨c, j, k, e1, zc5 kp hi e2, e3⟩, S.pln, S.ld⟩
def zk5 (kss : List (List Int)) (ks : List Int) : List (List Int) := if ks ∈ kss then kss else ks :: kss
def zgR (keys : Nat -> List Int) : Nat -> List (List Int)
 | 0 => []
 | i + 1 => zk5 (zgR keys i) (keys i)
theorem zs5 (kss : List (List Int)) (ks : List Int) : kss.length <= (zk5 kss ks).length := by unfold zk5; split <;> simp
theorem zoo (keys : Nat -> List Int) : ∀ (n i : Nat), i <= n -> (zgR keys i).length <= (zgR keys n).length
 | 0, i, h => by rw [show i = 0 by omega]; exact xai _
 | n + 1, i, h => by
  by_cases e : i = n + 1
  ·rw [e]; exact xai _
  ·exact xa4 (zoo keys n i (by omega)) (zs5 _ _)
def zv0 (prog : Program) (w : World) (P : Addr -> Prop) (h : Heap) (z : Addr) (keys : Nat -> List Int) (i : Nat) : Prop := ∃ o es ep t, zjA prog w P h z o es ep t (zgR keys i)
theorem zop {R : Result -> Shared -> Prop} (hh : A.handled = none) (hl : l ≠ it) (hz1 : z ≠ it) (hz2 : z ≠ l) (hu : A.units + 1 < cLine) (keys : Nat -> List Int) (h4 : (zgR keys items.size).length <= 18) :
  ∀ (k i : Nat) (s : Shared), items.size - i = k -> i <= items.size -> (s.heap.IsListIter it l i /\ s.heap.IsList l items) -> zv0 prog w P s.heap z keys i -> (∀ j, j < items.size -> ∃ b, items[j]? = some (.ref b) /\ IsTupleKey (intKind prog w) s.heap (keys j) b /\ P b) ->
   (∀ h2 tk, (∀ b u, b ≠ z -> b ≠ it -> s.heap.get? b = some u -> h2.get? b = some u) -> zv0 prog w P h2 z keys items.size -> R (.ok (.ret .none)) { s with heap := h2, toks := tk }) ->
   codeAny (model prog w) A (.builtin "set.update.loop" ⟨[.ref z, .ref it], []⟩) R s := by
 have W := Walks.list (prog := prog) (w := w) (A := A.in1) (by rw [Around.in1_handled]; exact hh) it l hl items
 intro k
 induction k with
 | zero =>
  intro i s hk hi st ⟨o, es, ep, t, S⟩ ht fin
  obtain rfl : i = items.size := by omega
  refine codeAny_builtin PyProof.Rows.F.entry_set_update_loop ?_
  rw [Around.under_plainId PyProof.Rows.F.plain_set_update_loop _]
  show wpAny _ A.in1 (pyNext (.ref it) >>= _) _ _ _
  refine wpAny_bind (W.done s _ _ st fun h2 tk kp => ?_)
  show wpAny _ A.in1 (ret Value.none) _ _ _
  exact wpAny_pure (fin h2 tk (fun b u _ b2 e => kp b u (by simpa using b2) e) ⟨o, es, ep, t, S.move kp st.1 hz1⟩)
 | succ k ih =>
  intro i s hk hi st ⟨o, es, ep, t, S⟩ ht fin
  have hlt : i < items.size := by omega
  refine codeAny_builtin PyProof.Rows.F.entry_set_update_loop ?_
  rw [Around.under_plainId PyProof.Rows.F.plain_set_update_loop _]
  show wpAny _ A.in1 (pyNext (.ref it) >>= _) _ _ _
  refine wpAny_bind (W.item i s _ _ hlt st fun v h1 tk hv st1 kp => ?_)
  obtain ⟨b, e1, e2, eP⟩ := ht i hlt
  rw [hv] at e1
  cases e1
  have S1 := S.move (prog := prog) (w := w) kp st.1 hz1
  have ht1 : ∀ j, j < items.size -> ∃ b, items[j]? = some (.ref b) /\ IsTupleKey (intKind prog w) h1 (keys j) b /\ P b := fun j hj => by
   obtain ⟨c, c1, c2, c3⟩ := ht j hj
   exact ⟨c, c1, zc5 kp st.1 c2, c3⟩
  show wpAny _ A.in1 (holding [Value.ref b] (setAdd z (.ref b)) >>= _) _ _ _
  have gz : z ∉ [it, l] := by
   rw [xak, xa9]
   rintro (q | q)
   ·exact hz1 q
   ·exact hz2 q
  by_cases hin : keys i ∈ zgR keys i
  ·refine wpAny_bind (wpAny_holding (zvY (s := { s with heap := h1, toks := tk }) S1 (zc5 kp st.1 e2) (by rw [Around.in1_units]; exact hu) hin fun tk2 => ?_))
   refine wpAny_pure ⟨plainId_quiet PyProof.Rows.F.plain_set_update_loop _, ih (i + 1) _ (by omega) hlt ?_ ⟨o, es, ep, t, ?_⟩ (fun j hj => ht1 j hj) fun h3 tk3 kp3 S3 => ?_⟩
   ·exact W.frame _ h1 h1 st1 fun b hb u e => e
   ·show zjA prog w P _ z o es ep t (zk5 (zgR keys i) (keys i))
    unfold zk5
    rw [if_pos hin]
    exact S1
   ·exact fin h3 tk3 (fun b u b1 b2 e => kp3 b u b1 b2 (kp b u (by simpa using b2) e)) S3
  ·have l3 : (zgR keys i).length <= 17 := by
    have := zoo keys items.size (i + 1) hlt
    have e : (zgR keys (i + 1)).length = (zgR keys i).length + 1 := by
     show (zk5 (zgR keys i) (keys i)).length = _
     unfold zk5
     rw [if_neg hin]; rfl
    omega
   refine wpAny_bind (wpAny_holding (zvZ (s := { s with heap := h1, toks := tk }) S1 (zc5 kp st.1 e2) (by rw [Around.in1_units]; exact hu) hin l3 eP fun h2 o2 es2 ep2 t2 tk2 sb S2 => ?_))
   refine wpAny_pure ⟨plainId_quiet PyProof.Rows.F.plain_set_update_loop _, ih (i + 1) _ (by omega) hlt ?_ ⟨o2, es2, ep2, t2, ?_⟩ (fun j hj => ?_) fun h3 tk3 kp3 S3 => ?_⟩
   ·exact W.frame _ h1 h2 st1 fun b hb u e => (sb.2 b fun q => gz (q ▸ hb)).trans e
   ·show zjA prog w P _ z o2 es2 ep2 t2 (zk5 (zgR keys i) (keys i))
    unfold zk5
    rw [if_neg hin]
    exact S2
   ·obtain ⟨c, c1, c2, c3⟩ := ht1 j hj
    exact ⟨c, c1, zbV sb S1.get S1.dat c2, c3⟩
   ·exact fin h3 tk3 (fun b u b1 b2 e => kp3 b u b1 b2 ((sb.2 b b1).trans (kp b u (by simpa using b2) e))) S3
theorem zp9 {keys : Nat -> List Int} (g : h.get? z = some (zaX (!w.params.followText "set-order"))) : zv0 prog w P h z keys 0 :=
 ⟨_, #[], 0, .fresh 0 0 (!w.params.followText "set-order"), g, ⟨rfl, rfl, rfl⟩, rfl, rfl, rfl, .inl ⟨rfl, by decide⟩, List.Pairwise.nil, rfl, (fun e he => by cases he), (fun ls hls => by cases hls), rfl, rfl⟩
theorem ze4 {E : Value -> Shared -> Prop} {s : Shared} (a : Value) {Q₁ : Value -> Shared -> Prop}
  (h : Q₁ (.ref s.heap.objs.size) { s with heap := s.heap.push (zaX (!w.params.followText "set-order")) }) :
  codeAny (model prog w) A (.call (.builtin "set.__new__") ⟨[.type "set", a], []⟩) (wants Q₁ E) s := by
 refine codeAny_of_tree ?_
 show wpAny _ A.in1 (do checkBuiltinCall "set.__new__" ⟨[.type "set", a], []⟩; again (.builtin "set.__new__" ⟨[.type "set", a], []⟩)) _ _ s
 refine wpAny_bind (wpAny_of_eq (F.newCall_set_1 a) (wpAny_pure ⟨plainId_quiet F.plain_set_new _, codeAny_builtin F.entry_set_new ?_⟩))
 rw [Around.under_plainId F.plain_set_new _]
 unfold Builtin.«set.__new__» Builtin.Frozenset.newClass
 have hsub := sub_set_self
 obtain ⟨hp, g, d, tk, os⟩ := s
 dsimp only
 wp_walk
 refine wpAny_askSetting (wpAny_pure ?_)
 dsimp only
 wp_walk
 exact h
set_option maxHeartbeats 3200000 in
theorem zoq {E : Value -> Shared -> Prop} {s : Shared} {Q : Value -> Shared -> Prop} (hh : A.handled = none) (hl : s.heap.IsList l items) (hu : A.units + 3 < cLine) (keys : Nat -> List Int) (h4 : (zgR keys items.size).length <= 18)
  (ht : ∀ j, j < items.size -> ∃ b, items[j]? = some (.ref b) /\ IsTupleKey (intKind prog w) s.heap (keys j) b /\ P b)
  (q : ∀ h2 tk, zv0 prog w P h2 s.heap.objs.size keys items.size -> (∀ b u, s.heap.get? b = some u -> h2.get? b = some u) -> Q (.ref s.heap.objs.size) { s with heap := h2, toks := tk }) : wpAny (model prog w) A (call (.type "set") [.ref l]) Q E s := by
 obtain ⟨mr1, mr2, mr3⟩ := PySem.F.called_set.mro
 have ma := PySem.F.called_set.made
 have su := PySem.F.called_set.sub
 have no := PySem.F.called_set.notType
 have cc := PySem.F.called_set.canCreate
 have ct := PySem.F.typeCall_set_1 (.ref l)
 refine wpAny_call (codeAny_of_tree ?_)
 show wpAny _ _ (callAny (.type "set") _) _ _ _
 refine wpAny_pure ⟨Code.quiet_builtin _ (by decide +kernel), codeAny_builtin F.entry_type_call ?_⟩
 rw [Around.under_plain (weight_type_call_type "set" [.ref l] []) rfl]
 repeat (any_goals (first | assumption | wp_step))
 refine codeAny_mono (ze4 (.ref l) (E := E) (Q₁ := fun ob s1 => ∃ led : Bool, led = (!w.params.followText "set-order") /\ ob = .ref s.heap.objs.size /\ s1 = { s with heap := s.heap.push (zaX led) }) ⟨_, rfl, rfl, rfl⟩) fun r s1 hr => ?_
 cases r with
 | error e => exact hr
 | ok fl =>
  cases fl with
  | ret ob =>
   obtain ⟨led, hled, rfl, rfl⟩ := hr
   have gS : (s.heap.push (zaX led)).get? s.heap.objs.size = some (zaX led) := xal _ rfl
   have tS : Shared.TypeIs { s with heap := s.heap.push (zaX led) } (.ref s.heap.objs.size) "set" := ⟨_, gS, rfl⟩
   have il := PySem.F.called_set.init.lookup
   have ib := PySem.F.called_set.init.bind (.ref s.heap.objs.size)
   repeat (any_goals (first | assumption | wp_step))
   refine codeAny_mono (codeAny_call_builtin (R := wants (fun r s2 => r = .none /\ ∃ h2 tk, s2 = { s with heap := h2, toks := tk } /\ zv0 prog w P h2 s.heap.objs.size keys items.size /\ (∀ b u, s.heap.get? b = some u -> h2.get? b = some u)) E) PySem.F.called_set.init.plain PySem.F.entry_set_init (check_set_init_1 tS ?_)) fun r2 s2 hr2 => ?_
   ·obtain ⟨⟨c1, c2, c3, c4⟩, gl, cl, nl, dl⟩ := hl
    simp only at cl dl
    subst cl dl
    have gl1 : (s.heap.push (zaX led)).get? l = some { cls := .type "list", dict := c2, data := .seq items nl, slots := c4 } := xaa _ gl
    have ls := PySem.F.sub_list_set
    have lf := PySem.F.sub_list_frozenset
    have nd : (Value.type "list" == Value.type "dict") = false := by decide
    have il1 : (s.heap.push (zaX led)).IsList l items := ⟨_, gl1, rfl, nl, rfl⟩
    unfold Builtin.«set.__init__» noKeywords Builtin.Frozenset.updateFrom
    generalize hPI : pyIter = PI
    wp_walk
    subst hPI
    refine wpAny_pyIter_list il1 ?_
    refine wpAny_bind (wpAny_runValue ?_)
    have lS : l < s.heap.objs.size := xaf gl
    refine zop (P := P) (A := A.in1.in1) (it := (s.heap.push (zaX led)).objs.size) (l := l) (z := s.heap.objs.size) (items := items) hh ?_ ?_ ?_ hu keys h4 items.size 0 _ (by omega) (xb0 _) ⟨⟨_, xal _ rfl, rfl, rfl⟩, il1.push _⟩ (zp9 (by rw [<- hled]; exact xaa _ gS)) ?_ ?_
    ·rw [xbq]; exact xat (xdg lS)
    ·rw [xbq]; exact xat (xcu _)
    ·exact xci lS
    ·intro j hj
     obtain ⟨b, b1, b2, b3⟩ := ht j hj
     obtain ⟨ob, its, m, g1, g2, g3, g4⟩ := b2
     exact ⟨b, b1, ⟨ob, its, m, xaa _ (xaa _ g1), g2, g3, g4⟩, b3⟩
    ·intro h2 tk kp S2
     show wpAny _ _ _ _ _ _
     refine wpAny_pure ?_
     show wpAny _ _ (ret Value.none) _ _ _
     refine wpAny_pure ⟨rfl, h2, tk, rfl, S2, fun b u e => ?_⟩
     have lb := xaf e
     refine kp b u (xat lb) ?_ (xaa _ (xaa _ e))
     rw [xbq]; exact xat (xdg lb)
   ·cases r2 with
    | error e => exact hr2
    | ok fl2 =>
     cases fl2 with
     | ret r =>
      obtain ⟨rfl, h2, tk, rfl, S2, k2⟩ := hr2
      repeat (any_goals (first | assumption | wp_step))
      exact q _ _ S2 k2
     | _ => exact hr2.elim
  | _ => exact hr.elim
end
end DL
namespace DL
open L2 PyProof.Rows
section
variable {X : Cx} {E : XK}
def zdx (kss : List (List Int)) : List (List Int) := zgR (fun j => kss.getD j []) kss.length
end
end DL
end
namespace L2
open PySem.Spec PyProof.Rows
def off (H : Hp) (x : Addr) : Hp := fun b => if b = x then none else H b
end L2
namespace DL
open L2 PyProof.Rows
section
variable {P : Program} {w : World} {K : xFg} {mg : Str -> Option Value} {base : Heap} {x : Str} {st : Stmt} {f : Addr} {fd : FuncData} {N ps : List Str} {k n nN : Nat} {own' : List Nat} {body : DSt -> R Out}
structure FD (K : xFg) (x : Str) (st : Stmt) : Prop where
 ex : ∃ f fd, PySem.W.nsIn K mainGlobals x = some (some (.ref f)) /\ Fun K x x st f fd
theorem FD.mk' {oc : Value} {od an : Option Addr} {osl : Array (Option Value)} {kV doc pm cdv ct : Value} (a : PySem.W.nsIn K mainGlobals x = some (some (.ref f))) (l : K.lookup f = some ⟨oc, od, .func (PySem.W.fnOf x x (zcY st) (zbx st) (zaf st) .none kV doc pm an cdv ct), osl⟩)
  (c : PySem.W.codeIn K cdv x = true) (k : PySem.W.keepIn K (.ref f) = true) : FD K x st := ⟨f, _, a, zqL l c k⟩
structure FA (K : xFg) (mg : Str -> Option Value) (x : Str) (st : Stmt) (ps : List Str) (f : Addr) (fd : FuncData) : Prop where
 F : Fun K x x st f fd
 m : mg x = some (.ref f)
 b : zhZ K fd ps []
theorem FD.go {h : Heap} (d : FD K x st) (X : K.In h) (G : h.Ns mainGlobals mg) (ps : List Str)
  (b : ∀ (kV doc pm : Value) (an : Option Addr) (cdv ct : Value) (us : List Value), us.length = ps.length -> bindArgs (PySem.W.fnOf x x (zcY st) (zbx st) (zaf st) .none kV doc pm an cdv ct) ⟨us, []⟩ = pure (ps.zip us)) : ∃ f fd, FA K mg x st ps f fd := by
 obtain ⟨f, fd, a, F⟩ := d.ex
 exact ⟨f, fd, F, xcc X G a, F.binds b⟩
abbrev XX (P : Program) (w : World) (K : xFg) (mg : Str -> Option Value) (base : Heap) (x : Str) (st : Stmt) (f : Addr) (N : List Str) (k : Nat) (D : Cx -> XK -> Prop) : Prop :=
 ∀ cdv A outer s H E, XC (zgl (CXe P w) P w K mg base N x (zaf st) f cdv A outer s H E) E k -> XL (zgl (CXe P w) P w K mg base N x (zaf st) f cdv A outer s H E) -> N.Nodup -> D (zgl (CXe P w) P w K mg base N x (zaf st) f cdv A outer s H E) E
theorem FA.ok (F : FA K mg x st ps f fd) (S : zdK N ps (zaf st)) (hn : ps.length = n) (hN : N.length = nN)
  (hb : XX P w K mg base x st f N k fun X E => DSs X E [] own' [] (zbx st) body) : zaA P w K mg base (k + 1) x (fnM n nN body) :=
 zaA.mk' F.F S F.m F.b hn hN fun X E hX C L => by
  obtain ⟨cdv, A, outer, s, H, rfl⟩ := hX
  exact hb cdv A outer s H E C L S.nd
end
end DL
namespace DL
open L2 PyProof.Rows
theorem zba : Slot "set_iterator" "__next__" "set_iterator.__next__" :=
 .of (owner := "set_iterator") (n := "__next__") (by rw [typeLookup_type, builtinLookup_eq_fast]; kernel_rfl) (by decide +kernel) (by decide +kernel) (by decide +kernel)
  (by first | exact .inl (by decide +kernel) | exact .inr (by decide +kernel)) (by rw [isSubtype_type]; kernel_rfl)
theorem zdZ : entryFor table "set_iterator.__next__" = some Builtin.«set_iterator.__next__» := entryFor_of_tree (by kernel_rfl)
theorem zeM (a : Value) : argsOk "set_iterator.__next__" ⟨[a], []⟩ := by unfold argsOk; kernel_rfl
abbrev siO (z : Addr) (slot i n ep : Nat) : Obj := { cls := .type "set_iterator", dict := none, data := .fields #[rawInt slot, rawInt i, .ref z, rawInt n, rawInt ep] }
def zbk (w : World) (z : Addr) (ep : Nat) (es : Array (Int × Value)) : Array (Int × Value) := if w.params.followText "set-order" = true then pickOrder (w.params.setOrder z ep) es else es
section
variable {prog : Program} {w : World} {A : Around} {E : Value -> Shared -> Prop} {s : Shared} {I z : Addr} {o : Obj} {es : Array (Int × Value)} {ep slot i n : Nat} {t : SetTable} {x : Int × Value}
theorem zqa {Q : Option (Value × Nat) -> Shared -> Prop} (hz : s.heap.get? z = some o) (od : o.data = .set es ep t) (hf : t.fits es.size = true) (hp : t.plain = true) (hld : t.led = !w.params.followText "set-order")
  (hs : w.params.followText "set-order" = true \/ SetTable.below t.place slot = i) (hx : (zbk w z ep es)[i]? = some x)
  (hQ : ∀ slot', (w.params.followText "set-order" = true \/ ∃ j, t.place[i]? = some j /\ slot' = j + 1) -> Q (some (x.2, slot')) s) : wpAny (model prog w) A (setNext z slot i ep) Q E s := by
 unfold setNext
 refine wpAny_bind (wpAny_setState_of hz od hf ?_)
 dsimp only
 unfold setsByText
 refine wpAny_bind (wpAny_bind (wpAny_askSetting (wpAny_pure ?_)))
 dsimp only
 unfold zbk at hx
 change wpAny (model prog w) A (if w.params.followText "set-order" = true then _ else _) Q E s
 by_cases hb : w.params.followText "set-order" = true
 ·rw [if_pos hb] at hx
  rw [if_pos hb, if_neg (by simp)]
  unfold setWalk
  refine wpAny_bind (wpAny_bind (wpAny_setState_of hz od hf ?_))
  dsimp only
  unfold setsByText
  refine wpAny_bind (wpAny_bind (wpAny_askSetting (wpAny_pure ?_)))
  dsimp only
  change wpAny (model prog w) A (if w.params.followText "set-order" = true then _ else _) _ E s
  rw [if_pos hb]
  refine wpAny_bind (wpAny_askSetting (wpAny_pure (wpAny_pure ?_)))
  change Q (((pickOrder (w.params.setOrder z ep) es)[i]?).map fun e => (e.2, slot)) s
  rw [hx]
  exact hQ slot (.inl hb)
 ·rw [if_neg hb] at hx
  rw [if_neg hb]
  have hb' : w.params.followText "set-order" = false := by simpa using hb
  have hi : SetTable.below t.place slot = i := hs.resolve_left hb
  have hlt : i < es.size := (xa3.mp hx).1
  have hpl : t.place.size = es.size := by
   unfold SetTable.fits at hf
   rw [xax] at hf
   exact eq_of_beq hf.1
  obtain ⟨j, hj⟩ : ∃ j, t.place[i]? = some j := ⟨t.place[i]'(by omega), xa1 (by omega)⟩
  refine wpAny_ite ?_
  split
  ·rename_i hd
   have hd : (!t.plain && decide (es.size > 1)) = true := hd
   rw [hp] at hd
   cases hd
  refine wpAny_bind ?_
  change wpAny (model prog w) A (if (!t.led && !es.isEmpty) = true then unsupported "set:maker-not-led" else pure ()) _ E s
  rw [if_neg (by rw [hld, hb']; simp)]
  refine wpAny_pure (wpAny_pure ?_)
  rw [hi, hx, hj]
  exact hQ (j + 1) (.inr ⟨j, hj, rfl⟩)
theorem zqb {Q : Option (Value × Nat) -> Shared -> Prop} (hz : s.heap.get? z = some o) (od : o.data = .set es ep t) (hf : t.fits es.size = true) (hn : es.size = n) (hp : t.plain = true) (hld : t.led = !w.params.followText "set-order")
  (hs : w.params.followText "set-order" = true \/ SetTable.below t.place slot = n) (ho : (zbk w z ep es).size = n) (hQ : Q none s) : wpAny (model prog w) A (setNext z slot n ep) Q E s := by
 unfold setNext
 refine wpAny_bind (wpAny_setState_of hz od hf ?_)
 dsimp only
 unfold setsByText
 refine wpAny_bind (wpAny_bind (wpAny_askSetting (wpAny_pure ?_)))
 dsimp only
 unfold zbk at ho
 change wpAny (model prog w) A (if w.params.followText "set-order" = true then _ else _) Q E s
 by_cases hb : w.params.followText "set-order" = true
 ·rw [if_pos hb] at ho
  rw [if_pos hb, if_neg (by simp)]
  unfold setWalk
  refine wpAny_bind (wpAny_bind (wpAny_setState_of hz od hf ?_))
  dsimp only
  unfold setsByText
  refine wpAny_bind (wpAny_bind (wpAny_askSetting (wpAny_pure ?_)))
  dsimp only
  change wpAny (model prog w) A (if w.params.followText "set-order" = true then _ else _) _ E s
  rw [if_pos hb]
  refine wpAny_bind (wpAny_askSetting (wpAny_pure (wpAny_pure ?_)))
  change Q (((pickOrder (w.params.setOrder z ep) es)[n]?).map fun e => (e.2, slot)) s
  rw [xcp (by omega)]
  exact hQ
 ·rw [if_neg hb]
  have hb' : w.params.followText "set-order" = false := by simpa using hb
  have hi : SetTable.below t.place slot = n := hs.resolve_left hb
  refine wpAny_ite ?_
  split
  ·rename_i hd
   have hd : (!t.plain && decide (es.size > 1)) = true := hd
   rw [hp] at hd
   cases hd
  refine wpAny_bind ?_
  change wpAny (model prog w) A (if (!t.led && !es.isEmpty) = true then unsupported "set:maker-not-led" else pure ()) _ E s
  rw [if_neg (by rw [hld, hb']; simp)]
  refine wpAny_pure (wpAny_pure ?_)
  rw [hi, xcp (by omega)]
  exact hQ
theorem zs6 {Q : Option Value -> Shared -> Prop} (hI : s.heap.get? I = some (siO z slot i n ep)) (hz : s.heap.get? z = some o) (od : o.data = .set es ep t) (hf : t.fits es.size = true) (hn : es.size = n) (hp : t.plain = true) (hld : t.led = !w.params.followText "set-order")
  (hs : w.params.followText "set-order" = true \/ SetTable.below t.place slot = i) (hx : (zbk w z ep es)[i]? = some x)
  (hQ : ∀ h' slot', h'.get? I = some (siO z slot' (i + 1) n ep) -> Heap.SameBut I s.heap h' -> (w.params.followText "set-order" = true \/ ∃ j, t.place[i]? = some j /\ slot' = j + 1) -> Q (some x.2) { s with heap := h' }) : wpAny (model prog w) A (pyNext (.ref I)) Q E s := by
 have hT : s.TypeIs (.ref I) "set_iterator" := ⟨_, hI, rfl⟩
 unfold pyNext
 refine wpAny_bind (wpAny_attempt (wpAny_callSpecial?_slot (name := Str.ofString "__next__") hT zba (wpAny_call_entry zba hT zdZ ?_ (zeM _))))
 unfold Builtin.«set_iterator.__next__»
 refine wpAny_bind (wpAny_of_eq (a := (Value.ref I, [])) rfl ?_)
 dsimp only
 refine wpAny_bind (wpAny_fieldsOf hI rfl ?_)
 change wpAny (model prog w) A.in1 (setEntries z >>= _) _ _ s
 refine wpAny_bind (wpAny_setEntries_of hz od hf ?_)
 rw [if_neg (by rw [hn]; simp)]
 try refine wpAny_bind (wpAny_pure ?_)
 change wpAny (model prog w) A.in1 (setNext z slot i ep >>= _) _ _ s
 refine wpAny_bind (zqa hz od hf hp hld hs hx fun slot' hs' => ?_)
 dsimp only
 refine wpAny_bind (wpAny_setField_rec hI (by simp) fun h1 g1 b1 => ?_)
 refine wpAny_bind (wpAny_setField_rec (s := { s with heap := h1 }) g1 (by simp) fun h2 g2 b2 => ?_)
 refine wpAny_pure ⟨_, rfl, wpAny_pure (hQ h2 slot' ?_ (b1.trans b2) hs')⟩
 rw [g2]
 rfl
theorem zv1 {Q : Option Value -> Shared -> Prop} (hh : A.handled = none) (hI : s.heap.get? I = some (siO z slot n n ep)) (hz : s.heap.get? z = some o) (od : o.data = .set es ep t) (hf : t.fits es.size = true) (hn : es.size = n) (hp : t.plain = true) (hld : t.led = !w.params.followText "set-order")
  (hs : w.params.followText "set-order" = true \/ SetTable.below t.place slot = n) (ho : (zbk w z ep es).size = n)
  (hQ : ∀ h', Heap.ExtBut I s.heap h' -> Q none { s with heap := h' }) : wpAny (model prog w) A (pyNext (.ref I)) Q E s := by
 have hT : s.TypeIs (.ref I) "set_iterator" := ⟨_, hI, rfl⟩
 unfold pyNext
 refine wpAny_bind (wpAny_attempt (wpAny_callSpecial?_slot (name := Str.ofString "__next__") hT zba (wpAny_call_entry zba hT zdZ ?_ (zeM _))))
 unfold Builtin.«set_iterator.__next__»
 refine wpAny_bind (wpAny_of_eq (a := (Value.ref I, [])) rfl ?_)
 dsimp only
 refine wpAny_bind (wpAny_fieldsOf hI rfl ?_)
 change wpAny (model prog w) A.in1 (setEntries z >>= _) _ _ s
 refine wpAny_bind (wpAny_setEntries_of hz od hf ?_)
 rw [if_neg (by rw [hn]; simp)]
 try refine wpAny_bind (wpAny_pure ?_)
 change wpAny (model prog w) A.in1 (setNext z slot n ep >>= _) _ _ s
 refine wpAny_bind (zqb hz od hf hn hp hld hs ho ?_)
 dsimp only
 refine wpAny_bind (wpAny_setField_rec hI (by simp) fun h1 g1 b1 => ?_)
 refine wpAny_bind ?_
 simp only [newExc, newTuple]
 refine wpAny_bind (wpAny_newObj_type ?_ (by size_fits))
 refine wpAny_bind (m := firstArgMember _ _) (wpAny_of_eq (a := Value.none) (by first | rfl | (simp only [firstArgMember]; rfl)) ?_)
 refine wpAny_newObj_type ?_ (by size_fits)
 simp only [raiseNew]
 refine wpAny_bind (wpAny_handled ?_)
 first | rw [show A.in1.handled = none from hh] | rw [hh]
 refine wpAny_bind (wpAny_pure (wpAny_throw ?_))
 refine wpAny_bind (wpAny_isInstance (T := "StopIteration") (b := true) ⟨_, xal _ rfl, rfl⟩ isSubtype_stop ?_)
 exact wpAny_pure (hQ _ ((b1.extBut.push _).push _))
theorem zgo : entryFor table "set.__iter__" = some Builtin.«frozenset.__iter__» := entryFor_alias (id' := "frozenset.__iter__") (by kernel_rfl) rfl (by decide +kernel) (by kernel_rfl)
theorem zlR {Q : Value -> Shared -> Prop} (hz : s.heap.get? z = some o) (ex : o.ExactSet) (od : o.data = .set es ep t) (hf : t.fits es.size = true) (hn : es.size = n) (hp : t.plain = true)
  (hQ : Q (.ref s.heap.objs.size) { s with heap := s.heap.push (siO z 0 0 n ep) }) : wpAny (model prog w) A (pyIter (.ref z)) Q E s := by
 have hT : s.TypeIs (.ref z) "set" := ⟨_, hz, ex.1⟩
 refine wpAny_pyIter_slot hT PySem.F.slot_set_iter (wpAny_call_entry PySem.F.slot_set_iter hT zgo ?_ (PySem.F.args_set_iter_1 _))
 unfold Builtin.«frozenset.__iter__»
 refine wpAny_bind (wpAny_of_eq (a := z) rfl ?_)
 unfold Builtin.Frozenset.sizeOf
 refine wpAny_bind (wpAny_bind (wpAny_setEntries_of hz od hf (wpAny_pure ?_)))
 unfold setDrawn
 refine wpAny_bind (wpAny_bind ?_)
 refine wpAny_setState_of hz od hf ?_
 dsimp only
 unfold setsByText
 refine wpAny_bind (wpAny_bind (wpAny_askSetting (wpAny_pure (wpAny_pure ?_))))
 rw [show (!((model prog w).w.params.followText "set-order") && _) = false from by
  show (!w.params.followText "set-order" && (!t.plain && decide (es.size > 1))) = false
  rw [hp]; simp]
 try dsimp only
 rw [if_neg (by decide)]
 try refine wpAny_bind (wpAny_pure ?_)
 unfold setEpoch
 refine wpAny_bind (wpAny_bind (wpAny_setState_of hz od hf (wpAny_pure ?_)))
 dsimp only
 unfold newFields
 refine wpAny_bind (wpAny_newObj_type ?_ (by size_fits))
 refine wpAny_pure ⟨_, rfl, "set_iterator", _, ⟨_, xal _ rfl, rfl⟩, zba.lookup, ?_⟩
 rw [hn]
 exact hQ
end
end DL
namespace DL
open L2 PyProof.Rows
theorem zeN : Slot "set_iterator" "__iter__" "set_iterator.__iter__" :=
 .of (owner := "set_iterator") (n := "__iter__") (by rw [typeLookup_type, builtinLookup_eq_fast]; kernel_rfl) (by decide +kernel) (by decide +kernel) (by decide +kernel)
  (by first | exact .inl (by decide +kernel) | exact .inr (by decide +kernel)) (by rw [isSubtype_type]; kernel_rfl)
theorem zhv : entryFor table "set_iterator.__iter__" = some Builtin.«dict_keyiterator.__iter__» := entryFor_alias (id' := "dict_keyiterator.__iter__") (by kernel_rfl) rfl (by decide +kernel) (by kernel_rfl)
theorem ziN (a : Value) : argsOk "set_iterator.__iter__" ⟨[a], []⟩ := by unfold argsOk; kernel_rfl
theorem ziO {α : Type} (next : Nat -> Nat) : ∀ (n k : Nat) (left : List α) (out : Array α), left.length = n -> (pickOrder.go next n k left out).toList.Perm (out.toList ++ left)
 | 0, k, left, out, h => by
  rw [List.eq_nil_of_length_eq_zero h, xc3]
  unfold pickOrder.go
  exact List.Perm.refl _
 | n + 1, k, left, out, h => by
  unfold pickOrder.go
  have hl : next k % left.length < left.length := xcv _ (by omega)
  rw [xap hl]
  dsimp only
  have ih := ziO next n (k + 1) (left.eraseIdx (next k % left.length)) (out.push left[next k % left.length]) (by rw [List.length_eraseIdx_of_lt hl]; omega)
  refine ih.trans ?_
  rw [Array.toList_push, List.append_assoc]
  refine List.Perm.append_left _ ?_
  have e : left = left.take (next k % left.length) ++ left[next k % left.length] :: left.drop (next k % left.length + 1) := by
   rw [<- xb4 hl, xdp]
  have p := List.perm_middle (a := left[next k % left.length]) (l₁ := left.take (next k % left.length)) (l₂ := left.drop (next k % left.length + 1))
  rw [<- e] at p
  rw [xcl, List.singleton_append]
  exact p.symm
theorem zgS (w : World) (z : Addr) (ep : Nat) (es : Array (Int × Value)) : (zbk w z ep es).toList.Perm es.toList := by
 unfold zbk
 split
 ·unfold pickOrder
  have := ziO (w.params.setOrder z ep) es.size 0 es.toList #[] (by simp)
  simpa using this
 ·exact List.Perm.refl _
theorem zeD (w : World) (z : Addr) (ep : Nat) (es : Array (Int × Value)) : (zbk w z ep es).size = es.size := by
 have := (zgS w z ep es).length_eq
 simpa using this
theorem zlS {xs : Array Nat} (hs : xs.toList.Pairwise (· < ·)) : SetTable.below xs 0 = 0 := by
 obtain ⟨h1, h2, h3⟩ := SetT.below_ok 0 hs
 refine xar fun h => ?_
 have hl : 0 < xs.size := by omega
 have := h2 0 xs[0] (by omega) (by simp [hl])
 omega
theorem zlT {xs : Array Nat} (hs : xs.toList.Pairwise (· < ·)) {i j : Nat} (hj : xs[i]? = some j) : SetTable.below xs (j + 1) = i + 1 := by
 obtain ⟨h1, h2, h3⟩ := SetT.below_ok (j + 1) hs
 have hi : i < xs.size := (xa3.mp hj).1
 have a : i < SetTable.below xs (j + 1) := xar fun h => by
  have := h3 i j (by omega) hj
  omega
 refine xar fun h => ?_
 have hi1 : i + 1 < xs.size := by omega
 have := h2 (i + 1) xs[i + 1] (by omega) (by simp [hi1])
 have := SetT.srt_lt hs (xcu i) hj (show xs[i + 1]? = some xs[i + 1] by simp [hi1])
 omega
section
variable {prog : Program} {w : World} {A : Around} {I z : Addr} {o : Obj} {es : Array (Int × Value)} {ep n : Nat} {t : SetTable}
theorem zor (hh : A.handled = none) (hne : z ≠ I) (od : o.data = .set es ep t) (hf : t.fits es.size = true) (hn : es.size = n) (hp : t.plain = true) (hld : t.led = !w.params.followText "set-order") (srt : t.place.toList.Pairwise (· < ·)) :
  Walks prog w A I [I, z] [I] n (fun i v => ∃ e, (zbk w z ep es)[i]? = some e /\ v = e.2) (fun i h => ∃ slot, h.get? I = some (siO z slot i n ep) /\ (w.params.followText "set-order" = true \/ SetTable.below t.place slot = i) /\ h.get? z = some o) where
 sub := fun b hb => by simp at hb; simp [hb]
 frame := fun _ _ _ ⟨slot, g1, g2, g3⟩ hk => ⟨slot, hk I (by simp) _ g1, g2, hk z (by simp) _ g3⟩
 item := fun i s Q E hi ⟨slot, g1, g2, g3⟩ hQ => by
  have hl : i < (zbk w z ep es).size := by rw [zeD]; omega
  refine zs6 g1 g3 od hf hn hp hld g2 (xa1 hl) fun h' slot' a1 a2 a3 => ?_
  refine hQ _ h' s.toks ⟨_, xa1 hl, rfl⟩ ⟨slot', a1, ?_, (a2.2 z hne).trans g3⟩ fun b o hb e => a2.extBut b o (fun h => hb (by simp [h])) e
  rcases a3 with a3 | ⟨j, hj, rfl⟩
  ·exact .inl a3
  ·exact .inr (zlT srt hj)
 done := fun s Q E ⟨slot, g1, g2, g3⟩ hQ => zv1 hh g1 g3 od hf hn hp hld g2 (by rw [zeD]; exact hn) fun h' he => hQ h' s.toks fun b o hb e => he b o (fun h => hb (by simp [h])) e
 self := fun i s Q E ⟨slot, g1, g2, g3⟩ hQ => by
  have hT : s.TypeIs (.ref I) "set_iterator" := ⟨_, g1, rfl⟩
  refine wpAny_pyIter_slot hT zeN (wpAny_call_entry zeN hT zhv ?_ (ziN _))
  show wpAny _ _ (ret (.ref I)) _ _ s
  exact wpAny_pure ⟨_, rfl, "set_iterator", _, hT, zba.lookup, hQ⟩
end
end DL
namespace DL
open L2 PyProof.Rows PySem.W PySem.Spec
section
variable {prog : Program} {w : World} {A : Around} {E : Value -> Shared -> Prop} {s : Shared} {r : Addr} {Q : Bool -> Shared -> Prop}
theorem zqc (hT : s.TypeIs (.ref r) "set") (h : Q false s) : wpAny (model prog w) A (Builtin.List.listLengthHint (.ref r)) Q E s := by
 unfold Builtin.List.listLengthHint
 refine wpAny_bind (wpAny_specialOf hT PySem.F.slot_set_len.lookup ?_)
 generalize hid : ("set.__len__" : String) = id0
 wp_delta
 rw [show splitId id0 = some ("set", "__len__") from by subst hid; decide +kernel]
 subst hid
 refine wpAny_bind (wpAny_isInstance (T := "set") (b := true) hT (by rw [isSubtype_type]; kernel_rfl) ?_)
 refine wpAny_ite_split (fun hab => absurd hab (by decide)) (fun _ => ?_)
 refine wpAny_ite_split (fun _ => ?_) (fun hab => absurd (by decide +kernel) hab)
 refine wpAny_bind (wpAny_typeOf hT ?_)
 exact wpAny_pure h
end
section
variable {prog : Program} {w : World} {z : Addr} {o : Obj} {es : Array (Int × Value)} {ep n : Nat} {t : SetTable}
theorem zs7 (ex : o.ExactSet) (od : o.data = .set es ep t) (hf : t.fits es.size = true) (hn : es.size = n) (hp : t.plain = true) (hld : t.led = !w.params.followText "set-order") (srt : t.place.toList.Pairwise (· < ·)) :
  KdlSrc prog w "set" z z n (fun i v => ∃ e, (zbk w z ep es)[i]? = some e /\ v = e.2) (fun h => h.get? z = some o) where
 type := fun s hm => ⟨_, hm, ex.1⟩
 there := fun h hm => ⟨xaf hm, xaf hm⟩
 keep := fun h h' hm hk => hk z (.inl rfl) _ hm
 notList := by decide
 notTuple := by decide
 hint := fun A E s Q hm hq => zqc ⟨_, hm, ex.1⟩ hq
 iter := fun A s hh hm => ⟨siO z 0 0 n ep, _, (fun E Q hq => zlR hm ex od hf hn hp hq), zor hh (xat (xaf hm)) od hf hn hp hld srt, ⟨0, xal _ rfl, .inr (zlS srt), xaa _ hm⟩⟩
end
end DL
namespace DL
open PySem.W PyProof.Rows
def TW (n : Nat) (lt : Nat -> Nat -> Bool) {α : Type} : KasT α -> (α -> Prop) -> Prop
 | .ret a, P => P a
 | .ask i j k, P => i < n /\ j < n /\ TW n lt (k (lt i j)) P
section
variable {n : Nat} {lt : Nat -> Nat -> Bool}
theorem TW.bind {α β : Type} {f : α -> KasT β} {P : β -> Prop} : ∀ (t : KasT α), TW n lt t (fun a => TW n lt (f a) P) -> TW n lt (t.bind f) P
 | .ret _, h => h
 | .ask i j k, h => ⟨h.1, h.2.1, TW.bind (k (lt i j)) h.2.2⟩
theorem TW.mono {α : Type} {P P' : α -> Prop} (h : ∀ a, P a -> P' a) : ∀ (t : KasT α), TW n lt t P -> TW n lt t P'
 | .ret a, q => h a q
 | .ask i j k, q => ⟨q.1, q.2.1, TW.mono h (k (lt i j)) q.2.2⟩
theorem TW.wp {α : Type} {cmp : Nat -> Nat -> (Bool -> Shared -> Prop) -> Shared -> Prop} {s : Shared} {P : α -> Prop} {Q : α -> Shared -> Prop} (hc : ∀ i j (C : Bool -> Shared -> Prop), i < n -> j < n -> C (lt i j) s -> cmp i j C s) (h : ∀ a, P a -> Q a s) : ∀ (t : KasT α), TW n lt t P -> t.kasWp cmp Q s
 | .ret a, q => h a q
 | .ask i j k, q => hc i j _ q.1 q.2.1 (TW.wp hc h (k (lt i j)) q.2.2)
structure zo6 (n : Nat) (lt : Nat -> Nat -> Bool) : Prop where
 tot : ∀ i j, i < n -> j < n -> i ≠ j -> lt i j = false -> lt j i = true
 asy : ∀ i j, i < n -> j < n -> lt i j = true -> lt j i = false
 trn : ∀ i j k, i < n -> j < n -> k < n -> lt i j = true -> lt j k = true -> lt i k = true
abbrev sg (p : Array Nat) (i : Nat) : Nat := p.getD i 0
structure SIp (n : Nat) (p : Array Nat) : Prop where
 perm : p.toList.Perm (List.range n)
theorem SIp.size {p : Array Nat} (h : SIp n p) : p.size = n := by have := h.perm.length_eq; simpa using this
theorem zs8 {p : Array Nat} {i : Nat} (hi : i < p.size) : p[i]? = some (sg p i) := by simp [sg, hi]
theorem zqd {p q : Array Nat} {i j : Nat} (h : p[i]? = q[j]?) : sg p i = sg q j := by
 simp only [sg, xa2, h]
theorem SIp.bnd {p : Array Nat} (h : SIp n p) {i : Nat} (hi : i < n) : sg p i < n := by
 have e := zs8 (p := p) (i := i) (by rw [h.size]; exact hi)
 have m : sg p i ∈ p.toList := by
  rw [<- xas] at e
  exact xbn e
 exact xaz.mp (h.perm.mem_iff.mp m)
theorem SIp.inj {p : Array Nat} (h : SIp n p) {i j : Nat} (hi : i < n) (hj : j < n) (e : i ≠ j) : sg p i ≠ sg p j := fun q => by
 have nd : p.toList.Nodup := h.perm.nodup_iff.mpr List.nodup_range
 have go : ∀ i j, i < j -> j < n -> sg p i ≠ sg p j := fun i j hij hj q => by
  have h1 := zs8 (p := p) (i := i) (by rw [h.size]; omega)
  have h2 := zs8 (p := p) (i := j) (by rw [h.size]; omega)
  rw [<- xas] at h1 h2
  obtain ⟨l1, e1⟩ := xah.mp h1
  obtain ⟨l2, e2⟩ := xah.mp h2
  have := xcf.mp nd i j l1 l2 hij
  rw [e1, e2] at this
  exact this q
 rcases Nat.lt_or_gt_of_ne e with l | l
 ·exact go i j l hj q
 ·exact go j i l hi q.symm
theorem SIp.rev {p : Array Nat} (h : SIp n p) (i j : Nat) : SIp n (kas_rev p i j) := ⟨(mirror_perm p i j _).toList.trans h.perm⟩
theorem SIp.bub {p : Array Nat} (h : SIp n p) (i j : Nat) : SIp n (bubble p i j) := ⟨(bubble_perm p i j).toList.trans h.perm⟩
def Up (lt : Nat -> Nat -> Bool) (p : Array Nat) (m : Nat) : Prop := ∀ i j, i < j -> j < m -> lt (sg p i) (sg p j) = true
def Dn (lt : Nat -> Nat -> Bool) (p : Array Nat) (m : Nat) : Prop := ∀ i j, i < j -> j < m -> lt (sg p j) (sg p i) = true
theorem Up.step {p : Array Nat} {m : Nat} (O : zo6 n lt) (h : SIp n p) (u : Up lt p m) (hm : m < n) (h1 : 1 <= m) (l : lt (sg p (m - 1)) (sg p m) = true) : Up lt p (m + 1) := by
 intro i j hij hj
 by_cases e : j = m
 ·subst e
  by_cases e2 : i = j - 1
  ·rw [e2]; exact l
  ·exact O.trn _ (sg p (j - 1)) _ (h.bnd (by omega)) (h.bnd (by omega)) (h.bnd (by omega)) (u i (j - 1) (by omega) (by omega)) l
 ·exact u i j hij (by omega)
theorem Dn.step {p : Array Nat} {m : Nat} (O : zo6 n lt) (h : SIp n p) (u : Dn lt p m) (hm : m < n) (h1 : 1 <= m) (l : lt (sg p m) (sg p (m - 1)) = true) : Dn lt p (m + 1) := by
 intro i j hij hj
 by_cases e : j = m
 ·subst e
  by_cases e2 : i = j - 1
  ·rw [e2]; exact l
  ·exact O.trn _ (sg p (j - 1)) _ (h.bnd (by omega)) (h.bnd (by omega)) (h.bnd (by omega)) l (u i (j - 1) (by omega) (by omega))
 ·exact u i j hij (by omega)
theorem zos {p : Array Nat} (O : zo6 n lt) (h : SIp n p) : ∀ (f m : Nat), m + f = n -> 1 <= m -> Up lt p m -> TW n lt (kas_asc p f m) (fun r => m <= r /\ r <= n /\ Up lt p r /\ (r = n \/ r < n /\ lt (sg p r) (sg p (r - 1)) = true))
 | 0, m, e, h1, u => ⟨xai _, by omega, u, .inl (by omega)⟩
 | f + 1, m, e, h1, u => by
  refine ⟨h.bnd (by omega), h.bnd (by omega), ?_⟩
  cases l : lt (sg p m) (sg p (m - 1)) with
  | true => simp only [l, if_true]; exact ⟨xai _, by omega, u, .inr ⟨by omega, l⟩⟩
  | false =>
   simp only [l, xbo, if_false]
   refine TW.mono (fun r q => ⟨Nat.le_of_succ_le q.1, q.2⟩) _ (zos O h f (m + 1) (by omega) (by omega) ?_)
   exact u.step O h (by omega) h1 (O.tot _ _ (h.bnd (by omega)) (h.bnd (by omega)) (h.inj (by omega) (by omega) (by omega)) l)
theorem zot {p : Array Nat} (O : zo6 n lt) (h : SIp n p) : ∀ (f m : Nat), m + f = n -> 1 <= m -> Dn lt p m -> TW n lt (kas_desc f p m 0) (fun r => r.1 = p /\ r.2.2 = 0 /\ m <= r.2.1 /\ r.2.1 <= n /\ Dn lt p r.2.1)
 | 0, m, e, h1, u => ⟨rfl, rfl, xai _, by show m <= n; omega, u⟩
 | f + 1, m, e, h1, u => by
  refine ⟨h.bnd (by omega), h.bnd (by omega), ?_⟩
  cases l : lt (sg p m) (sg p (m - 1)) with
  | true =>
   simp only [l, if_true, xbu, gt_iff_lt, if_false]
   refine TW.mono (fun r q => ⟨q.1, q.2.1, Nat.le_of_succ_le q.2.2.1, q.2.2.2⟩) _ (zot O h f (m + 1) (by omega) (by omega) (u.step O h (by omega) h1 l))
  | false =>
   simp only [l, xbo, if_false]
   refine ⟨h.bnd (by omega), h.bnd (by omega), ?_⟩
   rw [O.tot _ _ (h.bnd (by omega)) (h.bnd (by omega)) (h.inj (by omega) (by omega) (by omega)) l]
   exact ⟨rfl, rfl, xai _, by show m <= n; omega, u⟩
theorem Dn.rev {p : Array Nat} {m : Nat} (h : SIp n p) (hm : m <= n) (u : Dn lt p m) : Up lt (kas_rev p 0 m) m := by
 intro i j hij hj
 have e : ∀ k, k < m -> sg (kas_rev p 0 m) k = sg p (m - 1 - k) := fun k hk => zqd (by
  unfold kas_rev
  rw [getElem?_mirror_all (by rw [h.size]; exact hm), if_pos ⟨xb0 _, hk⟩, xbk])
 rw [e i (by omega), e j hj]
 exact u _ _ (by omega) (by omega)
theorem zqe {p : Array Nat} {m : Nat} (O : zo6 n lt) (h : SIp n p) (h1 : 1 <= m) (hm : m <= n) (u : Dn lt p m) : TW n lt (kas_tail3 m n p) (fun r => 1 <= r.1 /\ r.1 <= n /\ SIp n r.2 /\ Up lt r.2 r.1) := by
 unfold kas_tail3
 refine TW.bind _ (TW.mono (fun r q => ?_) _ (zos O (h.rev 0 m) (n - m) m (by omega) h1 (u.rev h hm)))
 exact ⟨by show 1 <= r; omega, q.2.1, h.rev 0 m, q.2.2.1⟩
theorem zqf {p : Array Nat} (O : zo6 n lt) (h : SIp n p) (h1 : 1 <= n) : TW n lt (kas_count n p) (fun r => 1 <= r.1 /\ r.1 <= n /\ SIp n r.2 /\ Up lt r.2 r.1) := by
 unfold kas_count
 refine TW.bind _ (TW.mono (fun m q => ?_) _ (zos O h (n - 1) 1 (by omega) (xai _) (fun i j _ _ => by omega)))
 obtain ⟨q1, q2, q3, q4⟩ := q
 by_cases e : m = n
 ·rw [if_pos (by rw [e]; exact beq_self_eq_true n)]
  exact ⟨q1, q2, h, q3⟩
 ·rw [if_neg (by simpa using e)]
  obtain ⟨q5, q6⟩ := q4.resolve_left e
  by_cases e1 : m > 1
  ·rw [if_pos e1]
   refine ⟨h.bnd (by omega), h.bnd (by omega), ?_⟩
   rw [q3 0 (m - 1) (by omega) (by omega)]
   exact ⟨q1, q2, h, q3⟩
  ·rw [if_neg e1]
   have em : m = 1 := by omega
   subst em
   unfold kas_descPart
   refine TW.bind _ (TW.mono (fun r q => ?_) _ (zot O h (n - (1 + 1)) (1 + 1) (by omega) (by omega) ?_))
   ·obtain ⟨a1, a2, a3, a4, a5⟩ := q
    rw [if_neg (by omega), a1]
    exact zqe O h (by omega) a4 a5
   ·intro i j hij hj
    have ei : i = 0 := by omega
    have ej : j = 1 := by omega
    subst ei ej
    exact q6
theorem zhw {p : Array Nat} {k : Nat} (O : zo6 n lt) (h : SIp n p) (hk : k < n) (u : Up lt p k) : ∀ (f l r : Nat), l <= r -> r <= k -> r - l <= f -> (∀ i, i < l -> lt (sg p i) (sg p k) = true) -> (∀ i, r <= i -> i < k -> lt (sg p k) (sg p i) = true) ->
  TW n lt (kas_place p k f l r) (fun m => m <= k /\ (∀ i, i < m -> lt (sg p i) (sg p k) = true) /\ (∀ i, m <= i -> i < k -> lt (sg p k) (sg p i) = true))
 | 0, l, r, hl, hr, hf, a, b => ⟨by omega, a, fun i h1 h2 => b i (by omega) h2⟩
 | f + 1, l, r, hl, hr, hf, a, b => by
  unfold kas_place
  by_cases e : l ≥ r
  ·rw [if_pos e]
   exact ⟨by omega, a, fun i h1 h2 => b i (by omega) h2⟩
  ·rw [if_neg e]
   refine ⟨h.bnd hk, h.bnd (by omega), ?_⟩
   cases c : lt (sg p k) (sg p ((l + r) / 2)) with
   | true =>
    simp only [c, if_true]
    refine zhw O h hk u f l ((l + r) / 2) (by omega) (by omega) (by omega) a fun i h1 h2 => ?_
    by_cases e2 : i = (l + r) / 2
    ·rw [e2]; exact c
    ·exact O.trn _ (sg p ((l + r) / 2)) _ (h.bnd hk) (h.bnd (by omega)) (h.bnd (by omega)) c (u _ _ (by omega) h2)
   | false =>
    simp only [c, xbo, if_false]
    have c' := O.tot _ _ (h.bnd hk) (h.bnd (show (l + r) / 2 < n by omega)) (h.inj hk (show (l + r) / 2 < n by omega) (by omega)) c
    refine zhw O h hk u f ((l + r) / 2 + 1) r (by omega) hr (by omega) (fun i h1 => ?_) b
    by_cases e2 : i = (l + r) / 2
    ·rw [e2]; exact c'
    ·exact O.trn _ (sg p ((l + r) / 2)) _ (h.bnd (by omega)) (h.bnd (by omega)) (h.bnd hk) (u _ _ (by omega) (by omega)) c'
theorem zrN (O : zo6 n lt) : ∀ (f : Nat) (p : Array Nat) (k : Nat), k + f = n -> 1 <= k -> SIp n p -> Up lt p k -> TW n lt (kas_bin f p k) (fun r => SIp n r /\ Up lt r n)
 | 0, p, k, e, h1, h, u => by
  have : k = n := by omega
  subst this
  exact ⟨h, u⟩
 | f + 1, p, k, e, h1, h, u => by
  unfold kas_bin
  refine TW.bind _ (TW.mono (fun m q => ?_) _ (zhw O h (by omega) u k 0 k (xb0 _) (xai _) (by omega) (fun i hi => by omega) (fun i h1 h2 => by omega)))
  obtain ⟨q1, q2, q3⟩ := q
  refine zrN O f _ (k + 1) (by omega) (by omega) (h.bub k (k - m)) fun i j hij hj => ?_
  have e : ∀ i, sg (bubble p k (k - m)) i = if i = m then sg p k else if m < i /\ i <= k then sg p (i - 1) else sg p i := fun i => by
   have hb := getElem?_bubble (xs := p) (src := k) (by rw [h.size]; omega) (k - m) (by omega) i
   rw [show k - (k - m) = m by omega] at hb
   by_cases c1 : i = m
   ·rw [if_pos c1] at hb ⊢; exact zqd hb
   ·rw [if_neg c1] at hb ⊢
    by_cases c2 : m < i /\ i <= k
    ·rw [if_pos c2] at hb ⊢; exact zqd hb
    ·rw [if_neg c2] at hb ⊢; exact zqd hb
  rw [e, e]
  repeat' split
  all_goals first | omega | skip
  all_goals first | exact u _ _ (by omega) (by omega) | skip
  ·exact q3 _ (by omega) (by omega)
  ·exact q2 _ (by omega)
theorem zs9 (O : zo6 n lt) (h2 : 2 <= n) : TW n lt (kas_sort n) (fun p => SIp n p /\ Up lt p n) := by
 unfold kas_sort
 refine TW.bind _ (TW.mono (fun r q => ?_) _ (zqf O ⟨by simp⟩ (by omega)))
 obtain ⟨q1, q2, q3, q4⟩ := q
 by_cases e : r.1 < n
 ·rw [if_pos e, show max r.1 1 = r.1 by omega]
  exact zrN O _ _ _ (by omega) q1 q3 q4
 ·rw [if_neg e]
  have : r.1 = n := by omega
  rw [this] at q4
  exact ⟨q3, q4⟩
end
end DL
section
set_option maxHeartbeats 1000000
namespace DL
open L2 PySem.W PyProof.Rows
def zcX : List Int -> List Int -> Bool
 | [], [] => false
 | [], _ :: _ => true
 | _ :: _, [] => false
 | x :: xs, y :: ys => bif x == y then zcX xs ys else decide (x < y)
theorem zhx : ∀ (xs ys : List Int), xs ≠ ys -> zcX xs ys = false -> zcX ys xs = true
 | [], [], h, _ => absurd rfl h
 | [], _ :: _, _, h => by simp [zcX] at h
 | _ :: _, [], _, _ => rfl
 | x :: xs, y :: ys, h, e => by
  unfold zcX at e ⊢
  by_cases c : x = y
  ·subst c
   simp only [beq_self_eq_true, cond_true] at e ⊢
   exact zhx xs ys (fun q => h (by rw [q])) e
  ·have c1 : (x == y) = false := by simpa using c
   have c2 : (y == x) = false := by simpa using fun q : y = x => c q.symm
   simp only [c1, c2, cond_false, decide_eq_false_iff_not, decide_eq_true_eq] at e ⊢
   omega
theorem zhy : ∀ (xs ys : List Int), zcX xs ys = true -> zcX ys xs = false
 | [], [], h => by simp [zcX] at h
 | [], _ :: _, _ => rfl
 | _ :: _, [], h => by simp [zcX] at h
 | x :: xs, y :: ys, e => by
  unfold zcX at e ⊢
  by_cases c : x = y
  ·subst c
   simp only [beq_self_eq_true, cond_true] at e ⊢
   exact zhy xs ys e
  ·have c1 : (x == y) = false := by simpa using c
   have c2 : (y == x) = false := by simpa using fun q : y = x => c q.symm
   simp only [c1, c2, cond_false, decide_eq_false_iff_not, decide_eq_true_eq] at e ⊢
   omega
theorem zhz : ∀ (xs ys zs : List Int), zcX xs ys = true -> zcX ys zs = true -> zcX xs zs = true
 | [], [], _, h, _ => by simp [zcX] at h
 | _ :: _, [], _, h, _ => by simp [zcX] at h
 | _, _ :: _, [], _, h => by simp [zcX] at h
 | [], _ :: _, _ :: _, _, _ => rfl
 | x :: xs, y :: ys, z :: zs, e, f => by
  unfold zcX at e f ⊢
  by_cases c : x = y
  ·subst c
   simp only [beq_self_eq_true, cond_true] at e
   by_cases d : x = z
   ·subst d
    simp only [beq_self_eq_true, cond_true] at f ⊢
    exact zhz xs ys zs e f
   ·have d1 : (x == z) = false := by simpa using d
    simp only [d1, cond_false] at f ⊢
    exact f
  ·have c1 : (x == y) = false := by simpa using c
   simp only [c1, cond_false, decide_eq_true_eq] at e
   by_cases d : y = z
   ·subst d
    simp only [c1, cond_false, decide_eq_true_eq]
    exact e
   ·have d1 : (y == z) = false := by simpa using d
    simp only [d1, cond_false, decide_eq_true_eq] at f
    have g1 : (x == z) = false := by simpa using (show x ≠ z by omega)
    simp only [g1, cond_false, decide_eq_true_eq]
    omega
section
variable {prog : Program} {w : World} {A : Around} {E : Value -> Shared -> Prop} {s : Shared}
theorem ziP {b fin : Bool} {Q : Bool -> Shared -> Prop} : ∀ {ks ls : List Int} {xs ys : List Value} (i : Nat), PySem.ItemsAre (intKind prog w) ks xs -> PySem.ItemsAre (intKind prog w) ls ys -> fin = decide (xs.length < ys.length) -> Q (zcX ks ls) s -> KatLex prog w A b fin Q (xs.zip ys) i s
 | [], [], _, _, i, .nil, .nil, e, q => by
  refine kat_nil ?_
  rw [e]; exact q
 | [], _ :: _, _, _, i, .nil, .cons _ _, e, q => by
  refine kat_nil ?_
  rw [e, decide_eq_true (by simp)]; exact q
 | _ :: _, [], _, _, i, .cons _ _, .nil, e, q => by
  refine kat_nil ?_
  rw [e, decide_eq_false (by simp)]; exact q
 | k :: ks, l :: ls, _, _, i, .cons h1 r1, .cons h2 r2, e, q => by
  obtain ⟨t, rfl⟩ := Value.isInt_shape h1
  obtain ⟨u, rfl⟩ := Value.isInt_shape h2
  rw [List.zip_cons_cons]
  refine kat_cons (wpAny_eqBool_int ?_)
  refine kat_go (fun he => kat_yes ?_) (fun he => kat_no ?_)
  ·refine ziP (i + 1) r1 r2 (by rw [e]; simp) ?_
   unfold zcX at q
   rw [he, cond_true] at q
   exact q
  ·unfold zcX at q
   rw [he, cond_false] at q
   cases hb : (b && i == 0) with
   | true => exact oneLt_int q
   | false => exact kat_one _ _ (lt_int q)
theorem zta {b : Bool} {Q : Bool -> Shared -> Prop} {ks ls : List Int} {x y : Addr} (hx : IsTupleKey (intKind prog w) s.heap ks x) (hy : IsTupleKey (intKind prog w) s.heap ls y) (q : Q (zcX ks ls) s) : wpAny (model prog w) A (keyLt' (tuples' b) (.ref x) (.ref y)) Q E s := by
 obtain ⟨ox, xs, n, g1, c1, d1, i1⟩ := hx
 obtain ⟨oy, ys, k, g2, c2, d2, i2⟩ := hy
 exact kat_lt g1 d1 g2 d2 (ziP 0 i1 i2 (by simp) q)
def zce (prog : Program) (w : World) (h : Heap) : List Value -> List (List Int) -> Prop
 | [], [] => True
 | v :: vs, ks :: kss => (∃ c, v = .ref c /\ IsTupleKey (intKind prog w) h ks c /\ ks ≠ []) /\ zce prog w h vs kss
 | _, _ => False
theorem zce.len {h : Heap} : ∀ {vs : List Value} {kss : List (List Int)}, zce prog w h vs kss -> vs.length = kss.length
 | [], [], _ => rfl
 | [], _ :: _, t => t.elim
 | _ :: _, [], t => t.elim
 | _ :: vs, _ :: kss, t => by rw [xam, xam, zce.len t.2]
theorem zce.get {h : Heap} : ∀ {vs : List Value} {kss : List (List Int)}, zce prog w h vs kss -> ∀ i, i < vs.length -> ∃ c, vs.getD i Value.none = .ref c /\ IsTupleKey (intKind prog w) h (kss.getD i []) c
 | [], [], _, i, hi => absurd hi (by simp)
 | [], _ :: _, t, _, _ => t.elim
 | _ :: _, [], t, _, _ => t.elim
 | v :: vs, ks :: kss, t, 0, _ => by obtain ⟨c, e1, e2, _⟩ := t.1; exact ⟨c, e1, e2⟩
 | v :: vs, ks :: kss, t, i + 1, hi => by
  obtain ⟨c, e1, e2⟩ := zce.get t.2 i (by simpa using hi)
  exact ⟨c, by simpa using e1, by simpa using e2⟩
theorem zce.mono {h h' : Heap} (k : ∀ c ks, IsTupleKey (intKind prog w) h ks c -> IsTupleKey (intKind prog w) h' ks c) : ∀ {vs : List Value} {kss : List (List Int)}, zce prog w h vs kss -> zce prog w h' vs kss
 | [], [], _ => trivial
 | [], _ :: _, t => t.elim
 | _ :: _, [], t => t.elim
 | v :: vs, ks :: kss, t => by
  obtain ⟨⟨c, e1, e2, e3⟩, t2⟩ := t
  exact ⟨⟨c, e1, k _ _ e2, e3⟩, zce.mono k t2⟩
theorem zce.tups : ∀ {vs : List Value} {kss : List (List Int)}, zce prog w s.heap vs kss -> ∃ fs, KatTups s.heap vs fs /\ fs.length = vs.length /\ ∀ v ∈ fs, Looks (model prog w) s.heap (typeOf v) (.type "int")
 | [], [], _ => ⟨[], KatTups.nil, rfl, fun v hv => by cases hv⟩
 | [], _ :: _, t => t.elim
 | _ :: _, [], t => t.elim
 | v :: vs, ks :: kss, t => by
  obtain ⟨⟨c, rfl, ⟨o, its, n, g1, g2, g3, g4⟩, e3⟩, t2⟩ := t
  obtain ⟨fs, a1, a2, a3⟩ := zce.tups t2
  obtain ⟨l⟩ := its
  have g4' : PySem.ItemsAre (intKind prog w) ks l := g4
  clear g4
  cases g4' with
  | nil => exact absurd rfl e3
  | cons h1 r1 =>
   obtain ⟨t, rfl⟩ := Value.isInt_shape h1
   refine ⟨Value.int _ t :: fs, KatTups.cons g1 g2 g3 (by rfl) a1, by rw [xam, xam, a2], fun v hv => ?_⟩
   rcases xak.mp hv with rfl | hv
   ·exact .now
   ·exact a3 v hv
theorem zqg {kss : List (List Int)} (nd : kss.Nodup) : zo6 kss.length (fun i j => zcX (kss.getD i []) (kss.getD j [])) where
 tot := fun i j hi hj e q => zhx _ _ (fun z => by
  have go : ∀ i j, i < j -> j < kss.length -> kss.getD i [] ≠ kss.getD j [] := fun i j hij hj z => by
   have l1 : i < kss.length := by omega
   have := xcf.mp nd i j l1 hj hij
   rw [xbv, xbv, xap l1, xap hj] at z
   exact this z
  rcases Nat.lt_or_gt_of_ne e with l | l
  ·exact go i j l hj z
  ·exact go j i l hi z.symm) q
 asy := fun i j _ _ q => zhy _ _ q
 trn := fun i j k _ _ _ q r => zhz _ _ _ q r
end
end DL
end
section
set_option maxHeartbeats 2000000
namespace DL
open L2 PySem.W PyProof.Rows
section
variable {prog : Program} {w : World} {A : Around} {E : Value -> Shared -> Prop} {s : Shared}
theorem zou {h h' : Heap} (kp : ∀ b u, (∃ xs n, u.data = .seq xs n /\ u.cls = .type "tuple") -> h.get? b = some u -> h'.get? b = some u) (c : Addr) (ks : List Int) (k : IsTupleKey (intKind prog w) h ks c) : IsTupleKey (intKind prog w) h' ks c := by
 obtain ⟨o, its, n, g1, g2, g3, g4⟩ := k
 exact ⟨o, its, n, kp c o ⟨its, n, g3, g2⟩ g1, g2, g3, g4⟩
theorem zov : ∀ (vs : List Value), vs.length < 2 -> Array.map (fun x => x.2) (vs.toArray.zip vs.toArray) = ((List.range vs.length).toArray.toList.map fun i => vs.getD i Value.none).toArray
 | [], _ => by simp
 | [v], _ => by simp [List.range_succ]
 | _ :: _ :: _, h => absurd h (by simp)
theorem zgp {a : Addr} {vs : List Value} {kss : List (List Int)} {n : Nat} {P : PySem.Fin -> Shared -> Prop} (ho : s.heap.get? a = some (seqObj "list" vs.toArray n)) (ht : zce prog w s.heap vs kss) (nd : kss.Nodup) (h64 : vs.length < 64)
  (h : ∀ p : Array Nat, SIp kss.length p -> Up (fun i j => zcX (kss.getD i []) (kss.getD j [])) p kss.length -> P (.done (.ret .none)) { s with heap := sortedHeap s.heap a vs (p.toList.map fun i => vs.getD i Value.none).toArray }) :
  wpAny (model prog w) A (Builtin.«list.sort» ⟨[.ref a], []⟩) P E s := by
 rw [list_sort_plain]
 have ha : a < s.heap.objs.size := xaf ho
 refine wpAny_bind (listItems_at ho rfl ?_)
 refine wpAny_bind (listUpdate_at ho rfl ?_ (by rw [xag, sizeLine_eq]; omega) (xb0 _))
 obtain ⟨e1, ho1⟩ : ∃ e1, (s.heap.update a (Obj.mapSeq fun _ => (#[] : Array Value))).get? a = some (seqObj "list" #[] e1) := ⟨_, get?_update_seq ho (fun _ => #[])⟩
 refine wpAny_bind (seqEpoch_at ho1 rfl ?_)
 refine wpAny_bind (wpAny_newTuple ?_ (by show vs.length <= _; rw [sizeLine_eq]; omega))
 refine wpAny_bind (wpAny_newList ?_ (xb0 _))
 refine wpAny_holding ?_
 have ho6 : (((s.heap.update a (Obj.mapSeq fun _ => (#[] : Array Value))).push (seqObj "tuple" vs.toArray 0)).push (seqObj "list" #[] 0)).get? a = some (seqObj "list" #[] e1) :=
  xaa _ (xaa _ ho1)
 have kp : ∀ c ks, IsTupleKey (intKind prog w) s.heap ks c -> IsTupleKey (intKind prog w) (((s.heap.update a (Obj.mapSeq fun _ => (#[] : Array Value))).push (seqObj "tuple" vs.toArray 0)).push (seqObj "list" #[] 0)) ks c :=
  zou fun b u hu e => xaa _ (xaa _ (by
   obtain ⟨xs, m, _, q2⟩ := hu
   have hb : b ≠ a := fun q => by
    subst q
    rw [ho] at e
    cases e
    exact absurd (show Value.type "list" = Value.type "tuple" from q2) (by decide)
   rw [xc1 _ _ _ _ hb]; exact e))
 show wpAny (model prog w) A _ P E { s with heap := ((s.heap.update a (Obj.mapSeq fun _ => (#[] : Array Value))).push (seqObj "tuple" vs.toArray 0)).push (seqObj "list" #[] 0) }
 dsimp only
 have hl := ht.len
 by_cases h2 : vs.toArray.size < 2
 ·rw [if_pos h2, if_pos h2]
  refine wpAny_bind (wpAny_pure ?_)
  rw [StateT.run_pure]
  refine wpAny_bind (wpAny_pure ?_)
  dsimp only
  refine wpAny_bind (seqEpoch_at ho6 rfl ?_)
  refine wpAny_bind (listUpdate_at ho6 rfl ?_ (hsz2 := by rw [Array.size_map]; show (pairsOf vs).size <= _; rw [pairsOf_size, sizeLine_eq]; omega))
  simp only [bne_self_eq_false, xbo, if_false]
  rw [xag] at h2
  have e : Array.map (fun x => x.2) (arrOf (SortSt.mk' general' (vs.toArray.zip vs.toArray) #[] 7 none)) = ((List.range kss.length).toArray.toList.map fun i => vs.getD i Value.none).toArray := by
   show Array.map (fun x => x.2) (vs.toArray.zip vs.toArray) = _
   rw [<- hl]
   exact zov vs h2
  have hf := h (List.range kss.length).toArray ⟨by simp⟩ (fun i j _ _ => by omega)
  rw [<- e] at hf
  exact wpAny_pure hf
 ·rw [if_neg h2, if_neg h2]
  rw [xag] at h2
  have ht' := ht.mono kp
  obtain ⟨fs, f1, f2, f3⟩ := zce.tups (s := { s with heap := ((s.heap.update a (Obj.mapSeq fun _ => (#[] : Array Value))).push (seqObj "tuple" vs.toArray 0)).push (seqObj "list" #[] 0) }) ht'
  refine wpAny_bind (kat_kind f1 (by omega) f3 rfl ?_)
  refine wpAny_bind (wpAny_mono (kat_run (vs := vs) (Q := fun st' s' => s' = { s with heap := ((s.heap.update a (Obj.mapSeq fun _ => (#[] : Array Value))).push (seqObj "tuple" vs.toArray 0)).push (seqObj "list" #[] 0) } /\ ∃ p : Array Nat, p.size = vs.length /\ arrOf st' = p.map (kas_item (vs.toArray.zip vs.toArray)) /\ failedOf st' = none /\ SIp kss.length p /\ Up (fun i j => zcX (kss.getD i []) (kss.getD j [])) p kss.length)
   (G := fun p s' => s' = { s with heap := ((s.heap.update a (Obj.mapSeq fun _ => (#[] : Array Value))).push (seqObj "tuple" vs.toArray 0)).push (seqObj "list" #[] 0) } /\ SIp kss.length p /\ Up (fun i j => zcX (kss.getD i []) (kss.getD j [])) p kss.length)
   rfl (by omega) h64 (fun p' st' s' a1 a2 a3 a4 => ⟨a4.1, p', a1, a2, a3, a4.2⟩) ?_) ?_ fun _ _ e => e)
  ·rw [hl]
   refine TW.wp (fun i j C hi hj hC => ?_) (fun p hp => ⟨rfl, hp⟩) _ (zs9 (zqg nd) (by omega))
   unfold kas_ask
   obtain ⟨c1, x1, x2⟩ := ht'.get i (by omega)
   obtain ⟨c2, y1, y2⟩ := ht'.get j (by omega)
   rw [x1, y1]
   exact zta x2 y2 hC
  ·rintro ⟨⟨⟩, st'⟩ s' ⟨rfl, p, hp, har, hf, hi, hu⟩
   dsimp only
   refine wpAny_bind (seqEpoch_at ho6 rfl ?_)
   have e := kat_snds rfl har
   refine wpAny_bind (listUpdate_at ho6 rfl ?_ (hsz2 := by rw [e, xag, xae, xaj, hp, sizeLine_eq]; omega))
   rw [hf]
   simp only [bne_self_eq_false, xbo, if_false]
   rw [e]
   exact wpAny_pure (h p hi hu)
end
end DL
end
section
set_option maxHeartbeats 2000000
namespace DL
open L2 PySem.W PyProof.Rows
def ztN (k : List Int) : List (List Int) -> List (List Int)
 | [] => [k]
 | x :: xs => bif zcX k x then k :: x :: xs else x :: ztN k xs
def zfO : List (List Int) -> List (List Int)
 | [] => []
 | x :: xs => ztN x (zfO xs)
theorem zfP (k : List Int) : ∀ xs, (ztN k xs).Perm (k :: xs)
 | [] => List.Perm.refl _
 | x :: xs => by
  unfold ztN
  cases zcX k x with
  | true => exact List.Perm.refl _
  | false => exact ((zfP k xs).cons x).trans (List.Perm.swap _ _ _)
theorem zbg : ∀ xs, (zfO xs).Perm xs
 | [] => List.Perm.refl _
 | x :: xs => (zfP x _).trans ((zbg xs).cons x)
theorem zk6 (k : List Int) : ∀ xs, xs.Pairwise (fun a b => zcX a b = true) -> k ∉ xs -> (ztN k xs).Pairwise (fun a b => zcX a b = true)
 | [], _, _ => List.pairwise_singleton _ _
 | x :: xs, h, hk => by
  unfold ztN
  obtain ⟨h1, h2⟩ := xbt.mp h
  cases c : zcX k x with
  | true =>
   refine xbt.mpr ⟨fun y hy => ?_, h⟩
   rcases xak.mp hy with rfl | hy
   ·exact c
   ·exact zhz _ _ _ c (h1 y hy)
  | false =>
   refine xbt.mpr ⟨fun y hy => ?_, zk6 k xs h2 fun q => hk (xad _ q)⟩
   rcases xak.mp ((zfP k xs).mem_iff.mp hy) with rfl | hy
   ·exact zhx _ _ (fun q => hk (q ▸ xab)) c
   ·exact h1 y hy
theorem zdp : ∀ xs, xs.Nodup -> (zfO xs).Pairwise (fun a b => zcX a b = true)
 | [], _ => List.Pairwise.nil
 | x :: xs, h => by
  obtain ⟨h1, h2⟩ := xbh.mp h
  exact zk6 x _ (zdp xs h2) fun q => h1 ((zbg xs).mem_iff.mp q)
theorem zfh : ∀ {xs ys : List (List Int)}, xs.Perm ys -> xs.Pairwise (fun a b => zcX a b = true) -> ys.Pairwise (fun a b => zcX a b = true) -> xs = ys
 | [], ys, p, _, _ => p.nil_eq
 | x :: xs, [], p, _, _ => absurd p.length_eq (by simp)
 | x :: xs, y :: ys, p, h1, h2 => by
  obtain ⟨a1, a2⟩ := xbt.mp h1
  obtain ⟨b1, b2⟩ := xbt.mp h2
  have e : x = y := by
   refine xar fun ne => ?_
   have m1 : x ∈ ys := (xak.mp (p.mem_iff.mp xab)).resolve_left ne
   have m2 : y ∈ xs := (xak.mp (p.mem_iff.mpr xab)).resolve_left fun q => ne q.symm
   have := zhy _ _ (a1 y m2)
   rw [b1 x m1] at this
   exact absurd this (by decide)
  subst e
  rw [zfh (List.Perm.cons_inv p) a2 b2]
theorem zdM {α : Type} [DecidableEq α] : ∀ {xs ys : List α}, xs.Nodup -> (∀ x ∈ xs, x ∈ ys) -> ys.length = xs.length -> ys.Perm xs
 | [], ys, _, _, e => by rw [List.eq_nil_of_length_eq_zero e]
 | x :: xs, ys, nd, h, e => by
  obtain ⟨h1, h2⟩ := xbh.mp nd
  have hx := h x xab
  refine (List.perm_cons_erase hx).trans (List.Perm.cons x (zdM h2 (fun z hz => ?_) ?_))
  ·exact (xdt (fun q : z = x => h1 (q ▸ hz))).mpr (h z (xad _ hz))
  ·rw [xc9 hx, e]; rfl
theorem zlU {α : Type} (d : α) (xs : List α) : (List.range xs.length).map (fun i => xs.getD i d) = xs := by
 refine List.ext_getElem (by simp) fun i h1 h2 => ?_
 simp [h2]
theorem zfQ {kss : List (List Int)} (nd : kss.Nodup) {p : Array Nat} (hp : SIp kss.length p) (hu : Up (fun i j => zcX (kss.getD i []) (kss.getD j [])) p kss.length) : p.toList.map (fun i => kss.getD i []) = zfO kss := by
 have pm : (p.toList.map (fun i => kss.getD i [])).Perm kss := by
  have := hp.perm.map (fun i => kss.getD i [])
  rwa [zlU] at this
 refine zfh (pm.trans (zbg kss).symm) ?_ (zdp kss nd)
 rw [xcf]
 intro i j hi hj hij
 rw [xae, xaj, hp.size] at hi hj
 have e : ∀ k (hk : k < kss.length) (hk' : k < (p.toList.map (fun i => kss.getD i [])).length), (p.toList.map (fun i => kss.getD i []))[k] = kss.getD (sg p k) [] := fun k hk hk' => by
  rw [List.getElem_map]
  congr 1
  have hk2 : k < p.size := by rw [hp.size]; exact hk
  simp [sg, hk2]
 rw [e i hi, e j hj]
 exact hu i j hij hj
section
variable {prog : Program} {w : World} {A : Around} {E : Value -> Shared -> Prop} {s : Shared} {T : String} {r d : Addr} {n : Nat} {P : Nat -> Value -> Prop} {OK : Heap -> Prop}
theorem zfR {vs : List Value} {kss : List (List Int)} {h' : Heap} {tk : Nat} {Q : PySem.Fin -> Shared -> Prop} (hk : ∀ b o, s.heap.get? b = some o -> h'.get? b = some o) (ht : zce prog w s.heap vs kss) (nd : kss.Nodup) (h64 : vs.length < 64)
  (h : ∀ (p : Array Nat) (D : Addr) (h2 : Heap) (e : Nat), SIp kss.length p -> Up (fun i j => zcX (kss.getD i []) (kss.getD j [])) p kss.length -> s.heap.get? D = none -> (∀ b o, s.heap.get? b = some o -> h2.get? b = some o) ->
   h2.get? D = some (seqObj "list" (p.toList.map fun i => vs.getD i Value.none).toArray e) -> Q (.done (.ret (.ref D))) { s with heap := h2, toks := tk }) :
  wpAny (model prog w) A (do
   let l <- newList vs
   let _ <- holding [l] (call (.builtin "list.sort") [l])
   ret l) Q E { s with heap := h', toks := tk } := by
 refine wpAny_bind (wpAny_newList ?_ (by rw [sizeLine_eq]; omega))
 have hoL : (h'.push (seqObj "list" vs.toArray 0)).get? h'.objs.size = some (seqObj "list" vs.toArray 0) := xal _ rfl
 show wpAny _ _ _ _ _ { s with heap := h'.push (seqObj "list" vs.toArray 0), toks := tk }
 refine wpAny_bind (wpAny_holding (wpAny_call_entry slot_list_sort ⟨_, hoL, rfl⟩ entry_list_sort ?body (args_list_sort _)))
 have kp : ∀ b o, s.heap.get? b = some o -> (h'.push (seqObj "list" vs.toArray 0)).get? b = some o := fun b o e => xaa _ (hk b o e)
 refine zgp (s := { s with heap := h'.push (seqObj "list" vs.toArray 0), toks := tk }) hoL (ht.mono (zou fun b u _ e => kp b u e)) nd h64 fun p hp hu => ?_
 obtain ⟨e1, ho1⟩ : ∃ e1, ((h'.push (seqObj "list" vs.toArray 0)).update h'.objs.size (Obj.mapSeq fun _ => (#[] : Array Value))).get? h'.objs.size = some (seqObj "list" #[] e1) := ⟨_, get?_update_seq hoL (fun _ => #[])⟩
 have ho2 : ((((h'.push (seqObj "list" vs.toArray 0)).update h'.objs.size (Obj.mapSeq fun _ => (#[] : Array Value))).push (seqObj "tuple" vs.toArray 0)).push (seqObj "list" #[] 0)).get? h'.objs.size = some (seqObj "list" #[] e1) := xaa _ (xaa _ ho1)
 obtain ⟨e2, ho3⟩ : ∃ e2, (sortedHeap (h'.push (seqObj "list" vs.toArray 0)) h'.objs.size vs (p.toList.map fun i => vs.getD i Value.none).toArray).get? h'.objs.size = some (seqObj "list" (p.toList.map fun i => vs.getD i Value.none).toArray e2) := ⟨_, get?_update_seq ho2 (fun _ => _)⟩
 have hno : s.heap.get? h'.objs.size = none := by
  cases q : s.heap.get? h'.objs.size with
  | none => rfl
  | some o => exact absurd (xaf (hk _ o q)) (xbu _)
 refine ⟨_, rfl, wpAny_pure (h p h'.objs.size _ e2 hp hu hno (fun b o e => ?_) ho3)⟩
 have hb : b ≠ h'.objs.size := xat (xaf (hk b o e))
 unfold sortedHeap
 rw [xc1 _ _ _ _ hb]
 refine xaa _ (xaa _ ?_)
 rw [xc1 _ _ _ _ hb]
 exact kp b o e
theorem zlV {vs₀ : List Value -> Prop} {Q : Value -> Shared -> Prop} (K : KdlSrc prog w T r d n P OK) (hh : A.handled = none) (hok : OK s.heap) (h64 : n < 64)
  (hk : ∀ vs : List Value, vs.length = n -> (∀ j v, vs[j]? = some v -> P j v) -> ∃ kss, zce prog w s.heap vs kss /\ kss.Nodup /\
   ∀ (p : Array Nat) (D : Addr) (h2 : Heap) (tk e : Nat), SIp kss.length p -> Up (fun i j => zcX (kss.getD i []) (kss.getD j [])) p kss.length -> s.heap.get? D = none -> (∀ b o, s.heap.get? b = some o -> h2.get? b = some o) ->
    h2.get? D = some (seqObj "list" (p.toList.map fun i => vs.getD i Value.none).toArray e) -> Q (.ref D) { s with heap := h2, toks := tk }) :
  wpAny (model prog w) A (call (.builtin "sorted") [.ref r]) Q E s := by
 refine Calls.call_function_entry kind_sorted plain_sorted entry_sorted (args_sorted1 _) ?_
 unfold Builtin.«sorted»
 refine wpAny_bind (m := checkCount "sorted" 1 1 _) (wpAny_pure ?_)
 refine wpAny_bind (kdu_collect (A := A.in1) K hh hok (by rw [sizeLine_eq]; omega) fun h' tk acc kp hacc => ?_)
 have hl : acc.toList.length = n := by rw [xaj]; exact hacc.1
 obtain ⟨kss, t1, t2, t3⟩ := hk acc.toList hl (fun j v e => hacc.2 j v (by rw [<- xas]; exact e))
 refine zfR kp t1 t2 (by omega) (fun p D h2 e a1 a2 a3 a4 a5 => ⟨_, rfl, t3 p D h2 tk e a1 a2 a3 a4 a5⟩)
theorem zjB {vs : List Value} {kss : List (List Int)} {l : Addr} {Q : Value -> Shared -> Prop} (hl : s.heap.IsList l vs.toArray) (ht : zce prog w s.heap vs kss) (nd : kss.Nodup) (h64 : vs.length < 64)
  (h : ∀ (p : Array Nat) (D : Addr) (h2 : Heap) (e : Nat), SIp kss.length p -> Up (fun i j => zcX (kss.getD i []) (kss.getD j [])) p kss.length -> s.heap.get? D = none -> (∀ b o, s.heap.get? b = some o -> h2.get? b = some o) ->
    h2.get? D = some (seqObj "list" (p.toList.map fun i => vs.getD i Value.none).toArray e) -> Q (.ref D) { s with heap := h2 }) :
  wpAny (model prog w) A (call (.builtin "sorted") [.ref l]) Q E s := by
 refine Calls.call_function_entry kind_sorted plain_sorted entry_sorted (args_sorted1 _) ?_
 unfold Builtin.«sorted»
 refine wpAny_bind (m := checkCount "sorted" 1 1 _) (wpAny_pure ?_)
 refine wpAny_bind (collect_list hl ?_ (by rw [sizeLine_eq]; omega))
 refine zfR (s := s) (tk := s.toks) (fun b o q => ?_) ht nd h64 (fun p D h2 e a1 a2 a3 a4 a5 => ⟨_, rfl, h p D h2 e a1 a2 a3 a4 a5⟩)
 ·have hlt : b < s.heap.objs.size := xaf q
  rw [xc1 _ _ _ _ (xat hlt)]
  exact xaa _ q
end
end DL
end
section
set_option maxHeartbeats 2000000
namespace DL
open L2 PyProof.Rows
section
variable {X : Cx} {E : XK}
theorem zv2 {pins : List (Addr × Obj)} {U : L2.St} {H : Hp} {s : Shared} {h' : Heap} {a : Addr} {o : HO} {t' : Nat} (I : Inv X pins U H s) (k : ∀ b u, s.heap.get? b = some u -> h'.get? b = some u) (hp : s.heap.get? a = none) (new : zbv X.prog X.w (upd H a o) h' a o) :
  Inv X pins U (upd H a o) { s with heap := h', toks := t' } /\ H a = none := by
 have hn : H a = none := by
  cases q : H a with
  | none => rfl
  | some u =>
   obtain ⟨ob, e⟩ : ∃ ob, s.heap.get? a = some ob := by
    have := I.hok a u q
    clear new
    induction u with
    | lst xs => obtain ⟨z, its, n, r, e⟩ := this; exact ⟨_, e⟩
    | tup xs => obtain ⟨z, its, r, ob, e, c⟩ := this; exact ⟨_, e⟩
    | dK kvs => obtain ⟨z, y, vs, r, ob, es, ep, e, c⟩ := this; exact ⟨_, e⟩
    | dT kvs => obtain ⟨z, y, xs, r, ob, es, ep, e, c⟩ := this; exact ⟨_, e⟩
    | set S n => obtain ⟨ob, es, ep, t, e, c⟩ := this; exact ⟨_, e⟩
    | ins C dx fs => obtain ⟨d, z, ne, e, r⟩ := this; exact ⟨_, e⟩
    | own y => exact this
    | xd fs => obtain ⟨mA, ⟨od, es, ep, e, c⟩, r⟩ := this; exact ⟨_, e⟩
    | rng lo hi => obtain ⟨t, u, v, e⟩ := this; exact ⟨_, e⟩
    | frz ob u ih => exact ⟨_, this.1⟩
    | tbl ps => exact ⟨_, this⟩
    | met f y => exact ⟨_, this⟩
    | ext φ => exact this.2.1
   rw [hp] at e; cases e
 have ne : ∀ b u, s.heap.get? b = some u -> b ≠ a := fun b u q z => by subst z; rw [hp] at q; cases q
 refine ⟨I.un ⟨fun b u q _ _ _ => k b u q, fun b u q _ _ _ => ⟨u.slots, k b u q⟩, fun b u q n _ => by rw [zah (ne b u q)]; exact n, fun b u q _ => ⟨u, k b u q⟩,
  fun b xs q => by rw [zah (zad q hn)]; exact q, fun b u xs q => by rw [zah (zad q hn)]; exact q, fun b ps q => ⟨#[], by rw [zah (zad q hn), q]; simp⟩⟩ fun b u e => ?_, hn⟩
 by_cases hb : b = a
 ·subst hb; rw [zae] at e; cases e; exact new
 ·rw [zah hb] at e
  exact (I.hok b u e).stay (fun c v _ q => k c v q) (fun c q => by rw [zah (zad q hn)]; exact q) fun c xs q => by rw [zah (zad q hn)]; exact q
theorem ziQ {prog : Program} {w : World} : ∀ {ks ls : List Int} {vs : List Value}, PySem.ItemsAre (intKind prog w) ks vs -> PySem.ItemsAre (intKind prog w) ls vs -> ks = ls
 | _, _, _, .nil, .nil => rfl
 | _, _, _, .cons h1 r1, .cons h2 r2 => by
  rw [(intKind prog w).inj _ _ _ h1 h2, ziQ r1 r2]
theorem zk7 {prog : Program} {w : World} {h : Heap} {ks ls : List Int} {c : Addr} (h1 : IsTupleKey (intKind prog w) h ks c) (h2 : IsTupleKey (intKind prog w) h ls c) : ks = ls := by
 obtain ⟨o, its, n, g1, g2, g3, g4⟩ := h1
 obtain ⟨o', its', n', g1', g2', g3', g4'⟩ := h2
 rw [g1] at g1'; cases g1'
 rw [g3] at g3'; cases g3'
 exact ziQ g4 g4'
theorem zfS {pins : List (Addr × Obj)} {U : L2.St} {H : Hp} {s : Shared} (I : Inv X pins U H s) {c : Addr} {ks : List Int} (h : SqT X.K H c (ks.map V.int)) : IsTupleKey (intKind X.prog X.w) s.heap ks c := by
 obtain ⟨its, rv, ⟨ob, g1, g2, n, g3⟩, _⟩ := I.tuple h
 exact ⟨ob, its.toArray, n, g1, g2, g3, by rw [xcz]; exact zhu rv⟩
theorem zbK (keys : Nat -> List Int) : ∀ n, (zgR keys n).Nodup
 | 0 => List.Pairwise.nil
 | n + 1 => by
  show (zk5 (zgR keys n) (keys n)).Nodup
  unfold zk5
  split
  ·exact zbK keys n
  ·exact xbh.mpr ⟨by assumption, zbK keys n⟩
def zv3 (w : World) (K : xFg) (G : Hp) (a : Addr) (kss : List (List Int)) : Heap -> Prop := fun h => ∃ (o : Obj) (es : Array (Int × Value)) (ep : Nat) (t : SetTable) (kf : Value -> List Int), h.get? a = some o /\ o.ExactSet /\ o.data = .set es ep t /\ SetTable.fits t es.size = true /\ t.plain = true /\ t.led = (!w.params.followText "set-order") /\ t.place.toList.Pairwise (· < ·) /\
 (∀ e ∈ es.toList, ∃ c, e.2 = .ref c /\ SqT K G c ((kf e.2).map V.int)) /\ ((es.toList.map (·.2)).map kf).Perm kss
def zxI (w : World) (K : xFg) : List V -> Hp -> VK -> Prop := fun xs H Q => ∃ (p : Addr) (ys : List V) (kss : List (List Int)) (G : Hp), xs = [.ref p] /\ SqL K H p ys /\ zai G H /\ zav K G ys kss /\ (zdx kss).length <= 18 /\ ∀ a, H a = none -> Q (.ref a) (upd H a (.ext (zv3 w K G a (zdx kss))))
theorem zk8 {K : xFg} {G : Hp} : ∀ {vs : List V} {kss : List (List Int)} {us : List Value}, zav K G vs kss -> zaP vs us -> ∀ (j : Nat) (c : Addr), us[j]? = some (Value.ref c) -> ∃ ks, SqT K G c (List.map V.int ks)
 | [], [], _, _, h, j, c, e => by cases h; simp at e
 | v :: vs, ks :: kss, _, ⟨⟨b, e1, e2⟩, t⟩, h, j, c, e => by
  cases h with
  | cons q r =>
   subst e1
   cases q
   cases j with
   | zero => simp at e; subst e; exact ⟨ks, e2⟩
   | succ j => exact zk8 t r j c (by simpa using e)
 | [], _ :: _, _, h, _, _, _, _ => h.elim
 | _ :: _, [], _, h, _, _, _, _ => h.elim
theorem zow {k : Nat} (hc : X.calm = true) (r : ze9 k X.A) : zbw X (.type "set") (zxI X.w X.K) := by
 intro pins s U H xs us Q I rs h
 obtain ⟨p, ys, kss, G, rfl, hq, sm, ht, h4, q⟩ := h
 obtain ⟨u, rfl, rx⟩ := zeu rs
 cases rx
 obtain ⟨its, rv, pl, hz⟩ := I.list hq
 have hlen : its.length = kss.length := by rw [<- rv.length, ht.length]
 have hsz : its.toArray.size = kss.length := by rw [xag, hlen]
 refine zoq (P := fun c => ∃ ks, SqT X.K G c (List.map V.int ks)) (I.ok.hd hc) pl.isList (by have := r.un; omega) (fun j => kss.getD j []) (by rw [hsz]; exact h4) (fun j hj => ?_) fun h2 tk S2 kp => ?_
 ·rw [xag] at hj
  obtain ⟨b, b1, b2⟩ := zjy I (ht.mono sm) rv j hj
  exact ⟨b, by rw [xcb]; exact b1, b2, zk8 ht rv j b b1⟩
 ·obtain ⟨o, es, ep, t, S⟩ := S2
  rw [hsz] at S
  have old : ∀ c ks, SqT X.K G c (List.map V.int ks) -> IsTupleKey (intKind X.prog X.w) h2 ks c := fun c ks hc => zou (fun b u _ e => kp b u e) c ks (zfS I (zai.sqT sm hc))
  have el : ∀ e ∈ es.toList, ∃ c ls, e.2 = .ref c /\ IsTupleKey (intKind X.prog X.w) h2 ls c /\ ls ∈ zdx kss /\ SqT X.K G c (List.map V.int ls) := fun e he => by
   obtain ⟨c, ls, e1, e2, e3, ks, e4⟩ := S.el e he
   have := zk7 e2 (old c ks e4)
   subst this
   exact ⟨c, ls, e1, e2, e3, e4⟩
  obtain ⟨kf, hkf⟩ : ∃ kf : Value -> List Int, ∀ c ls, IsTupleKey (intKind X.prog X.w) h2 ls c -> kf (.ref c) = ls := by
   classical
   refine ⟨fun v => if h : ∃ ls c, v = .ref c /\ IsTupleKey (intKind X.prog X.w) h2 ls c then h.choose else [], fun c ls hk => ?_⟩
   have hx : ∃ ls c', Value.ref c = .ref c' /\ IsTupleKey (intKind X.prog X.w) h2 ls c' := ⟨ls, c, rfl, hk⟩
   show (if h : ∃ ls c', Value.ref c = .ref c' /\ IsTupleKey (intKind X.prog X.w) h2 ls c' then h.choose else []) = ls
   rw [dif_pos hx]
   obtain ⟨c', e1, e2⟩ := hx.choose_spec
   cases e1
   exact zk7 e2 hk
  have pm : ((es.toList.map (·.2)).map kf).Perm (zdx kss) := by
   refine zdM (zbK _ _) (fun ls hls => ?_) ?_
   ·obtain ⟨c, j, k, a1, a2, _⟩ := S.all ls hls
    have m := (xc4 a1).1
    rw [<- hkf c ls a2]
    exact xdx (xdx (f := fun e : Int × Value => e.2) m)
   ·rw [xae, xae, xaj]; exact S.n
  refine ⟨.ref s.heap.objs.size, _, I.laid (t' := tk) (h' := h2) kp (xai _) (show zbv X.prog X.w _ h2 _ (.ext (zv3 X.w X.K G s.heap.objs.size (zdx kss))) from ⟨⟨o, es, ep, t, kf, S.get, S.ex, S.dat, S.fits, S.pln, S.ld, S.srt, fun e he => ?_, pm⟩, ⟨o, S.get⟩, ?_⟩), rfl, q _ (I.hok.fresh (xai _))⟩
  ·obtain ⟨c, ls, e1, e2, e3, e4⟩ := el e he
   refine ⟨c, e1, ?_⟩
   rw [e1, hkf c ls e2]; exact e4
  ·rintro h1 h3 ⟨o, es, ep, t, kf, g, r1⟩ kk
   exact ⟨o, es, ep, t, kf, kk o g, r1⟩
def zv4 (w : World) (K : xFg) : List V -> Hp -> VK -> Prop := fun xs H Q => ∃ (a : Addr) (kss : List (List Int)) (G : Hp), xs = [.ref a] /\ zai G H /\ H a = some (.ext (zv3 w K G a kss)) /\ (∀ ks ∈ kss, ks ≠ []) /\ kss.Nodup /\ kss.length < 64 /\ ∀ l zs, H l = none -> zav K G zs (zfO kss) -> Q (.ref l) (upd H l (.lst zs))
theorem zlW (hc : X.calm = true) : zbw X (.builtin "sorted") (zv4 X.w X.K) := by
 intro pins s U H xs us Q I rs h
 obtain ⟨a, kss, G, rfl, sm, hq, hne, hnd, h64, q⟩ := h
 obtain ⟨u, rfl, rx⟩ := zeu rs
 cases rx
 obtain ⟨⟨o, es, ep, t, kf, g1, g2, g3, g4, g5, g6, g7, g8, g9⟩, _⟩ := (show zbv X.prog X.w H s.heap a (.ext (zv3 X.w X.K G a kss)) from I.hok a _ hq)
 have hn : es.size = kss.length := by have := g9.length_eq; simpa using this
 refine zlV (vs₀ := fun _ => True) (zs7 g2 g3 g4 rfl g5 g6 g7) (I.ok.hd hc) g1 (by omega) fun vs hl hv => ?_
 have ev : vs = (zbk X.w a ep es).toList.map (·.2) := by
  refine xdf fun i => ?_
  cases e : vs[i]? with
  | none =>
   rw [xch] at e
   rw [xch.mpr]
   rw [xae, xaj, zeD]; omega
  | some v =>
   obtain ⟨e', x1, x2⟩ := hv i v e
   rw [xa6, xas, x1, x2]; rfl
 have pv : vs.Perm (es.toList.map (·.2)) := by rw [ev]; exact (zgS X.w a ep es).map _
 have pk : (vs.map kf).Perm kss := (pv.map kf).trans g9
 have tk : ∀ v ∈ vs, ∃ c, v = .ref c /\ SqT X.K G c ((kf v).map V.int) := fun v hv => by
  obtain ⟨e, he, rfl⟩ := xav.mp (pv.mem_iff.mp hv)
  exact g8 e he
 have tkeys : ∀ vs : List Value, (∀ v ∈ vs, ∃ c, v = .ref c /\ SqT X.K G c ((kf v).map V.int)) -> (∀ v ∈ vs, kf v ≠ []) -> zce X.prog X.w s.heap vs (vs.map kf) := fun vs => by
  induction vs with
  | nil => intro _ _; trivial
  | cons v vs ih =>
   intro h1 h2
   obtain ⟨c, e1, e2⟩ := h1 v xab
   exact ⟨⟨c, e1, zfS I (zai.sqT sm e2), h2 v xab⟩, ih (fun v hv => h1 v (xad _ hv)) fun v hv => h2 v (xad _ hv)⟩
 refine ⟨vs.map kf, tkeys vs tk (fun v hv => hne _ (pk.mem_iff.mp (xdx hv))), (pk.nodup_iff).mpr hnd, fun p D h2 tkk e a1 a2 a3 a4 a5 => ?_⟩
 have ek : p.toList.map (fun i => (vs.map kf).getD i []) = zfO kss := by
  rw [zfQ ((pk.nodup_iff).mpr hnd) a1 a2]
  exact zfh ((zbg _).trans (pk.trans (zbg _).symm)) (zdp _ ((pk.nodup_iff).mpr hnd)) (zdp _ hnd)
 have idx : ∀ i ∈ p.toList, ∃ v ∈ vs, vs.getD i Value.none = v /\ (vs.map kf).getD i [] = kf v := fun i hi => by
  have hb := xaz.mp (a1.perm.mem_iff.mp hi)
  rw [xae] at hb
  exact ⟨vs[i], xbz _, by simp [hb], by simp [hb]⟩
 have zs : ∀ is : List Nat, (∀ i ∈ is, ∃ v ∈ vs, vs.getD i Value.none = v /\ (vs.map kf).getD i [] = kf v) -> ∃ zs : List V, zav X.K G zs (is.map fun i => (vs.map kf).getD i []) /\ zaP zs (is.map fun i => vs.getD i Value.none) := fun is => by
  induction is with
  | nil => intro _; exact ⟨[], trivial, .nil⟩
  | cons i is ih =>
   intro hi
   obtain ⟨v, m, e1, e2⟩ := hi i xab
   obtain ⟨c, c1, c2⟩ := tk v m
   obtain ⟨zs, z1, z2⟩ := ih fun j hj => hi j (xad _ hj)
   refine ⟨.ref c :: zs, ⟨⟨c, rfl, ?_⟩, z1⟩, .cons ?_ z2⟩
   ·show SqT X.K G c (List.map V.int ((vs.map kf).getD i []))
    rw [e2]; exact c2
   ·show L2.RelV (V.ref c) (vs.getD i Value.none)
    rw [e1]; exact c1
 obtain ⟨zs, z1, z2⟩ := zs p.toList idx
 rw [ek] at z1
 have zl : zs.length <= sizeLine := by rw [z2.length, xae, xaj, a1.size, xae, sizeLine_eq]; omega
 obtain ⟨I2, hD⟩ := zv2 (t' := tkk) (o := .lst zs) I a4 a3 ⟨zl, _, e, z2, a5⟩
 exact ⟨.ref D, _, I2, rfl, q D zs hD z1⟩
def zrO (K : xFg) : List V -> Hp -> VK -> Prop := fun xs H Q => ∃ (p : Addr) (ys : List V) (kss : List (List Int)) (G : Hp), xs = [.ref p] /\ SqL K H p ys /\ zai G H /\ zav K G ys kss /\ (∀ ks ∈ kss, ks ≠ []) /\ kss.Nodup /\ kss.length < 64 /\ ∀ l zs, H l = none -> zav K G zs (zfO kss) -> Q (.ref l) (upd H l (.lst zs))
theorem zfT {pins : List (Addr × Obj)} {U : L2.St} {H : Hp} {s : Shared} (I : Inv X pins U H s) : ∀ {vs : List V} {kss : List (List Int)} {us : List Value}, zav X.K H vs kss -> zaP vs us -> (∀ ks ∈ kss, ks ≠ []) -> zce X.prog X.w s.heap us kss
 | [], [], _, _, h, _ => by cases h; trivial
 | v :: vs, ks :: kss, _, ⟨⟨b, e1, e2⟩, t⟩, h, hn => by
  cases h with
  | cons q r =>
   subst e1
   cases q
   exact ⟨⟨b, rfl, zfS I e2, hn ks xab⟩, zfT I t r fun ks h => hn ks (xad _ h)⟩
 | [], _ :: _, _, h, _, _ => h.elim
 | _ :: _, [], _, h, _, _ => h.elim
theorem zk9 {K : xFg} {G : Hp} : ∀ {vs : List V} {kss : List (List Int)} {us : List Value}, zav K G vs kss -> zaP vs us -> ∀ j, j < kss.length -> ∃ c, us.getD j Value.none = Value.ref c /\ SqT K G c ((kss.getD j []).map V.int)
 | [], [], _, _, _, j, hj => absurd hj (by simp)
 | v :: vs, ks :: kss, _, ⟨⟨b, e1, e2⟩, t⟩, h, j, hj => by
  cases h with
  | cons q r =>
   subst e1
   cases q
   cases j with
   | zero => exact ⟨b, rfl, e2⟩
   | succ j =>
    obtain ⟨c, c1, c2⟩ := zk9 t r j (by simpa using hj)
    exact ⟨c, by simpa using c1, by simpa using c2⟩
 | [], _ :: _, _, h, _, _, _ => h.elim
 | _ :: _, [], _, h, _, _, _ => h.elim
theorem zlX : zbw X (.builtin "sorted") (zrO X.K) := by
 intro pins s U H xs us Q I rs h
 obtain ⟨p, ys, kss, G, rfl, hq, sm, ht, hne, hnd, h64, q⟩ := h
 obtain ⟨u, rfl, rx⟩ := zeu rs
 cases rx
 obtain ⟨its, rv, pl, hz⟩ := I.list hq
 have hlen : its.length = kss.length := by rw [<- rv.length, ht.length]
 refine zjB pl.isList (zfT I (ht.mono sm) rv hne) hnd (by omega) fun p D h2 e a1 a2 a3 a4 a5 => ?_
 have ek := zfQ hnd a1 a2
 have zs : ∀ is : List Nat, (∀ i ∈ is, i < kss.length) -> ∃ zs : List V, zav X.K G zs (is.map fun i => kss.getD i []) /\ zaP zs (is.map fun i => its.getD i Value.none) := fun is => by
  induction is with
  | nil => intro _; exact ⟨[], trivial, .nil⟩
  | cons i is ih =>
   intro hi
   obtain ⟨c, c1, c2⟩ := zk9 ht rv i (hi i xab)
   obtain ⟨zs, z1, z2⟩ := ih fun j hj => hi j (xad _ hj)
   exact ⟨.ref c :: zs, ⟨⟨c, rfl, c2⟩, z1⟩, .cons c1 z2⟩
 obtain ⟨zs, z1, z2⟩ := zs p.toList fun i hi => xaz.mp (a1.perm.mem_iff.mp hi)
 rw [ek] at z1
 have zl : zs.length <= sizeLine := by rw [z2.length, xae, xaj, a1.size, sizeLine_eq]; omega
 obtain ⟨I2, hD⟩ := zv2 (t' := s.toks) (o := .lst zs) I a4 a3 ⟨zl, _, e, z2, a5⟩
 exact ⟨.ref D, _, I2, rfl, q D zs hD z1⟩
def zch (ks : List Int) : D := .tup (ks.map D.int)
theorem ziR {K : xFg} {mg : Str -> Option Value} {G : Hp} : ∀ ks : List Int, Reps K mg G (ks.map D.int) (ks.map V.int)
 | [] => rfl
 | k :: ks => ⟨.int k, ks.map V.int, rfl, rfl, ziR ks⟩
theorem zd0 {K : xFg} {mg : Str -> Option Value} {G : Hp} : ∀ {vs : List V} {kss : List (List Int)}, zav K G vs kss -> Reps K mg G (kss.map zch) vs
 | [], [], _ => rfl
 | v :: vs, ks :: kss, ⟨⟨b, e1, e2⟩, t⟩ => ⟨v, vs, rfl, ⟨b, _, e1, e2, ziR ks⟩, zd0 t⟩
 | [], _ :: _, h => h.elim
 | _ :: _, [], h => h.elim
def ze5 (kss : List (List Int)) : Bool := kss.all fun ks => !ks.isEmpty
theorem zla {kss : List (List Int)} (h : ze5 kss = true) : ∀ ks ∈ kss, ks ≠ [] := fun ks hk e => by
 have := xay.mp h ks hk
 subst e
 exact absurd this (by decide)
def zeE : D -> R (List D)
 | .lst ds => match zat ds with
  | some kss => bif Nat.ble (zdx kss).length 18 && ze5 (zdx kss) then .ok ((zfO (zdx kss)).map zch) else .bad
  | none => .bad
 | _ => .bad
def zhA (f : DSt -> R D) : DSt -> R (List D) := fun U => (f U).bind zeE
theorem zlY {k : Nat} (C : XC X E k) (hm1 : X.mg "sorted" = none) (hm2 : X.mg "set" = none) {e : Expr} {fe : DSt -> R D} {p1 p2 pos pos2 : Pos} (hfe : DE X E e fe) (hg1 : Gl X "sorted" := by rfl) (hg2 : Gl X "set" := by rfl)
  (he1 : starEach [.Call (.Name "set" p2) [e] [] pos2] X.env = (false, eval (.Call (.Name "set" p2) [e] [] pos2) X.env) :: starEach [] X.env := by rfl) (hpl1 : (backTo pos (starEach [] X.env)).any (·.1) = false := by rfl)
  (he2 : starEach [e] X.env = (false, eval e X.env) :: starEach [] X.env := by rfl) (hpl2 : (backTo pos2 (starEach [] X.env)).any (·.1) = false := by rfl) :
  DF X E (.Call (.Name "sorted" p1) [.Call (.Name "set" p2) [e] [] pos2] [] pos) (zhA fe) := by
 refine PE.mono' (zfa (zlW C.calm) hg1 hm1 PyProof.Rows.boot_sorted (zg2 (zdP (zow C.calm C.room) hg2 hm2 (by rfl) (zaI hfe zbS he2) (by decide) (by decide) he2 hpl2) zjT he1) (by decide) (by decide) he1 hpl1) fun U H Q ⟨G, Ud, ok, q⟩ => ?_
 refine ⟨G, Ud, ok, (show RW ((zaa fe zaj) Ud) _ _ from ?_)⟩
 unfold zaa
 have q2 := q.of_bind
 cases hf : fe Ud with
 | bad => rw [hf] at q2; exact q2.elim
 | err x => rw [hf] at q2; exact (show zau X.K X.mg E G H x from q2)
 | ok d =>
  rw [hf] at q2
  have q3 : RW (zeE d) (zc1 X.K X.mg Q G H) (zau X.K X.mg E G H) := q2
  rintro ws G2 H2 s2 ⟨v, _, e1, r3, r4⟩
  subst e1
  cases r4
  cases d with
  | lst ds =>
   obtain ⟨b, vs, rfl, hb, hv⟩ := r3
   cases hs' : zat ds with
   | none => simp only [zeE, hs'] at q3; exact q3.elim
   | some kss =>
    cases hC : (Nat.ble (zdx kss).length 18 && ze5 (zdx kss)) with
    | false => simp only [zeE, hs', hC, cond_false] at q3; exact q3.elim
    | true =>
     simp only [zeE, hs', hC, cond_true] at q3
     obtain ⟨c1, c2⟩ := xcw.mp hC
     rw [Nat.ble_eq] at c1
     refine ⟨b, vs, kss, G2, rfl, s2.e.seq hb, s2.e, zc7 hs' hv, c1, fun a ha => ?_⟩
     have q4 : zc1 X.K X.mg Q G H ((zfO (zdx kss)).map zch) := q3
     have st1 := s2.trans (.hid (o := .ext (zv3 X.w X.K G2 a (zdx kss))) s2.e ha)
     refine ⟨a, zdx kss, G2, rfl, st1.e, zae, zla c2, zbK _ _, by omega, fun l zs hl hz => ?_⟩
     have st2 := st1.trans (.hid (o := .lst zs) st1.e hl)
     exact q4 l zs G2 _ st2 (st1.h.free hl) zae (st1.e.free hl) (zd0 hz)
  | _ => exact (show False from q3).elim
def zd1 : List (List Int) -> Bool
 | [] => true
 | x :: xs => !xs.contains x && zd1 xs
theorem ziS : ∀ {xs : List (List Int)}, zd1 xs = true -> xs.Nodup
 | [], _ => List.Pairwise.nil
 | x :: xs, h => by
  unfold zd1 at h
  obtain ⟨h1, h2⟩ := xcw.mp h
  refine xbh.mpr ⟨fun m => ?_, ziS h2⟩
  rw [xdq.mpr m] at h1
  exact absurd h1 (by decide)
def zgT : D -> R (List D)
 | .lst ds => match zat ds with
  | some kss => bif zd1 kss && (ze5 kss && Nat.blt kss.length 64) then .ok ((zfO kss).map zch) else .bad
  | none => .bad
 | _ => .bad
abbrev zgU := g1 zgT
theorem zqh {K : xFg} {mg : Str -> Option Value} : zxv K mg (zrO K) zgU := by
 intro G H ds vs Q e rp q
 match ds, rp, q with
 | [], rp, q => exact (show False from q).elim
 | [d], rp, q =>
  obtain ⟨v, rfl, r⟩ := rp.one
  cases d with
  | lst xs =>
   obtain ⟨a, vs, rfl, h1, h2⟩ := r
   have q' : RW (zgT (.lst xs)) (zc1 K mg Q G H) (fun _ => False) := q
   cases hs' : zat xs with
   | none => simp only [zgT, hs'] at q'; exact q'.elim
   | some kss =>
    cases hC : (zd1 kss && (ze5 kss && Nat.blt kss.length 64)) with
    | false => simp only [zgT, hs', hC, cond_false] at q'; exact q'.elim
    | true =>
     simp only [zgT, hs', hC, cond_true] at q'
     obtain ⟨c1, c2⟩ := xcw.mp hC
     obtain ⟨c2, c3⟩ := xcw.mp c2
     rw [Nat.blt_eq] at c3
     have q4 : zc1 K mg Q G H ((zfO kss).map zch) := q'
     exact ⟨a, vs, kss, G, rfl, e.seq h1, e, zc7 hs' h2, zla c2, ziS c1, c3, fun l zs hl hz => q4 l zs G _ (.hid e hl) hl zae (e.free hl) (zd0 hz)⟩
  | _ => exact (show False from q).elim
 | _ :: _ :: _, rp, q => exact (show False from q).elim
theorem zqi {e : Expr} {es : List Expr} {fs : DSt -> R (List D)} {p pos : Pos} (hm : X.mg "sorted" = none) (ha : DA X E (e :: es) fs) (hg : Gl X "sorted" := by rfl) (he : starEach (e :: es) X.env = (false, eval e X.env) :: starEach es X.env := by rfl) (hpl : (backTo pos (starEach es X.env)).any (·.1) = false := by rfl) : DF X E (.Call (.Name "sorted" p) (e :: es) [] pos) (znw zgU fs) := by
 refine PE.mono' (zfa zlX hg hm PyProof.Rows.boot_sorted ha (by decide) (by decide) he hpl) fun U H Q ⟨G, Ud, ok, q⟩ => ?_
 refine ⟨G, Ud, ok, q.of_bind.mono (fun ds _ z vs G' H' s r => ?_) fun _ z => z⟩
 obtain ⟨d, e1, z⟩ := zcw z
 exact zqh G' H' ds vs Q s.e r (by rw [e1]; exact z.step s)
end
end DL
end
namespace DL
open L2 PyProof.Rows PySem.W PySem.Spec
def zmi (h : Heap) (d : Addr) (es : Array DictEntry) (ep : Nat) : Prop := ∃ o, h.get? d = some o /\ o.ExactDict /\ o.data = .dict es ep
section
variable {prog : Program} {w : World} {A : Around} {E : Value -> Shared -> Prop} {s : Shared} {d it : Addr} {es : Array DictEntry} {ep i : Nat}
theorem zmi.at {h h' : Heap} (x : zmi h d es ep) (e : ∀ o, h.get? d = some o -> h'.get? d = some o) : zmi h' d es ep := let ⟨o, a, b⟩ := x; ⟨o, e o a, b⟩
theorem zmi.type (x : zmi s.heap d es ep) : s.TypeIs (.ref d) "dict" := let ⟨o, a, b, _⟩ := x; ⟨o, a, b.1⟩
theorem zmi.lt {h : Heap} (x : zmi h d es ep) : d < h.objs.size := let ⟨_, a, _⟩ := x; xaf a
theorem zqj {Q : Value -> Shared -> Prop} (hd : (d == sysModules) = false) (hm : zmi s.heap d es ep)
  (hQ : Q (.ref s.heap.objs.size) { s with heap := s.heap.push { cls := .type "dict_keyiterator", data := .fields #[.ref d, .int 0 0, .int es.size 0, .int ep 0] } }) : wpAny (model prog w) A (pyIter (.ref d)) Q E s := by
 obtain ⟨o, ho, hc, hdat⟩ := id hm
 have T : s.TypeIs (.ref d) "dict" := hm.type
 refine wpAny_pyIter_slot T F.slot_dict_iter (wpAny_call_entry F.slot_dict_iter T F.entry_dict_iter ?_ (F.args_dict_iter_1 _))
 unfold Builtin.«dict.__iter__»; refine wpAny_bind ?_; unfold Builtin.Dict.dictSlotNone
 refine wpAny_bind (wpAny_notOrdered_dict T ?_); show wpAny _ _ (pure (Value.ref d)) _ _ s
 refine wpAny_pure ?_; show wpAny _ _ (Builtin.Dict.showsAll d >>= _) _ _ s
 unfold Builtin.Dict.showsAll; rw [if_neg (by rw [hd]; exact xaw)]
 refine wpAny_bind (wpAny_pure (wpAny_bind (wpAny_dictEntries ho hdat (wpAny_bind (wpAny_dictEpoch ho hdat ?_)))))
 refine wpAny_bind (wpAny_newObj_type (wpAny_pure ⟨_, rfl, "dict_keyiterator", _, ⟨_, xal _ rfl, rfl⟩, F.slot_dict_keyiterator_next.lookup, by simpa [rawInt] using hQ⟩))
theorem zqk {Q : Option Value -> Shared -> Prop} (hit : s.heap.IsKeyIter it d i es.size ep) (hm : zmi s.heap d es ep) (hx : i < es.size)
  (hQ : ∀ h', h'.IsKeyIter it d (i + 1) es.size ep -> Heap.SameBut it s.heap h' -> Q (some es[i].key) { s with heap := h' }) : wpAny (model prog w) A (pyNext (.ref it)) Q E s := by
 obtain ⟨⟨o, ho, hc, hd⟩, od, hod, hcd, hdd⟩ := And.intro (id hit) (id hm)
 unfold pyNext
 refine wpAny_bind (wpAny_attempt (wpAny_callSpecial?_slot (name := Str.ofString "__next__") hit.typeIs F.slot_dict_keyiterator_next (wpAny_call_entry F.slot_dict_keyiterator_next hit.typeIs F.entry_dict_keyiterator_next ?_ (F.args_dict_keyiterator_next_1 _))))
 refine wpAny_bind (wpAny_pure (wpAny_bind (wpAny_bind ?_)))
 first
  | refine wpAny_bind (wpAny_typeNameOfWhole_keyiter hit.typeIs (wpAny_pure (wpAny_bind (wpAny_fieldsOf ho hd ?_))))
  | refine wpAny_bind (wpAny_typeNameOf_keyiter hit.typeIs (wpAny_pure (wpAny_bind (wpAny_fieldsOf ho hd ?_))))
 simp only [show Builtin.Dict_items.ownsTuple "dict_keyiterator" = false by decide, xbo, if_false]
 show wpAny _ _ (if (Value.ref d == Value.none) = true then _ else _) _ _ s; rw [if_neg (show ¬ ((Value.ref d == Value.none) = true) from xaw)]
 refine wpAny_bind (wpAny_pure (wpAny_bind (wpAny_dictEntries hod hdd ?_))); rw [if_neg (by simp)]
 refine wpAny_bind (wpAny_pure (wpAny_bind (wpAny_dictEpoch hod hdd ?_))); rw [if_neg (by simp)]
 refine wpAny_pure ?_; simp only [show ¬ ((i : Int) < 0) from by omega, if_false, xb6, xa1 hx]
 refine wpAny_bind ?_
 first
  | refine wpAny_bind (wpAny_typeNameOfWhole_keyiter hit.typeIs (wpAny_pure (wpAny_bind (wpAny_isOneOf_keyiter hit.typeIs ?_))))
  | refine wpAny_bind (wpAny_typeNameOf_keyiter hit.typeIs (wpAny_pure (wpAny_bind (wpAny_isOneOf_keyiter hit.typeIs ?_))))
 show wpAny _ _ (setField (.ref it) 1 (rawInt ((i : Int) + 1)) >>= _) _ _ s; refine wpAny_bind (wpAny_setField ho hd (by simp) ?_)
 have hit' : (s.heap.update it (Obj.mapFields (·.setIfInBounds 1 (rawInt ((i : Int) + 1))))).IsKeyIter it d (i + 1) es.size ep := ⟨_, xb2 _ ho (Obj.isFreed_of_fields (Obj.data_mapFields hd _)), (Obj.cls_mapFields ..).trans hc, by rw [Obj.data_mapFields hd]; simp [rawInt]⟩
 refine wpAny_bind (wpAny_holding (wpAny_bind (wpAny_isOneOf_keyiter (s := { s with heap := s.heap.update it (Obj.mapFields (·.setIfInBounds 1 (rawInt ((i : Int) + 1)))) }) hit'.typeIs ?_)))
 show wpAny _ _ (pure es[i].key) _ _ _; exact wpAny_pure (wpAny_pure ⟨_, rfl, wpAny_pure (hQ _ hit' (Heap.SameBut.update ..))⟩)
theorem ztb {Q : Option Value -> Shared -> Prop} (hh : A.handled = none) (hit : s.heap.IsKeyIter it d i es.size ep) (hm : zmi s.heap d es ep) (hx : es.size <= i)
  (hQ : ∀ h', Heap.ExtBut it s.heap h' -> Q none { s with heap := h' }) : wpAny (model prog w) A (pyNext (.ref it)) Q E s := by
 obtain ⟨⟨o, ho, hc, hd⟩, od, hod, hcd, hdd⟩ := And.intro (id hit) (id hm)
 unfold pyNext
 refine wpAny_bind (wpAny_attempt (wpAny_callSpecial?_slot (name := Str.ofString "__next__") hit.typeIs F.slot_dict_keyiterator_next (wpAny_call_entry F.slot_dict_keyiterator_next hit.typeIs F.entry_dict_keyiterator_next ?_ (F.args_dict_keyiterator_next_1 _))))
 refine wpAny_bind (wpAny_pure (wpAny_bind (wpAny_bind ?_)))
 first
  | refine wpAny_bind (wpAny_typeNameOfWhole_keyiter hit.typeIs (wpAny_pure (wpAny_bind (wpAny_fieldsOf ho hd ?_))))
  | refine wpAny_bind (wpAny_typeNameOf_keyiter hit.typeIs (wpAny_pure (wpAny_bind (wpAny_fieldsOf ho hd ?_))))
 simp only [show Builtin.Dict_items.ownsTuple "dict_keyiterator" = false by decide, xbo, if_false]
 show wpAny _ _ (if (Value.ref d == Value.none) = true then _ else _) _ _ s; rw [if_neg (show ¬ ((Value.ref d == Value.none) = true) from xaw)]
 refine wpAny_bind (wpAny_pure (wpAny_bind (wpAny_dictEntries hod hdd ?_))); rw [if_neg (by simp)]
 refine wpAny_bind (wpAny_pure (wpAny_bind (wpAny_dictEpoch hod hdd ?_))); rw [if_neg (by simp)]
 refine wpAny_pure ?_; simp only [show ¬ ((i : Int) < 0) from by omega, if_false, xb6, xcp hx]
 refine wpAny_bind ?_
 first
  | refine wpAny_bind (wpAny_typeNameOfWhole_keyiter hit.typeIs (wpAny_pure ?_))
  | refine wpAny_bind (wpAny_typeNameOf_keyiter hit.typeIs (wpAny_pure ?_))
 show wpAny _ _ (setField (.ref it) 0 .none >>= _) _ _ s; refine wpAny_bind (wpAny_setField ho hd (by simp) ?_)
 show wpAny _ _ (newExc (.type "StopIteration") [] >>= _) _ _ _; refine wpAny_bind ?_; simp only [newExc, newTuple]
 refine wpAny_bind (wpAny_newObj_type (wpAny_bind (m := firstArgMember _ _) (wpAny_of_eq (a := Value.none) (by first | rfl | (simp only [firstArgMember]; rfl)) ?_)) (by size_fits))
 refine wpAny_newObj_type ?_ (by size_fits); simp only [raiseNew]
 refine wpAny_bind (wpAny_handled ?_); rw [show A.in1.handled = none from hh]
 refine wpAny_bind (wpAny_pure (wpAny_throw ?_)); refine wpAny_bind (wpAny_isInstance (T := "StopIteration") (b := true) ⟨_, xal _ rfl, rfl⟩ isSubtype_stop ?_)
 exact wpAny_pure (hQ _ (((Heap.SameBut.update ..).extBut.push _).push _))
theorem zox (hh : A.handled = none) (hne : d ≠ it) : Walks prog w A it [it, d] [it] es.size (fun i v => ∃ e, es[i]? = some e /\ v = e.key) (fun i h => h.IsKeyIter it d i es.size ep /\ zmi h d es ep) where
 sub := fun b hb => by rw [xa9] at hb; rw [hb]; exact xab
 frame := fun _ _ _ st hk => ⟨st.1.at fun o e => hk it xab o e, st.2.at fun o e => hk d (xad _ xab) o e⟩
 item := fun i s Q E hi st hQ => zqk st.1 st.2 hi fun h' hit' hs' =>
  hQ _ h' s.toks ⟨es[i], by simp [hi], rfl⟩ ⟨hit', st.2.at fun o e => hs'.extBut d o hne e⟩ fun b o hb e => hs'.extBut b o (fun z => hb (by rw [z]; exact xab)) e
 done := fun s Q E st hQ => ztb hh st.1 st.2 (xai _) fun h' he' => hQ h' s.toks fun b o hb e => he' b o (fun z => hb (by rw [z]; exact xab)) e
 self := fun _ _ _ _ st hQ => wpAny_pyIter_keyiter st.1 hQ
theorem ztc (lo : (d == sysModules) = false) : KdlSrc prog w "dict" d d es.size (fun i v => ∃ e, es[i]? = some e /\ v = e.key) (fun h => zmi h d es ep) where
 type := fun _ x => x.type
 there := fun _ x => ⟨x.lt, x.lt⟩
 keep := fun _ _ x hk => x.at fun o e => hk d (.inl rfl) o e
 notList := by decide
 notTuple := by decide
 hint := fun _ _ _ _ x hq => kdl_hint_dict x.type hq
 iter := fun _ _ hh x => ⟨_, _, (fun _ _ hq => zqj lo x hq), zox hh (xat x.lt), ⟨⟨_, xal _ rfl, rfl, rfl⟩, x.at fun o e => xaa _ e⟩⟩
end
end DL
section
set_option maxHeartbeats 2000000
namespace DL
open L2 PyProof.Rows
abbrev tkI (P : Program) (w : World) := tupleKind (intKind P w)
def zlb (P : Program) (w : World) (K : xFg) (G : Hp) (a : Addr) (kss : List (List Int)) : Heap -> Prop := fun h => (a == sysModules) = false /\ ∃ (o : Obj) (es : Array DictEntry) (ep : Nat) (xs : List (List Int × Addr × Value)), h.get? a = some o /\ o.ExactDict /\ o.data = .dict es ep /\
 es.toList = xs.map (entryOfKey (tkI P w)) /\ xs.map (·.1) = kss /\ kss.Nodup /\ ∀ x ∈ xs, SqT K G x.2.1 (x.1.map V.int)
def zdO (kss : List (List Int)) (ks : List Int) : List (List Int) := if ks ∈ kss then kss else kss ++ [ks]
theorem zgV {xs : List (List Int × Addr × Value)} {k : List Int} {b : Addr} {v : Value} (h : k ∈ xs.map (·.1)) : storedH xs k b v = xs.map (putAt k v) := by
 unfold storedH
 rw [if_pos]
 obtain ⟨x, hx, e⟩ := xav.mp h
 unfold atKey
 rw [Option.isSome_map, List.find?_isSome]
 exact ⟨x, hx, decide_eq_true e⟩
theorem zgW {xs : List (List Int × Addr × Value)} {k : List Int} {b : Addr} {v : Value} (h : k ∉ xs.map (·.1)) : storedH xs k b v = xs ++ [(k, b, v)] := by
 unfold storedH
 rw [if_neg]
 unfold atKey
 rw [Option.isSome_map, List.find?_isSome]
 rintro ⟨x, hx, e⟩
 exact h (xav.mpr ⟨x, hx, of_decide_eq_true e⟩)
theorem zjC {xs : List (List Int × Addr × Value)} {k : List Int} {b : Addr} {v : Value} : (storedH xs k b v).map (·.1) = zdO (xs.map (·.1)) k := by
 unfold zdO
 by_cases h : k ∈ xs.map (·.1)
 ·rw [zgV h, if_pos h, xb1]
  refine xck fun x _ => ?_
  show (putAt k v x).1 = x.1
  unfold putAt; split <;> rfl
 ·rw [zgW h, if_neg h, xcn]; rfl
theorem zlZ {xs : List (List Int × Addr × Value)} {k : List Int} {b : Addr} {v : Value} {p : List Int -> Addr -> Prop} (h : ∀ x ∈ xs, p x.1 x.2.1) (hk : p k b) : ∀ x ∈ storedH xs k b v, p x.1 x.2.1 := by
 by_cases hin : k ∈ xs.map (·.1)
 ·rw [zgV hin]
  intro x hx
  obtain ⟨y, hy, rfl⟩ := xav.mp hx
  unfold putAt
  split
  ·exact h y hy
  ·exact h y hy
 ·rw [zgW hin]
  intro x hx
  rcases xbr.mp hx with hx | hx
  ·exact h x hx
  ·rw [xa9.mp hx]; exact hk
theorem zoy {kss : List (List Int)} {ks : List Int} (h : kss.Nodup) : (zdO kss ks).Nodup := by
 unfold zdO
 split
 ·exact h
 ·rename_i n
  rw [List.nodup_append]
  exact ⟨h, by simp, fun a ha b hb e => n (by rw [<- xa9.mp hb, <- e]; exact ha)⟩
section
variable {X : Cx} {E : XK}
theorem zlc {P : Program} {w : World} {K : xFg} {G : Hp} {a : Addr} {kss : List (List Int)} : ∀ h h' : Heap, zlb P w K G a kss h -> (∀ o, h.get? a = some o -> h'.get? a = some o) -> zlb P w K G a kss h' := by
 rintro h h' ⟨c, o, es, ep, xs, g, r⟩ k
 exact ⟨c, o, es, ep, xs, k o g, r⟩
def zv5 (P : Program) (w : World) (K : xFg) : TE := fun _ H Q => ∃ G, ∀ p, H p = none -> Q (.ref p) (upd H p (.ext (zlb P w K G p [])))
theorem zql {pos : Pos} : PE X (.Dict [] [] pos) (zv5 X.prog X.w X.K) := fun pins s U H Q I ⟨G, h⟩ => by
 have big : sysModules < s.heap.objs.size := Nat.lt_trans (show sysModules < mainGlobals by decide) (I.mod.glob.keeps I.bk).lt
 refine wpAny_Dict_empty ⟨.ref s.heap.objs.size, _, I.laid (a := s.heap.objs.size) (o := .ext (zlb X.prog X.w X.K G s.heap.objs.size [])) (t' := s.toks) (fun _ _ q => xaa _ q) (xai _) ?_, rfl, h _ (I.hok.fresh (xai _))⟩
 exact (show zbv X.prog X.w _ _ _ (.ext (zlb X.prog X.w X.K G s.heap.objs.size [])) from ⟨⟨beq_eq_false_iff_ne.mpr (xba (xat big)), _, #[], 0, [], xal _ rfl, ⟨rfl, rfl, rfl⟩, rfl, rfl, rfl, List.nodup_nil, fun x hx => by cases hx⟩, ⟨_, xal _ rfl⟩, zlc⟩)
def zxJ (P : Program) (w : World) (K : xFg) (td ty tv : TE) : TS := fun D U H => tv U H fun v H1 => td U H1 fun x H2 => ty U H2 fun y H3 => ∃ a b G G' kss ks, x = .ref a /\ y = .ref b /\ H3 a = some (.ext (zlb P w K G a kss)) /\ zai G G' /\ zai G' H3 /\ SqT K G' b (List.map V.int ks) /\ kss.length < sizeLine /\
 D.nx U (upd H3 a (.ext (zlb P w K G' a (zdO kss ks))))
theorem ztd {o i value : Expr} {td ty tv : TE} {pos pos' : Pos} (hu : X.A.units + 1 < cLine) (ho : PE X o td) (hi : PE X i ty) (hv : PE X value tv) (hs : swapsWith value (some (.Subscript o i pos')) pos.line X.env = pure false) :
  PS X (.Assign [.Subscript o i pos'] value pos) (zxJ X.prog X.w X.K td ty tv) := by
 intro pins s U H D I h
 refine wpAny_Assign_Subscript (thn (hv pins s U H _ I h) fun r s1 ⟨v, H1, I1, rv, q1⟩ => thn (ho pins s1 U H1 _ I1 q1) fun u s2 ⟨x, H2, I2, rx, q2⟩ => thn (hi pins s2 U H2 _ I2 q2) fun iv s3 ⟨y, H3, I3, ry, a, b, G, G', kss, ks, ex, ey, e, s1, s2, kb, l, q3⟩ => ?_) hs
 subst ex ey
 obtain rfl : u = Value.ref a := rx
 obtain rfl : iv = Value.ref b := ry
 obtain ⟨⟨hd, ob, es, ep, xs, g1, g2, g3, g4, g5, g6, g7⟩, _⟩ := (show zbv X.prog X.w H3 s3.heap a (.ext (zlb X.prog X.w X.K G a kss)) from I3.hok a _ e)
 have lx : xs.length = kss.length := by rw [<- g5, xae]
 have dd : s3.heap.DictOfH (tkI X.prog X.w) a xs := ⟨ob, es, ep, g1, g2, g3, g4, fun x hx => zfS I3 (zai.sqT (s1.trans s2) (g7 x hx)), by rw [g5]; exact g6⟩
 refine wpAny_setItem_heap (hsz := by omega) (tupleKind_room_in1 hu) (zfS I3 (zai.sqT s2 kb)) dd fun h' dd' hs => ?_
 obtain ⟨q, es', ep', k1, k2, k3, k4, _, k5⟩ := dd'
 refine ⟨U, _, I3.write (x := a) (e := a) (by rw [e]; exact True.intro) (.inl rfl) (fun c u hc z => (hs.2 c hc).trans z) ⟨q, k1⟩ (show zbv X.prog X.w _ h' a (.ext (zlb X.prog X.w X.K G' a (zdO kss ks))) from ?_), q3⟩
 refine ⟨⟨hd, q, es', ep', _, k1, k2, k3, k4, ?_, zoy g6, ?_⟩, ⟨q, k1⟩, zlc⟩
 ·rw [zjC, g5]
 ·exact zlZ (p := fun k c => SqT X.K G' c (k.map V.int)) (fun x hx => zai.sqT s1 (g7 x hx)) kb
theorem zte {P : Program} {w : World} {es : Array DictEntry} {xs : List (List Int × Addr × Value)} (h : es.toList = xs.map (entryOfKey (tkI P w))) {vs : List Value} (hl : vs.length = es.size) (hv : ∀ (i : Nat) (v : Value), vs[i]? = some v -> ∃ e : DictEntry, es[i]? = some e /\ v = e.key) : vs = xs.map fun x => Value.ref x.2.1 := by
 have ls : es.size = xs.length := by rw [<- xaj, h, xae]
 refine xdf fun i => ?_
 cases e : vs[i]? with
 | none =>
  rw [xch] at e
  rw [xch.mpr]
  rw [xae]; omega
 | some v =>
  obtain ⟨e', x1, x2⟩ := hv i v e
  rw [<- xas, h, xa6] at x1
  rw [xa6]
  cases hx : xs[i]? with
  | none => rw [hx] at x1; cases x1
  | some x =>
   rw [hx] at x1
   have x1 := Option.some.inj x1
   subst x1 x2
   rfl
theorem zld {K : xFg} {G : Hp} : ∀ xs : List (List Int × Addr × Value), (∀ x ∈ xs, SqT K G x.2.1 (x.1.map V.int)) -> ∃ zs : List V, zav K G zs (xs.map (·.1)) /\ zaP zs (xs.map fun x => Value.ref x.2.1)
 | [], _ => ⟨[], trivial, .nil⟩
 | x :: xs, h => by
  obtain ⟨zs, z1, z2⟩ := zld xs fun y hy => h y (xad _ hy)
  exact ⟨.ref x.2.1 :: zs, ⟨⟨x.2.1, rfl, h x xab⟩, z1⟩, .cons rfl z2⟩
def zv6 (P : Program) (w : World) (K : xFg) : List V -> Hp -> VK -> Prop := fun xs H Q => ∃ (a : Addr) (kss : List (List Int)) (G : Hp), xs = [.ref a] /\ zai G H /\ H a = some (.ext (zlb P w K G a kss)) /\ kss.length <= sizeLine /\ ∀ l zs, H l = none -> zav K G zs kss -> Q (.ref l) (upd H l (.lst zs))
theorem zl0 (hc : X.calm = true) : zbw X (.type "list") (zv6 X.prog X.w X.K) := by
 intro pins s U H xs us Q I rs h
 obtain ⟨a, kss, G, rfl, sm, hq, hle, q⟩ := h
 obtain ⟨u, rfl, rx⟩ := zeu rs
 cases rx
 obtain ⟨⟨hd, ob, es, ep, xs, g1, g2, g3, g4, g5, g6, g7⟩, _⟩ := (show zbv X.prog X.w H s.heap a (.ext (zlb X.prog X.w X.K G a kss)) from I.hok a _ hq)
 have ls : es.size = xs.length := by rw [<- xaj, g4, xae]
 have lk : xs.length = kss.length := by rw [<- g5, xae]
 refine PySem.W.kdl_call (ztc hd) (I.ok.hd hc) ⟨ob, g1, g2, g3⟩ (by omega) fun h' tk acc c' kp e ac => ?_
 have ev := zte g4 (vs := acc.toList) (by rw [xaj]; exact ac.1) fun i v hi => ac.2 i v (by rw [<- xas]; exact hi)
 obtain ⟨zs, z1, z2⟩ := zld xs g7
 rw [g5] at z1
 have zl : zs.length <= sizeLine := by rw [z2.length, xae]; omega
 have hD := I.hok.fresh (xai s.heap.objs.size)
 refine ⟨.ref _, _, I.laid (t' := tk) (o := .lst zs) kp (xai _) ⟨zl, _, c', z2, ?_⟩, rfl, q _ zs hD z1⟩
 rw [<- ev, Array.toArray_toList]; exact e
end
end DL
end
section
set_option maxHeartbeats 2000000
namespace DL
open L2 PyProof.Rows
theorem zle {own : List Nat} : ∀ (U : DSt) (k j : Nat) (x : Option D), own.contains (k + j) = false -> zbD own k (U.set j x) = (zbD own k U).set j x
 | [], _, _, _, _ => rfl
 | d :: ds, k, 0, x, h => by
  show (bif own.contains k then none else x) :: zbD own (k + 1) ds = x :: zbD own (k + 1) ds
  rw [show own.contains k = false from h]; rfl
 | d :: ds, k, j + 1, x, h => by
  show (bif own.contains k then none else d) :: zbD own (k + 1) (ds.set j x) = (bif own.contains k then none else d) :: (zbD own (k + 1) ds).set j x
  rw [zle ds (k + 1) j x (by rw [show k + 1 + j = k + (j + 1) by omega]; exact h)]
theorem zgX {own : List Nat} : ∀ (U : DSt) (k j : Nat) (x : Option D), own.contains (k + j) = true -> zbD own k (U.set j x) = zbD own k U
 | [], _, _, _, _ => rfl
 | d :: ds, k, 0, x, h => by
  show (bif own.contains k then none else x) :: zbD own (k + 1) ds = (bif own.contains k then none else d) :: zbD own (k + 1) ds
  rw [show own.contains k = true from h]; rfl
 | d :: ds, k, j + 1, x, h => by
  show (bif own.contains k then none else d) :: zbD own (k + 1) (ds.set j x) = (bif own.contains k then none else d) :: zbD own (k + 1) ds
  rw [zgX ds (k + 1) j x (by rw [show k + 1 + j = k + (j + 1) by omega]; exact h)]
theorem zoz {i j : Nat} (h : j ≠ i) (U : DSt) (x : Option D) : mask [i] (U.set j x) = (mask [i] U).set j x := zle U 0 j x (by simp [h])
theorem ziT {i : Nat} (U : DSt) (x : Option D) : mask [i] (U.set i x) = mask [i] U := zgX U 0 i x (by simp)
theorem zlf {i : Nat} : ∀ (ks : List Nat) (us : List D) (U : DSt), (∀ k ∈ ks, k ≠ i) -> mask [i] (setAll U ks us) = setAll (mask [i] U) ks us
 | [], _, _, _ => by unfold setAll; rfl
 | _ :: _, [], _, _ => by unfold setAll; rfl
 | k :: ks, u :: us, U, h => by
  unfold setAll
  rw [zlf ks us _ fun j hj => h j (xad _ hj), zoz (h k xab)]
theorem zjD {α : Type} {i : Nat} : ∀ (ks : List Nat) (us : List α) (U : List (Option α)), (∀ k ∈ ks, k ≠ i) -> (setAll U ks us)[i]? = U[i]?
 | [], _, _, _ => by unfold setAll; rfl
 | _ :: _, [], _, _ => by unfold setAll; rfl
 | k :: ks, u :: us, U, h => by
  unfold setAll
  rw [zjD ks us _ fun j hj => h j (xad _ hj), xau (h k xab)]
structure OkD (P : Program) (w : World) (K : xFg) (mg : Str -> Option Value) (H0 : Hp) (i : Nat) (Ud : DSt) (U : L2.St) (G H : Hp) : Prop where
 ok : Ok K mg H0 [] (mask [i] Ud) U G H
 dct : ∃ a kss Gd, Ud[i]? = some (some (.lst (kss.map zch))) /\ U[i]? = some (some (.ref a)) /\ zai Gd G /\ H a = some (.ext (zlb P w K Gd a kss)) /\ G a = none /\ H0 a = none
section
variable {P : Program} {w : World} {K : xFg} {mg : Str -> Option Value} {G G' G0 H H' H0 : Hp} {i : Nat} {Ud : DSt} {U : L2.St}
theorem OkD.ok0 (o : OkD P w K mg H0 i Ud U G H) : Ok0 K mg (mask [i] Ud) U G H := by
 have := o.ok.masked
 rw [zfc] at this
 exact this
theorem OkD.step (o : OkD P w K mg H0 i Ud U G H) (s : zaS G H G' H') : OkD P w K mg H0 i Ud U G' H' := by
 obtain ⟨a, kss, Gd, h1, h2, h3, h4, h5, h6⟩ := o.dct
 exact ⟨o.ok.step s, a, kss, Gd, h1, h2, h3.trans s.g, s.h _ _ h4, s.c _ _ h4 h5, h6⟩
theorem OkD.set {j : Nat} {d : D} {v : V} (o : OkD P w K mg H0 i Ud U G H) (hj : j ≠ i) (h : Rep K mg G d v) : OkD P w K mg H0 i (Ud.set j (some d)) (U.set j (some v)) G H := by
 obtain ⟨a, kss, Gd, h1, h2, r⟩ := o.dct
 refine ⟨?_, a, kss, Gd, by rw [xau hj]; exact h1, by rw [xau hj]; exact h2, r⟩
 rw [zoz hj]
 exact o.ok.set (by simp) h
theorem OkD.setAll {ks : List Nat} {us : List D} {ws : List V} (o : OkD P w K mg H0 i Ud U G H) (hk : ∀ k ∈ ks, k ≠ i) (h : Reps K mg G us ws) : OkD P w K mg H0 i (DL.setAll Ud ks us) (DL.setAll U ks ws) G H := by
 obtain ⟨a, kss, Gd, h1, h2, r⟩ := o.dct
 refine ⟨?_, a, kss, Gd, by rw [zjD ks us Ud hk]; exact h1, by rw [zjD ks ws U hk]; exact h2, r⟩
 rw [zlf ks us Ud hk]
 exact o.ok.setAll (fun k _ => by simp) h
end
section
variable (P : Program) (w : World) (K : xFg) (mg : Str -> Option Value) (E : XK)
def zoA (G0 H0 : Hp) (i : Nat) (Dn : zmn) (G : Hp) : Out -> Prop
 | .nx Ud' => ∀ U' G' H', OkD P w K mg H0 i Ud' U' G' H' -> zaS G0 H0 G' H' -> zai G G' -> Dn.nx U' H'
 | .rt d => ∀ v G' H', zaS G0 H0 G' H' -> Rep K mg G' d v -> Dn.rt v H'
 | .rf ds => ∀ a vs G' H', zaS G0 H0 G' H' -> H0 a = none -> H' a = some (.lst vs) -> G' a = none -> Reps K mg G' ds vs -> Dn.rt (.ref a) H'
 | .bk Ud' => ∀ U' G' H', OkD P w K mg H0 i Ud' U' G' H' -> zaS G0 H0 G' H' -> zai G G' -> Dn.bk U' H'
 | .ct Ud' => ∀ U' G' H', OkD P w K mg H0 i Ud' U' G' H' -> zaS G0 H0 G' H' -> zai G G' -> Dn.ct U' H'
def tDc (G0 H0 : Hp) (i : Nat) (f : DSt -> R Out) : TS := fun Dn U H => ∃ G Ud, OkD P w K mg H0 i Ud U G H /\ zaS G0 H0 G H /\ RW (f Ud) (zoA P w K mg G0 H0 i Dn G) (zau K mg E G0 H0)
end
theorem zoA.shift {P : Program} {w : World} {K : xFg} {mg : Str -> Option Value} {G0 H0 G G' : Hp} {i : Nat} {Dn : zmn} (s : zai G G') {o : Out} (h : zoA P w K mg G0 H0 i Dn G o) : zoA P w K mg G0 H0 i Dn G' o := by
 cases o with
 | nx _ => exact fun a b c d e f => h a b c d e (s.trans f)
 | bk _ => exact fun a b c d e f => h a b c d e (s.trans f)
 | ct _ => exact fun a b c d e f => h a b c d e (s.trans f)
 | rt _ => exact h
 | rf _ => exact h
def DD (X : Cx) (E : XK) (i : Nat) (st : Stmt) (f : DSt -> R Out) : Prop := ∀ G0, PS X st (tDc X.prog X.w X.K X.mg E G0 X.H₀ i f)
def DDs (X : Cx) (E : XK) (i : Nat) (st : List Stmt) (f : DSt -> R Out) : Prop := ∀ G0, PSs X st (tDc X.prog X.w X.K X.mg E G0 X.H₀ i f)
section
variable {X : Cx} {E : XK} {i : Nat} {st : Stmt} {zaD : List Stmt} {f g : DSt -> R Out} {pos : Pos}
theorem ztf : DDs X E i [] za0 := fun G0 => PSs.mono' zmo fun Dn U H ⟨G, Ud, ok, s0, q⟩ => (show zoA X.prog X.w X.K X.mg G0 X.H₀ i Dn G (.nx Ud) from q) U G H ok s0 (zai.refl _)
theorem zlg (h1 : DD X E i st f) (h2 : DDs X E i zaD g) : DDs X E i (st :: zaD) (zaG f g) := fun G0 => PSs.mono' (zg1 (h1 G0) (h2 G0)) fun Dn U H ⟨G, Ud, ok, s0, q⟩ => by
 refine ⟨G, Ud, ok, s0, q.of_bind.mono (fun o _ z => ?_) fun _ z => z⟩
 cases o with
 | nx U1 =>
  intro U' G' H' ok' s' e'
  exact ⟨G', U1, ok', s', (show RW (g U1) _ _ from z).mono (fun o _ z => z.shift e') fun _ z => z⟩
 | rt d => exact z
 | rf d => exact z
 | bk d => exact z
 | ct d => exact z
theorem zhB (h1 : DD X E i st f) : DDs X E i [st] f := fun G0 => zmp (h1 G0)
def eM (i : Nat) {α : Type} (c : DSt -> R α) : DSt -> R α := fun U => c (mask [i] U)
theorem zxK {c : Expr} {a b : List Stmt} {fc : DSt -> R Bool} (hc : DT X E c fc) (ha : DDs X E i a f) (hb : DDs X E i b g) : DD X E i (.If c a b pos) (sIf (eM i fc) f g) := fun G0 =>
 PS.mono' (zt4 hc (ha G0) (hb G0)) fun Dn U H ⟨G, Ud, ok, s0, q⟩ => by
 refine ⟨G, mask [i] Ud, ok.ok0, q.of_bind.mono (fun k _ z G' H' s => ?_) fun _ z => z.step s0⟩
 have ok' := ok.step s
 have s' := s0.trans s
 cases k with
 | true => exact zwU ⟨G', Ud, ok', s', (show RW (f Ud) _ _ from z).mono (fun o _ z => z.shift s.g) fun _ z => z⟩
 | false => exact zwT ⟨G', Ud, ok', s', (show RW (g Ud) _ _ from z).mono (fun o _ z => z.shift s.g) fun _ z => z⟩
theorem zv7 (j : Nat) {x : Str} {e : Expr} {fe : DSt -> R D} {pos' : Pos} (hN : X.N.Nodup) (he : DE X E e fe) (ho : [i].contains j = false := by rfl) (hi : X.N[j]? = some x := by rfl) (hx : Loc X.env.scope x := by first | exact Or.inl rfl | exact Or.inr rfl) (hs : swapsWith e (some (.Name x pos')) pos.line X.env = pure false := by rfl)
  (hf : X.fn x = true \/ X.env.scope.names.lookup x = some .local := by first | exact .inl rfl | exact .inr rfl | assumption) : DD X E i (.Assign [.Name x pos'] e pos) (ziq [i] j fe) := fun G0 =>
 PS.mono' (zhV hN hi hx he hs hf) fun Dn U H ⟨G, Ud, ok, s0, q⟩ => by
 have hj : j ≠ i := by simpa using ho
 refine ⟨G, mask [i] Ud, ok.ok0, q.of_bind.mono (fun d _ z v G' H' s r => ?_) fun _ z => z.step s0⟩
 exact (show zoA X.prog X.w X.K X.mg G0 X.H₀ i Dn G (.nx (Ud.set j (some d))) from z) _ G' H' ((ok.step s).set hj r) (s0.trans s) s.g
theorem zrP {ks : List Nat} {tg iter : Expr} {body : List Stmt} {gp : D -> R (List D)} {fi : DSt -> R (List D)} {fb : DSt -> R Out} (L : XL X) (hc : X.calm = true) (hi : DI X E tg iter fi) (hg : DG X tg ks gp) (hb : DDs X E i body fb) (ho : ks.contains i = false := by rfl) (hs : ∀ x, foldedSetIterable iter X.env x = pure x := by intro _; rfl) :
  DD X E i (.For tg iter body [] pos) (zjh [i] ks gp fi fb) := fun G0 => PS.mono' (zqI L.own hc hi hg (hb G0) hs) fun Dn U H ⟨G, Ud, ok, s0, q⟩ => by
 refine ⟨G, mask [i] Ud, ok.ok0, q.of_bind.mono (fun ds _ z J G1 H1 s1 it => ?_) fun _ z => z.step s0⟩
 have hko : ∀ k ∈ ks, k ≠ i := fun k hk e => by
  subst e
  rw [xdq.mpr hk] at ho; cases ho
 refine ⟨fun n m U' H' => m = ds.length - n /\ n <= ds.length /\ ∃ G' Ud', OkD X.prog X.w X.K X.mg X.H₀ i Ud' U' G' H' /\ zai G1 G' /\ zaS G0 X.H₀ G' H' /\ RW (zez ks gp fb (ds.drop n) Ud') (zoA X.prog X.w X.K X.mg G0 X.H₀ i Dn G1) (zau X.K X.mg E G0 X.H₀),
  ⟨ds.length, by simp, xb0 _, G1, Ud, ok.step s1, zai.refl _, s0.trans s1, z.mono (fun _ _ z => z.shift s1.g) fun _ z => z⟩, ?_⟩
 rintro n m U' H' ⟨rfl, hn, G', Ud', ok', e', s', w⟩
 by_cases hlt : n < ds.length
 ·right
  obtain ⟨d, hd⟩ : ∃ d, ds[n]? = some d := ⟨ds[n], by simp [hlt]⟩
  obtain ⟨g1, g2⟩ := it.turn H' n d (e'.trans ok'.ok.ext) hd
  have hdrop : ds.drop n = d :: ds.drop (n + 1) := by
   rw [xb4 hlt]
   congr 1
   exact Option.some.inj ((xap hlt).symm.trans hd)
  rw [hdrop] at w
  refine ⟨g1, fun U2 H2 => n + 1 <= ds.length /\ ∃ G' Ud', OkD X.prog X.w X.K X.mg X.H₀ i Ud' U2 G' H2 /\ zai G1 G' /\ zaS G0 X.H₀ G' H2 /\ RW (zez ks gp fb (ds.drop (n + 1)) Ud') (zoA X.prog X.w X.K X.mg G0 X.H₀ i Dn G1) (zau X.K X.mg E G0 X.H₀),
   fun U2 H2 ⟨h1, h2⟩ => ⟨ds.length - (n + 1), by omega, rfl, h1, h2⟩, fun x H2 hy => ?_⟩
  obtain ⟨G2, s2, r2⟩ := g2 x H2 hy G' e' ok'.ok.ext
  unfold zez at w
  obtain ⟨us, e1, w⟩ := zcw w.of_bind
  refine ⟨G2, d, s2.e, r2, RW.ok_of e1 fun ws rws => ?_⟩
  have ok2 := (ok'.step s2).setAll hko rws
  refine ⟨G2, _, ok2, s'.trans s2, w.of_bind.mono (fun o _ z => ?_) fun _ z => z⟩
  cases o with
  | nx U3 => exact fun U4 G4 H4 ok4 s4 e4 => ⟨hlt, G4, U3, ok4, (e'.trans s2.g).trans e4, s4, z⟩
  | ct U3 => exact fun U4 G4 H4 ok4 s4 e4 => ⟨hlt, G4, U3, ok4, (e'.trans s2.g).trans e4, s4, z⟩
  | bk U3 => exact fun U4 G4 H4 ok4 s4 e4 => (show zoA X.prog X.w X.K X.mg G0 X.H₀ i Dn G1 (.nx U3) from z) U4 G4 H4 ok4 s4 ((e'.trans s2.g).trans e4)
  | rt d => exact z
  | rf d => exact z
 ·left
  have hn2 : n = ds.length := by omega
  subst hn2
  rw [List.drop_length] at w
  refine ⟨it.stop H' (e'.trans ok'.ok.ext), ?_⟩
  unfold zez at w
  exact (show zoA X.prog X.w X.K X.mg G0 X.H₀ i Dn G1 (.nx Ud') from w) U' G' H' ok' s' e'
end
end DL
end
section
set_option maxHeartbeats 2000000
namespace DL
open L2 PyProof.Rows
theorem zlh : ∀ ks : List Int, zck (ks.map D.int) = some ks
 | [] => rfl
 | k :: ks => by
  have := zlh ks
  rw [xa0]
  unfold zck
  rw [this]; rfl
theorem zd2 : ∀ kss : List (List Int), zat (kss.map zch) = some kss
 | [] => rfl
 | ks :: kss => by
  rw [xa0]
  show zat (.tup (ks.map D.int) :: kss.map zch) = _
  unfold zat
  rw [zlh ks, zd2 kss]; rfl
def zo7 (ds : List D) (d : D) : R (List D) := match zat ds, zat [d] with
 | some kss, some [ks] => bif most kss.length then .ok ((zdO kss ks).map zch) else .bad
 | _, _ => .bad
def zqm (i : Nat) (fk fv : DSt -> R D) : DSt -> R Out := fun U => (fv (mask [i] U)).bind fun _ => (fk (mask [i] U)).bind fun d => (zb3 U i).bind fun ds => (zo7 ds d).bind fun es => .ok (.nx (U.set i (some (.lst es))))
theorem ztg {kss : List (List Int)} {d : D} {es : List D} (h : zo7 (kss.map zch) d = .ok es) : ∃ ks, zat [d] = some [ks] /\ kss.length < sizeLine /\ es = (zdO kss ks).map zch := by
 unfold zo7 at h
 rw [zd2] at h
 cases hk : zat [d] with
 | none => rw [hk] at h; cases h
 | some l =>
  rw [hk] at h
  match l, h with
  | [ks], h =>
   cases hm : most kss.length with
   | false => simp only [hm, cond_false] at h; cases h
   | true =>
    simp only [hm, cond_true] at h
    cases h
    exact ⟨ks, rfl, of_decide_eq_true hm, rfl⟩
  | [], h => cases h
  | _ :: _ :: _, h => cases h
theorem zth {ds : List D} {d e : D} : zo7 ds d ≠ .err e := by
 unfold zo7
 split
 ·cases most _ <;> simp
 ·simp
section
variable {X : Cx} {E : XK} {i : Nat} {x : Str} {pos np : Pos}
theorem OkD.put {P : Program} {w : World} {K : xFg} {mg : Str -> Option Value} {G H H0 : Hp} {Ud : DSt} {U : L2.St} {a : Addr} {kss : List (List Int)} (o : OkD P w K mg H0 i Ud U G H) (h2 : U[i]? = some (some (.ref a))) (hd : ∃ d, Ud[i]? = some d) (h5 : G a = none) (h6 : H0 a = none) :
  OkD P w K mg H0 i (Ud.set i (some (.lst (kss.map zch)))) U G (upd H a (.ext (zlb P w K G a kss))) := by
 obtain ⟨d, hd⟩ := hd
 have hl : i < Ud.length := (xah.mp hd).1
 refine ⟨?_, a, kss, G, by rw [xa7 hl], h2, zai.refl _, zae, h5, h6⟩
 rw [ziT]
 exact ⟨fun b u q => by rw [zah (zad q h5)]; exact o.ok.ext b u q, o.ok.len, o.ok.val, fun j d hj => absurd hj (by simp), fun j k a d d' hj => absurd hj (by simp)⟩
theorem zv8 (i : Nat) {j : Nat} {k value : Expr} {fk fv : DSt -> R D} {tpos : Pos} (C : XC X E j) (hk : DE X E k fk) (hv : DE X E value fv) (hN : X.N[i]? = some x := by rfl) (hvi : Vis X.env.scope x := by first | exact Or.inl rfl | exact Or.inr (Or.inl rfl) | exact Or.inr (Or.inr rfl)) (hd : (x == ("__debug__" : Str)) = false := by decide)
  (hcd : (x == ("__classdict__" : Str)) = false := by decide) (hs : swapsWith value (some (.Subscript (.Name x np) k tpos)) pos.line X.env = pure false := by rfl) :
  DD X E i (.Assign [.Subscript (.Name x np) k tpos] value pos) (zqm i fk fv) := fun G0 =>
 PS.mono' (ztd (by have := C.room.un; omega) (pv i hN hvi hd hcd) hk hv hs) fun Dn U H ⟨G, Ud, ok, s0, q⟩ => by
 obtain ⟨a, kss, Gd, h1, h2, h3, h4, h5, h6⟩ := ok.dct
 refine ⟨G, mask [i] Ud, ok.ok0, q.of_bind.mono (fun dv _ z v G1 H1 s1 _ => ?_) fun _ z => z.step s0⟩
 have ok1 := ok.step s1
 refine ⟨_, h2, G1, mask [i] Ud, ok1.ok0, (show RW ((fk (mask [i] Ud)).bind _) _ _ from z).of_bind.mono (fun d _ z y G2 H2 s2 ry => ?_) fun _ z => z.step (s0.trans s1)⟩
 have ok2 := ok1.step s2
 have z := z.of_bind
 rw [show zb3 Ud i = .ok (kss.map zch) from by unfold zb3; rw [h1]] at z
 have z := (show RW ((zo7 (kss.map zch) d).bind _) _ _ from z).of_bind
 cases hp : zo7 (kss.map zch) d with
 | bad => rw [hp] at z; exact z.elim
 | err e => exact absurd hp zth
 | ok es =>
  rw [hp] at z
  obtain ⟨ks, e1, e2, rfl⟩ := ztg hp
  obtain ⟨⟨b, rfl, kb⟩, _⟩ := zc7 (vs := [y]) e1 (Reps.cons ry Reps.nil)
  have s12 := s1.trans s2
  have g2 : G2 a = none := s12.c _ _ h4 h5
  refine ⟨a, b, Gd, G2, kss, ks, rfl, rfl, s12.h _ _ h4, (h3.trans s12.g), s2.e, kb, e2, ?_⟩
  exact (show zoA X.prog X.w X.K X.mg G0 X.H₀ i Dn G (.nx (Ud.set i (some (.lst ((zdO kss ks).map zch))))) from z) U G2 _ (ok2.put h2 ⟨_, h1⟩ g2 h6) ((s0.trans s12).write (o := .ext (zlb X.prog X.w X.K Gd a kss)) h6 g2) s12.g
def srtD (ds : List D) : R (List D) := match zat ds with
 | some kss => bif ze5 kss && Nat.blt kss.length 64 then .ok ((zfO kss).map zch) else .bad
 | none => .bad
def ztO (ds : List D) : R (List D) := match zat ds with
 | some kss => bif most kss.length then .ok (kss.map zch) else .bad
 | none => .bad
def zoB (i : Nat) : DSt -> R Out := fun U => (zb3 U i).bind fun ds => (ztO ds).bind fun es => .ok (.rt (.lst es))
theorem zqn {K : xFg} {mg : Str -> Option Value} {G0 H0 G Gd H : Hp} {l : Addr} {zs : List V} {kss : List (List Int)} {Dn : zmn} (e : zai G H) (s0 : zaS G0 H0 G H) (sd : zai Gd G) (hl : H l = none) (hz : zav K Gd zs kss) (q : ∀ v G' H', zaS G0 H0 G' H' -> Rep K mg G' (.lst (kss.map zch)) v -> Dn.rt v H') : Dn.rt (.ref l) (upd H l (.lst zs)) := by
 have gl : G l = none := e.free hl
 have sg : zai G (upd G l (.lst zs)) := zbd gl
 refine q (.ref l) (upd G l (.lst zs)) _ ⟨s0.g.trans sg, fun b u p => ?_, fun b u p => ?_, fun b u p1 p2 => ?_⟩ ⟨l, zs, rfl, SqL.of zae, (zd0 hz).mono (sd.trans sg)⟩
 ·have := s0.h b u p
  rw [zah (zad this hl)]; exact this
 ·by_cases hb : b = l
  ·subst hb; rw [zae] at p ⊢; exact p
  ·rw [zah hb] at p ⊢; exact e b u p
 ·have hb : b ≠ l := zad (s0.h b u p1) hl
  rw [zah hb]; exact s0.c b u p1 p2
theorem zti (i : Nat) {p cpos : Pos} (hc : X.calm = true) (hm : X.mg "list" = none) (hg : Gl X "list" := by rfl) (hN : X.N[i]? = some x := by rfl) (hvi : Vis X.env.scope x := by first | exact Or.inl rfl | exact Or.inr (Or.inl rfl) | exact Or.inr (Or.inr rfl)) (hd : (x == ("__debug__" : Str)) = false := by decide)
  (hcd : (x == ("__classdict__" : Str)) = false := by decide) (he : starEach [.Name x np] X.env = (false, eval (.Name x np) X.env) :: starEach [] X.env := by rfl) (hpl : (backTo cpos (starEach [] X.env)).any (·.1) = false := by rfl) :
  DD X E i (.Return (some (.Call (.Name "list" p) [.Name x np] [] cpos)) pos) (zoB i) := fun G0 =>
 PS.mono' (zqG (zdP (zl0 hc) hg hm (by rfl) (zg2 (pv i hN hvi hd hcd) zjT he) (by decide) (by decide) he hpl)) fun Dn U H ⟨G, Ud, ok, s0, q⟩ => by
 obtain ⟨a, kss, Gd, h1, h2, h3, h4, h5, h6⟩ := ok.dct
 have z := q.of_bind
 rw [show zb3 Ud i = .ok (kss.map zch) from by unfold zb3; rw [h1]] at z
 have z := (show RW ((ztO (kss.map zch)).bind _) _ _ from z).of_bind
 unfold ztO at z
 rw [zd2] at z
 cases hC : most kss.length with
 | false => simp only [hC, cond_false] at z; exact z.elim
 | true =>
  simp only [hC, cond_true] at z
  have c1 : kss.length < sizeLine := of_decide_eq_true hC
  exact ⟨_, h2, a, kss, Gd, rfl, h3.trans ok.ok.ext, h4, by omega, fun l zs hl hz => zqn ok.ok.ext s0 h3 hl hz z⟩
def zhC : Out -> R Out
 | .rt d => .ok (.rt d)
 | _ => .bad
def ztj (i : Nat) (g : DSt -> R Out) : DSt -> R Out := fun U => bif Nat.blt i U.length then (g (U.set i (some (.lst [])))).bind zhC else .bad
theorem zqo (i : Nat) {own' ol : List Nat} {zaD : List Stmt} {g : DSt -> R Out} {pos' dpos : Pos} (hN : X.N.Nodup) (h : DDs X E i zaD g) (hi : X.N[i]? = some x := by rfl) (hx : Loc X.env.scope x := by first | exact Or.inl rfl | exact Or.inr rfl) (hs : swapsWith (.Dict [] [] dpos) (some (.Name x pos')) pos.line X.env = pure false := by rfl)
  (hf : X.fn x = true \/ X.env.scope.names.lookup x = some .local := by first | exact .inl rfl | exact .inr rfl | assumption) : DSs X E [] own' ol (.Assign [.Name x pos'] (.Dict [] [] dpos) pos :: zaD) (ztj i g) := fun G0 =>
 PSs.mono' (zg1 (zhV hN hi hx zql hs hf) (h G0)) fun Dn U H ⟨G, Ud, ok, s0, q⟩ => by
 unfold ztj at q
 cases hl : Nat.blt i Ud.length with
 | false => rw [hl] at q; exact (show False from q).elim
 | true =>
  rw [hl] at q
  rw [Nat.blt_eq] at hl
  refine ⟨G, fun p hp => ⟨G, Ud.set i (some (.lst [])), ⟨?_, p, [], G, by rw [xa7 hl]; rfl, by rw [xa7 (by rw [<- ok.len]; exact hl)], zai.refl _, zae, ok.ext.free hp, s0.h.free hp⟩, s0.trans (.hid ok.ext hp), ?_⟩⟩
  ·rw [ziT]
   refine ⟨ok.ext.trans (zbd hp), by unfold mask; rw [zfx, List.length_set]; exact ok.len, fun j d hj e => ?_, fun j d hj => absurd hj (by simp), fun j k a d d' hj => absurd hj (by simp)⟩
   have m := zfw Ud 0 j d e
   rw [xbk] at m
   obtain ⟨v, v1, v2⟩ := ok.val j d hj m.2
   have hji : j ≠ i := fun z => m.1 (by simp [z])
   exact ⟨v, by rw [xau (xba hji)]; exact v1, v2⟩
  ·refine (show RW ((g (Ud.set i (some (.lst [])))).bind zhC) _ _ from q).of_bind.mono (fun o _ z => ?_) fun _ z => z
   cases o with
   | rt d => exact z
   | nx _ => exact (show False from z).elim
   | bk _ => exact (show False from z).elim
   | ct _ => exact (show False from z).elim
   | rf _ => exact (show False from z).elim
end
end DL
end
namespace Mir
open L2 DL
noncomputable def zdq : DSt -> R Out := (zbE (zuN (zcc (g2 zfE) (zaa (zac 0) (zaa (eC (.ty "int")) zaj))) (zxf (zcc (g2 zfE) (zaa (zac 0) (zaa (eC (.ty "bool")) zaj))))))
noncomputable def zbL : List D -> R D := fnM 1 1 zdq
theorem zhD (a0 : D) : zbL [a0] = fin (zdq [some a0]) := zay (b := zdq) rfl rfl
noncomputable def zbH : DSt -> R Out := (zbE (zuN (zcc zsM (zaa (zet (eLC 1 [0] (zhU (zac 0)) zan zby (zap zbL (zaa (zac 0) zaj)))) zaj)) (eOp gNe (zac 0) (zil (zaa (eC (.int 0)) (zaa (eC (.int 0)) (zaa (eC (.int 0)) zaj)))))))
noncomputable def zbh : List D -> R D := fnM 1 1 zbH
theorem ze6 (a0 : D) : zbh [a0] = fin (zbH [some a0]) := zay (b := zbH) rfl rfl
noncomputable def zb6 : DSt -> R Bool := (zaq (eOp gNe (zac 1) (eC (.int 0))))
noncomputable def zdD : DSt -> R Out := (zaJ 1 (zac 2))
noncomputable def zdE : DSt -> R Out := (zaG (zaJ 0 (zac 1)) zdD)
noncomputable def zc8 : DSt -> R Out := (zaG (zaJ 2 (eOp zfe (zac 0) (zac 1))) zdE)
noncomputable def zfU : DSt -> R Out := (zbE (zac 0))
noncomputable def zfV : DSt -> R Out := (zaG (zaT zb6 zc8) zfU)
noncomputable def zfW : DSt -> R Out := (zaG (zaJ 1 (zcc zqZ (zaa (zac 1) zaj))) zfV)
noncomputable def zd3 : DSt -> R Out := (zaG (zaJ 0 (zcc zqZ (zaa (zac 0) zaj))) zfW)
noncomputable def zbW : List D -> R D := fnM 2 3 zd3
theorem ziU (a0 : D) (a1 : D) : zbW [a0, a1] = fin (zd3 [some a0, some a1, none]) := zay (b := zd3) rfl rfl
noncomputable def zfX : DSt -> R Out := (zbE (zil (zaa (eOp zfB (eOp gIx (zac 0) (eC (.int 0))) (zac 1)) (zaa (eOp zfB (eOp gIx (zac 0) (eC (.int 1))) (zac 1)) (zaa (eOp zfB (eOp gIx (zac 0) (eC (.int 2))) (zac 1)) zaj)))))
noncomputable def zfY : DSt -> R Out := (zaG (sIf (zaq (eOp gLt (zac 2) (eC (.int 0)))) (zaJ 1 (eUn ztL (zac 1))) za0) zfX)
noncomputable def zfZ : DSt -> R Out := (zaG (zaJ 2 (eOp gIx (zet (eLC 1 [0] (zhU (zac 0)) zan (zaq (eOp gNe (zac 0) (eC (.int 0)))) (zac 0))) (eUn ztL (eC (.int 1))))) zfY)
noncomputable def zd4 : DSt -> R Out := (zaG (zaJ 1 (zap zbW (zaa (zap zbW (zaa (eOp gIx (zac 0) (eC (.int 0))) (zaa (eOp gIx (zac 0) (eC (.int 1))) zaj))) (zaa (eOp gIx (zac 0) (eC (.int 2))) zaj)))) zfZ)
noncomputable def zbt : List D -> R D := fnM 1 3 zd4
theorem ziV (a0 : D) : zbt [a0] = fin (zd4 [some a0, none, none]) := zay (b := zd4) rfl rfl
noncomputable def zeO : DSt -> R Out := (zbE (eOp gEq (zap zbt (zaa (zac 0) zaj)) (zac 0)))
noncomputable def zeP : DSt -> R Out := (zaG (sIf (zlK (zaq (zap zbh (zaa (zac 0) zaj)))) (zbE (eC (.bl false))) za0) zeO)
noncomputable def zdr : DSt -> R Out := (zaG (sIf (eOr (zlK (zaq (zcc (g2 zfE) (zaa (zac 0) (zaa (eC (.ty "tuple")) zaj))))) (zaq (eOp gNe (zcc zgk (zaa (zac 0) zaj)) (eC (.int 3))))) (zbE (eC (.bl false))) za0) zeP)
noncomputable def zbM : List D -> R D := fnM 1 1 zdr
theorem zhE (a0 : D) : zbM [a0] = fin (zdr [some a0]) := zay (b := zdr) rfl rfl
noncomputable def zqp : DSt -> R Out := (zbE (eOp zb2 (eOp zb2 (eOp zcL (eOp gIx (zac 0) (eC (.int 0))) (eOp gIx (zac 1) (eC (.int 0)))) (eOp zcL (eOp gIx (zac 0) (eC (.int 1))) (eOp gIx (zac 1) (eC (.int 1))))) (eOp zcL (eOp gIx (zac 0) (eC (.int 2))) (eOp gIx (zac 1) (eC (.int 2))))))
noncomputable def zl1 : List D -> R D := fnM 2 2 zqp
theorem zqq (a0 : D) (a1 : D) : zl1 [a0, a1] = fin (zqp [some a0, some a1]) := zay (b := zqp) rfl rfl
noncomputable def zd5 : DSt -> R Out := (zbE (eOp gEq (zap zl1 (zaa (zac 0) (zaa (zac 1) zaj))) (eC (.int 0))))
noncomputable def za6 : List D -> R D := fnM 2 2 zd5
theorem ziW (a0 : D) (a1 : D) : za6 [a0, a1] = fin (zd5 [some a0, some a1]) := zay (b := zd5) rfl rfl
noncomputable def ziX : DSt -> R Out := (zbE (zil (zaa (zac 2) (zaa (zac 3) (zaa (zac 4) zaj)))))
noncomputable def ziY : DSt -> R Out := (zaG (zaJ 4 (eOp gSub (eOp zcL (eOp gIx (zac 0) (eC (.int 0))) (eOp gIx (zac 1) (eC (.int 1)))) (eOp zcL (eOp gIx (zac 0) (eC (.int 1))) (eOp gIx (zac 1) (eC (.int 0)))))) ziX)
noncomputable def ziZ : DSt -> R Out := (zaG (zaJ 3 (eOp gSub (eOp zcL (eOp gIx (zac 0) (eC (.int 2))) (eOp gIx (zac 1) (eC (.int 0)))) (eOp zcL (eOp gIx (zac 0) (eC (.int 0))) (eOp gIx (zac 1) (eC (.int 2)))))) ziY)
noncomputable def zhF : DSt -> R Out := (zaG (zaJ 2 (eOp gSub (eOp zcL (eOp gIx (zac 0) (eC (.int 1))) (eOp gIx (zac 1) (eC (.int 2)))) (eOp zcL (eOp gIx (zac 0) (eC (.int 2))) (eOp gIx (zac 1) (eC (.int 1)))))) ziZ)
noncomputable def zeF : List D -> R D := fnM 2 5 zhF
theorem zl2 (a0 : D) (a1 : D) : zeF [a0, a1] = fin (zhF [some a0, some a1, none, none, none]) := zay (b := zhF) rfl rfl
noncomputable def zb7 : DSt -> R Out := (zbE (zap zbt (zaa (zap zeF (zaa (zac 0) (zaa (zac 1) zaj))) zaj)))
noncomputable def za8 : DSt -> R Out := (zaG (sIf (zaq (eOp gEq (zac 0) (zac 1))) zxe za0) zb7)
noncomputable def zaN : List D -> R D := fnM 2 2 za8
theorem zdN (a0 : D) (a1 : D) : zaN [a0, a1] = fin (za8 [some a0, some a1]) := zay (b := za8) rfl rfl
noncomputable def zb8 : DSt -> R Out := (zbE (zap zaN (zaa (zac 0) (zaa (zac 1) zaj))))
noncomputable def zao : List D -> R D := fnM 2 2 zb8
theorem zf0 (a0 : D) (a1 : D) : zao [a0, a1] = fin (zb8 [some a0, some a1]) := zay (b := zb8) rfl rfl
noncomputable def zd6 : DSt -> R Out := (zbE (zcc zsM (zaa (zet (eLC 1 [0] (zhU (zac 1)) zan zby (zap za6 (zaa (zac 0) (zaa (zac 3) zaj))))) zaj)))
noncomputable def zd7 : DSt -> R Out := (zaG (zaJ 2 (zap zao (zaa (eOp gIx (zac 0) (eC (.int 0))) (zaa (eOp gIx (zac 1) (eC (.int 0))) zaj)))) zd6)
noncomputable def zd8 : DSt -> R Out := (zaG (sIf (zaq (eOp gEq (zcc zgk (zaa (zac 1) zaj)) (eC (.int 0)))) (zbE (eC (.bl true))) za0) zd7)
noncomputable def zcB : DSt -> R Out := (zaG (ziq [] 1 (zet (eLC 1 [0] (zhU (zac 0)) zan (zaq (eOp gNe (zac 0) (eOp gIx (zac 1) (eC (.int 0))))) (zac 0)))) zd8)
noncomputable def zaY : List D -> R D := fnM 1 3 zcB
theorem zgq (a0 : D) : zaY [a0] = fin (zcB [some a0, none, none]) := zay (b := zcB) rfl rfl
def zcC : D := .int 12
noncomputable def zeQ : DSt -> R Out := (zbE (eOp gEq (zjz (zac 0)) (zcc zgk (zaa (zac 0) zaj))))
noncomputable def zeR : DSt -> R Out := (zaG (sIf (zlK (zaq (zcc zsM (zaa (zet (eLC 1 [0] (zhU (zac 0)) zan zby (zap zbM (zaa (zac 0) zaj)))) zaj)))) (zbE (eC (.bl false))) za0) zeQ)
noncomputable def zds : DSt -> R Out := (zaG (sIf (eOr (zlK (zaq (zcc (g2 zfE) (zaa (zac 0) (zaa (eC (.ty "list")) zaj))))) (zlK (zaq (zik gLe gLe (eC (.int 1)) (zcc zgk (zaa (zac 0) zaj)) (eC zcC))))) (zbE (eC (.bl false))) za0) zeR)
noncomputable def zcm : List D -> R D := fnM 1 1 zds
theorem zhG (a0 : D) : zcm [a0] = fin (zds [some a0]) := zay (b := zds) rfl rfl
noncomputable def zd9 : DSt -> R Out := (sIf (zlK (zaq (zap zcm (zaa (zac 0) zaj)))) zxe za0)
noncomputable def zc9 : List D -> R D := fnM 1 1 zd9
theorem zi0 (a0 : D) : zc9 [a0] = fin (zd9 [some a0]) := zay (b := zd9) rfl rfl
noncomputable def za7 : DSt -> R Out := (sIf (zlK (zaq (zcc zwt (zaa (zet (eLC 1 [0] (zhU (zac 4)) zan zby (zap za6 (zaa (eOp gIx (zac 1) (zac 6)) (zaa (zac 0) zaj))))) zaj)))) (zbE (zac 5)) za0)
noncomputable def zea : DSt -> R Out := (zbE (eC .non))
noncomputable def zeb : DSt -> R Out := (zaG (zjh [] [5] zan (zcW zsA (zaa (eOp zb2 (zac 3) (eC (.int 1))) (zaa (zcc zgk (zaa (zac 0) zaj)) zaj))) za7) zea)
noncomputable def zcD : DSt -> R Out := (zaG (zaJ 4 (zet (zmh (zaa (zap zao (zaa (eOp gIx (zac 0) (zac 1)) (zaa (eOp gIx (zac 0) (zac 2)) zaj))) (zaa (zap zao (zaa (eOp gIx (zac 0) (zac 2)) (zaa (eOp gIx (zac 0) (zac 3)) zaj))) (zaa (zap zao (zaa (eOp gIx (zac 0) (zac 1)) (zaa (eOp gIx (zac 0) (zac 3)) zaj))) zaj)))))) zeb)
noncomputable def zbX : List D -> R D := fnM 4 6 zcD
theorem zgr (a0 : D) (a1 : D) (a2 : D) (a3 : D) : zbX [a0, a1, a2, a3] = fin (zcD [some a0, some a1, some a2, some a3, none, none]) := zay (b := zcD) rfl rfl
noncomputable def za4 : DSt -> R Out := (sIf (zaq (eOp zsJ (zac 5) (eC .non))) (zbE (zil (zaa (zac 1) (zaa (zac 2) (zaa (zac 4) (zaa (zac 5) zaj)))))) za0)
noncomputable def zb9 : DSt -> R Out := (zaG (zaJ 5 (zap zbX (zaa (zac 0) (zaa (zac 1) (zaa (zac 2) (zaa (zac 4) zaj)))))) za4)
noncomputable def za2 : DSt -> R Out := (sIf (zlK (zaq (zap za6 (zaa (eOp gIx (zac 0) (zac 4)) (zaa (zac 3) zaj))))) zb9 za0)
noncomputable def zcN : DSt -> R Out := (zjh [] [4] zan (zcW zsA (zaa (eOp zb2 (zac 2) (eC (.int 1))) (zaa (zcc zgk (zaa (zac 0) zaj)) zaj))) za2)
noncomputable def zbp : DSt -> R Out := (zaG (zaJ 3 (zap zao (zaa (eOp gIx (zac 0) (zac 1)) (zaa (eOp gIx (zac 0) (zac 2)) zaj)))) zcN)
noncomputable def zbI : DSt -> R Out := (zjh [] [2] zan (zcW zsA (zaa (eOp zb2 (zac 1) (eC (.int 1))) (zaa (zcc zgk (zaa (zac 0) zaj)) zaj))) zbp)
noncomputable def zeS : DSt -> R Out := (zbE (eC .non))
noncomputable def zeT : DSt -> R Out := (zaG (zjh [] [1] zan (zcW zin (zaa (zcc zgk (zaa (zac 0) zaj)) zaj)) zbI) zeS)
noncomputable def zdt : DSt -> R Out := (zaG (zsC (zap zc9 (zaa (zac 0) zaj))) zeT)
noncomputable def zbl : List D -> R D := fnM 1 6 zdt
theorem zhH (a0 : D) : zbl [a0] = fin (zdt [some a0, none, none, none, none, none]) := zay (b := zdt) rfl rfl
noncomputable def zec : DSt -> R Out := (zbE (zcc zp5 (zaa (zet (eLC 1 [0] (zcW zin (zaa (zcc zgk (zaa (zac 0) zaj)) zaj)) zan (zaq (zap zaY (zaa (eOp zb2 (eSl (zac 1) zbT (zbU (zac 0))) (eSl (zac 1) (zbU (eOp zb2 (zac 0) (eC (.int 1)))) zbT)) zaj))) (zac 0))) zaj)))
noncomputable def zda : List D -> R D := fnM 1 1 zec
theorem zi1 (a0 : D) : zda [a0] = fin (zec [some a0]) := zay (b := zec) rfl rfl
noncomputable def zf1 : DSt -> R Out := (zbE (zil (zaa (eC (.str "fan")) (zaa (zap zda (zaa (zac 0) zaj)) zaj))))
noncomputable def zf2 : DSt -> R Out := (zaG (sIf (zaq (zap zaY (zaa (zac 0) zaj))) (zbE (zil (zaa (eC (.str "line")) zaj))) za0) zf1)
noncomputable def zf3 : DSt -> R Out := (zaG (sIf (zaq (eOp zsJ (zac 1) (eC .non))) (zbE (zil (zaa (eC (.str "frame")) (zaa (zac 1) zaj)))) za0) zf2)
noncomputable def zed : DSt -> R Out := (zaG (zaJ 1 (zap zbl (zaa (zac 0) zaj))) zf3)
noncomputable def zcn : List D -> R D := fnM 1 2 zed
theorem zi2 (a0 : D) : zcn [a0] = fin (zed [some a0, none]) := zay (b := zed) rfl rfl
noncomputable def zcf : DSt -> R Out := (zu0 [1] 1 (zap zao (zaa (eOp gIx (zac 0) (zac 3)) (zaa (eOp gIx (zac 0) (zac 2)) zaj))))
noncomputable def zcE : DSt -> R Out := (zjh [1] [3] zan (zcW zin (zaa (zac 2) zaj)) zcf)
noncomputable def zeU : DSt -> R Out := (zbE (zil (zaa (zet (znw zgU (zaa (zac 0) zaj))) (zaa (zet (zhA (zac 1))) zaj))))
noncomputable def zeV : DSt -> R Out := (zaG (zjh [1] [2] zan (zcW zin (zaa (zcc zgk (zaa (zac 0) zaj)) zaj)) zcE) zeU)
noncomputable def zeW : DSt -> R Out := (zaG (ztH [] 1 (zmh zaj)) zeV)
noncomputable def zdu : DSt -> R Out := (zaG (sIf (zaq (eOp zsJ (zap zbl (zaa (zac 0) zaj)) (eC .non))) (zjv "Endless") za0) zeW)
noncomputable def zco : List D -> R D := fnM 1 4 zdu
theorem zhI (a0 : D) : zco [a0] = fin (zdu [some a0, none, none, none]) := zay (b := zdu) rfl rfl
noncomputable def zdb : DSt -> R Out := (zbE (eC (.int 0)))
noncomputable def zbJ : DSt -> R Out := (zaG (sIf (zaq (eOp gLt (zac 1) (zcc zgk (zaa (zac 0) zaj)))) (zbE (eOp gIx (zac 0) (zac 1))) za0) zdb)
noncomputable def zaK : List D -> R D := fnM 2 2 zbJ
theorem ze7 (a0 : D) (a1 : D) : zaK [a0, a1] = fin (zbJ [some a0, some a1]) := zay (b := zbJ) rfl rfl
noncomputable def zf4 : DSt -> R Out := (zbE (eOp zfe (eOp zcL (zac 2) (zac 2)) (eC (.int 2147483629))))
noncomputable def zf5 : DSt -> R Out := (zaG (zaJ 2 (eOp zfe (eOp zb2 (eOp zb2 (eOp zcL (zac 2) (zac 2)) (eOp zcL (eC (.int 7919)) (zac 1))) (eC (.int 5))) (eC (.int 2147483587)))) zf4)
noncomputable def zf6 : DSt -> R Out := (zaG (zaJ 2 (eOp zfe (eOp zcL (eOp zb2 (eOp zb2 (eOp zb2 (eOp zfe (zac 0) (eC (.int 2147483647))) (eOp zcL (eOp zcL (eC (.int 48271)) (zac 1)) (zac 1))) (zac 1)) (eC (.int 1))) (eC (.int 69621))) (eC (.int 2147483629)))) zf5)
noncomputable def zee : DSt -> R Out := (zaG (sIf (zaq (eOp gGe (zac 0) (eOp zxo (eC (.int 10)) (eC (.int 18))))) (zbE (eOp zfe (eOp zxp (zac 0) (eOp zcL (eC (.int 20)) (zac 1))) (eC (.int 1048576)))) za0) zf6)
noncomputable def zaB : List D -> R D := fnM 2 3 zee
theorem zi3 (a0 : D) (a1 : D) : zaB [a0, a1] = fin (zee [some a0, some a1, none]) := zay (b := zee) rfl rfl
noncomputable def zdc : DSt -> R Bool := (zaq (eOp gNe (zac 3) (eC (.int 0))))
noncomputable def zdd : DSt -> R Out := (ztI [] [1, 3] (zc2 2) (zil (zaa (zac 3) (zaa (eOp zfe (zac 1) (zac 3)) zaj))))
noncomputable def zdF : DSt -> R Out := (zaT zdc zdd)
noncomputable def zeX : DSt -> R Out := (zaG (zaJ 3 (zcc zqZ (zaa (zac 2) zaj))) zdF)
noncomputable def zf7 : DSt -> R Out := (zbE (zcc znv (zaa (zet (eLC 1 [0] (zhU (zac 0)) zan zby (eOp zfB (zac 0) (zac 2)))) zaj)))
noncomputable def zf8 : DSt -> R Out := (zaG (sIf (zaq (eOp gLt (eOp gIx (zac 4) (eUn ztL (eC (.int 1)))) (eC (.int 0)))) (zaJ 1 (eOp gSub (eC (.int 0)) (zac 1))) za0) zf7)
noncomputable def zf9 : DSt -> R Out := (zaG (ziq [] 4 (zet (eLC 1 [0] (zhU (zac 0)) zan (zaq (eOp gNe (zac 0) (eC (.int 0)))) (zac 0)))) zf8)
noncomputable def zga : DSt -> R Out := (zaG (zjh [] [2] zan (zhU (zac 0)) zeX) zf9)
noncomputable def zef : DSt -> R Out := (zaG (zaJ 1 (eC (.int 0))) zga)
noncomputable def zaO : List D -> R D := fnM 1 5 zef
theorem zi4 (a0 : D) : zaO [a0] = fin (zef [some a0, none, none, none, none]) := zay (b := zef) rfl rfl
noncomputable def zeg : DSt -> R Out := (zbE (zil (zaa (zac 2) (zaa (zac 3) (zaa (eOp gSub (eOp zcL (eOp gIx (zac 0) (eC (.int 0))) (eOp gIx (zac 1) (eC (.int 1)))) (eOp zcL (eOp gIx (zac 0) (eC (.int 1))) (eOp gIx (zac 1) (eC (.int 0))))) zaj)))))
noncomputable def zeh : DSt -> R Out := (zaG (zaJ 3 (eOp gSub (eOp zcL (eOp gIx (zac 0) (eC (.int 2))) (eOp gIx (zac 1) (eC (.int 0)))) (eOp zcL (eOp gIx (zac 0) (eC (.int 0))) (eOp gIx (zac 1) (eC (.int 2)))))) zeg)
noncomputable def zcF : DSt -> R Out := (zaG (zaJ 2 (eOp gSub (eOp zcL (eOp gIx (zac 0) (eC (.int 1))) (eOp gIx (zac 1) (eC (.int 2)))) (eOp zcL (eOp gIx (zac 0) (eC (.int 2))) (eOp gIx (zac 1) (eC (.int 1)))))) zeh)
noncomputable def zaZ : List D -> R D := fnM 2 4 zcF
theorem zgs (a0 : D) (a1 : D) : zaZ [a0, a1] = fin (zcF [some a0, some a1, none, none]) := zay (b := zcF) rfl rfl
noncomputable def zgb : DSt -> R Out := (zbE (eOp zb2 (eOp zb2 (eOp zcL (eOp gIx (zac 3) (eC (.int 0))) (eOp gIx (zac 2) (eC (.int 0)))) (eOp zcL (eOp gIx (zac 3) (eC (.int 1))) (eOp gIx (zac 2) (eC (.int 1))))) (eOp zcL (eOp gIx (zac 3) (eC (.int 2))) (eOp gIx (zac 2) (eC (.int 2))))))
noncomputable def zei : DSt -> R Out := (zaG (zaJ 3 (zap zaZ (zaa (zac 0) (zaa (zac 1) zaj)))) zgb)
noncomputable def zde : List D -> R D := fnM 3 4 zei
theorem zi5 (a0 : D) (a1 : D) (a2 : D) : zde [a0, a1, a2] = fin (zei [some a0, some a1, some a2, none]) := zay (b := zei) rfl rfl
noncomputable def zdf : DSt -> R Out := (zu0 [3] 3 (eOp gIx (zet (zmh (zaa (eOp gSub (eOp zfe (zac 5) (eC (.int 7))) (eC (.int 3))) (zaa (eOp gSub (eOp zfe (zac 5) (eC (.int 81))) (eC (.int 40))) (zaa (eOp gSub (eOp zfe (zac 5) (eC (.int 1048576))) (eC (.int 524288))) zaj))))) (eOp gIx (zet (zmh (zaa (eC (.int 0)) (zaa (eC (.int 0)) (zaa (eC (.int 1)) (zaa (eC (.int 2)) zaj)))))) (eOp zfe (zac 2) (eC (.int 4))))))
noncomputable def zbi : DSt -> R Out := (zaG (ziq [3] 5 (zap zaB (zaa (zac 0) (zaa (eOp zb2 (eOp zb2 (eOp zcL (eC (.int 4)) (zac 1)) (eC (.int 1))) (zac 4)) zaj)))) zdf)
noncomputable def zdg : DSt -> R Out := (zbE (zap zaO (zaa (zac 3) zaj)))
noncomputable def zdh : DSt -> R Out := (zaG (sIf (zaq (eOp gEq (zac 3) (zet (zmh (zaa (eC (.int 0)) (zaa (eC (.int 0)) (zaa (eC (.int 0)) zaj))))))) (zaG (zvO [3] 3 (eOp zfe (eOp zfB (zac 2) (eC (.int 16))) (eC (.int 3))) (eC (.int 1))) za0) za0) zdg)
noncomputable def zeY : DSt -> R Out := (zaG (sIf (zaq (eOp gEq (eOp zfe (eOp zfB (zac 2) (eC (.int 4))) (eC (.int 4))) (eC (.int 0)))) (zvO [3] 3 (eC (.int 2)) (eC (.int 0))) za0) zdh)
noncomputable def zeZ : DSt -> R Out := (zaG (zjh [3] [4] zan (zcW zin (zaa (eC (.int 3)) zaj)) zbi) zeY)
noncomputable def ze0 : DSt -> R Out := (zaG (ztH [] 3 (zmh zaj)) zeZ)
noncomputable def zdv : DSt -> R Out := (zaG (zaJ 2 (zap zaB (zaa (zac 0) (zaa (eOp zcL (eC (.int 4)) (zac 1)) zaj)))) ze0)
noncomputable def zbm : List D -> R D := fnM 2 6 zdv
theorem zhJ (a0 : D) (a1 : D) : zbm [a0, a1] = fin (zdv [some a0, some a1, none, none, none, none]) := zay (b := zdv) rfl rfl
noncomputable def zdG : DSt -> R Out := (zbE (zap zaO (zaa (zac 4) zaj)))
noncomputable def zdH : DSt -> R Out := (zaG (sIf (zaq (eOp gEq (zac 4) (zet (zmh (zaa (eC (.int 0)) (zaa (eC (.int 0)) (zaa (eC (.int 0)) zaj))))))) (zbE (zac 0)) za0) zdG)
noncomputable def zca : DSt -> R Out := (zaG (ziq [] 4 (zet (eLC 2 [0, 1] (zcW zom (zaa (zac 0) (zaa (zac 1) zaj))) (zc2 2) zby (eOp zb2 (eOp zcL (zac 4) (zac 0)) (eOp zcL (zac 5) (zac 1)))))) zdH)
noncomputable def zbu : List D -> R D := fnM 4 5 zca
theorem zgc (a0 : D) (a1 : D) (a2 : D) (a3 : D) : zbu [a0, a1, a2, a3] = fin (zca [some a0, some a1, some a2, some a3, none]) := zay (b := zca) rfl rfl
noncomputable def zbz : DSt -> R Out := (sIf (zaq (eOp zlM (zac 8) (zac 6))) (zu0 [6] 6 (zac 8)) za0)
noncomputable def zcO : DSt -> R Out := (zaG (sIf (eOr (zwo (zaq (eOp gLt (zac 3) (eC (.int 2)))) (zaq (eOp gNe (zac 7) (eOp zcL (zac 4) (zac 3))))) (zwo (zaq (eOp gEq (zac 3) (eC (.int 2)))) (zaq (eOp gEq (eOp zfe (zac 7) (eC (.int 2))) (eC (.int 0)))))) (ziq [6] 8 (zap zbu (zaa (eOp gIx (zac 5) (eC (.int 0))) (zaa (eOp gIx (zac 5) (eC (.int 1))) (zaa (eOp gSub (eOp zfe (zap zaB (zaa (zac 1) (zaa (eOp zb2 (eC (.int 3)) (eOp zcL (eC (.int 2)) (zac 7))) zaj))) (eC (.int 7))) (eC (.int 3))) (zaa (eOp gSub (eOp zfe (zap zaB (zaa (zac 1) (zaa (eOp zb2 (eC (.int 4)) (eOp zcL (eC (.int 2)) (zac 7))) zaj))) (eC (.int 7))) (eC (.int 3))) zaj)))))) za0) zbz)
noncomputable def zaQ : DSt -> R Out := (zaG (ziq [6] 8 (eOp gIx (zac 5) (zac 7))) zcO)
noncomputable def zej : DSt -> R Out := (zbE (zac 6))
noncomputable def zek : DSt -> R Out := (zaG (zjh [6] [7] zan (zcW zin (zaa (zac 2) zaj)) zaQ) zej)
noncomputable def zel : DSt -> R Out := (zaG (ztH [] 6 (zmh zaj)) zek)
noncomputable def zem : DSt -> R Out := (zaG (ziq [] 5 (zet (eLC 1 [0] (zcW zin (zaa (eC (.int 12)) zaj)) zan zby (zap zbm (zaa (zac 1) (zaa (zac 0) zaj)))))) zel)
noncomputable def zen : DSt -> R Out := (zaG (zaJ 4 (eOp zfe (zap zaB (zaa (zac 1) (zaa (eC (.int 2)) zaj))) (zac 2))) zem)
noncomputable def zeo : DSt -> R Out := (zaG (zaJ 3 (eOp zfe (zap zaB (zaa (zac 1) (zaa (eC (.int 1)) zaj))) (eC (.int 4)))) zen)
noncomputable def zcG : DSt -> R Out := (zaG (zaJ 2 (eOp zb2 (eC (.int 1)) (eOp zfe (zap zaB (zaa (zac 1) (zaa (eC (.int 0)) zaj))) (eC (.int 12))))) zeo)
noncomputable def zbY : List D -> R D := fnM 2 9 zcG
theorem zgt (a0 : D) (a1 : D) : zbY [a0, a1] = fin (zcG [some a0, some a1, none, none, none, none, none, none, none]) := zay (b := zcG) rfl rfl
noncomputable def zcb : DSt -> R Out := (zqm 1 (zap zaO (zaa (zac 4) zaj)) (eC (.bl true)))
noncomputable def zcp : DSt -> R Out := (sIf (eM 1 (zaq (eOp gNe (zac 4) (zil (zaa (eC (.int 0)) (zaa (eC (.int 0)) (zaa (eC (.int 0)) zaj))))))) zcb za0)
noncomputable def zbZ : DSt -> R Out := (zaG (ziq [1] 4 (zap zaZ (zaa (eOp gIx (zac 0) (zac 2)) (zaa (zac 3) zaj)))) zcp)
noncomputable def zcg : DSt -> R Out := (zjh [1] [3] zan (zhU (eSl (zac 0) zbT (zbU (zac 2)))) zbZ)
noncomputable def zdi : DSt -> R Out := (zoB 1)
noncomputable def zcH : DSt -> R Out := (zaG (zjh [1] [2] zan (zcW zin (zaa (zcc zgk (zaa (zac 0) zaj)) zaj)) zcg) zdi)
noncomputable def zcI : DSt -> R Out := (ztj 1 zcH)
noncomputable def zbn : List D -> R D := fnM 1 5 zcI
theorem zgu (a0 : D) : zbn [a0] = fin (zcI [some a0, none, none, none, none]) := zay (b := zcI) rfl rfl
noncomputable def zb0 : DSt -> R Out := (sIf (zaq (eOp gNe (zap zde (zaa (eOp gIx (zac 0) (eC (.int 0))) (zaa (eOp gIx (zac 0) (eC (.int 1))) (zaa (zac 1) zaj)))) (eC (.int 0)))) (zbE (eC (.bl false))) za0)
noncomputable def ze1 : DSt -> R Out := (zbE (eC (.bl true)))
noncomputable def zdw : DSt -> R Out := (zaG (zjh [] [1] zan (zhU (eSl (zac 0) (zbU (eC (.int 2))) zbT)) zb0) ze1)
noncomputable def zbb : List D -> R D := fnM 1 2 zdw
theorem zhK (a0 : D) : zbb [a0] = fin (zdw [some a0, none]) := zay (b := zdw) rfl rfl
noncomputable def zb1 : DSt -> R Out := (zbE (zuN (eOp gEq (zcc zgk (zaa (zac 1) zaj)) (eC (.int 4))) (eOp gEq (zet (eLC 1 [0] (zcW zin (zaa (eC (.int 4)) zaj)) zan (zaq (zap zbb (zaa (eOp zb2 (eSl (zac 3) zbT (zbU (zac 0))) (eSl (zac 3) (zbU (eOp zb2 (zac 0) (eC (.int 1)))) zbT)) zaj))) (zac 0))) (zet (zmh zaj)))))
noncomputable def za3 : DSt -> R Out := (zaG (ziq [] 2 (zet (eLC 1 [0] (zhU (zac 1)) zan zby (eOp gIx (zac 1) (zac 0))))) zb1)
noncomputable def zaE : List D -> R D := fnM 2 3 za3
theorem zdy (a0 : D) (a1 : D) : zaE [a0, a1] = fin (za3 [some a0, some a1, none]) := zay (b := za3) rfl rfl
noncomputable def zbA : DSt -> R Out := (zbE (eOp gEq (zap zco (zaa (zac 0) zaj)) (zil (zaa (zet (znw zgU (zaa (zac 0) zaj))) (zaa (zet (znw zgU (zaa (zac 2) zaj))) zaj)))))
noncomputable def zbB : DSt -> R Out := (zaG (sIf (eOr (zlK (zaq (zap zbb (zaa (zac 4) zaj)))) (zaq (eOp gNe (zap zbb (zaa (zac 0) zaj)) (eOp gEq (eOp gIx (zac 1) (eC (.int 0))) (eC (.str "line")))))) (zbE (eC (.bl false))) za0) zbA)
noncomputable def zcP : DSt -> R Out := (zaG (sIf (zaq (eOp gEq (eOp gIx (zac 1) (eC (.int 0))) (eC (.str "fan")))) (zaJ 4 (eOp zb2 (eSl (zac 0) zbT (zbU (eOp gIx (zac 1) (eC (.int 1))))) (eSl (zac 0) (zbU (eOp zb2 (eOp gIx (zac 1) (eC (.int 1))) (eC (.int 1)))) zbT))) za0) zbB)
noncomputable def zcQ : DSt -> R Out := (zaG (zaJ 4 (zac 0)) zcP)
noncomputable def zcR : DSt -> R Out := (zaG (sIf (zaq (eOp gEq (eOp gIx (zac 1) (eC (.int 0))) (eC (.str "frame")))) (zbE (zap zaE (zaa (zac 0) (zaa (eOp gIx (zac 1) (eC (.int 1))) zaj)))) za0) zcQ)
noncomputable def zbC : DSt -> R Out := (zaG (sIf (zaq (eOp gNe (eOp gIx (zap zcn (zaa (eUn zxD (zac 0)) zaj)) (eC (.int 0))) (eOp gIx (zac 1) (eC (.int 0))))) (zbE (eC (.bl false))) za0) zcR)
noncomputable def zcS : DSt -> R Out := (zaG (sIf (zaq (eOp gNe (eOp gNe (zac 3) (zet (zmh zaj))) (eOp gEq (eOp gIx (zac 1) (eC (.int 0))) (eC (.str "frame"))))) (zbE (eC (.bl false))) za0) zbC)
noncomputable def zcT : DSt -> R Out := (zaG (ziq [] 3 (zet (eLC 1 [0] (zhU (zap zbn (zaa (zac 2) zaj))) zan (zaq (eOp zlM (zac 0) (zac 1))) (zac 0)))) zcS)
noncomputable def zcU : DSt -> R Out := (zaG (zaJ 2 (zap zbn (zaa (zac 0) zaj))) zcT)
noncomputable def zbq : DSt -> R Out := (zaG (zaJ 1 (zap zcn (zaa (zac 0) zaj))) zcU)
noncomputable def zaR : List D -> R D := fnM 1 5 zbq
theorem zeG (a0 : D) : zaR [a0] = fin (zbq [some a0, none, none, none, none]) := zay (b := zbq) rfl rfl
noncomputable def ze2 : DSt -> R Out := (sIf (eOr (zlK (zaq (zap zaR (zaa (zac 2) zaj)))) (zlK (zaq (zap zaR (zaa (eSl (zac 2) zbT (zbU (eC (.int 5)))) zaj))))) (zbE (eC (.bl false))) za0)
noncomputable def zcq : DSt -> R Out := (zaG (zaJ 2 (zap zbY (zaa (zap zaK (zaa (zac 0) (zaa (eOp zcL (eC (.int 2)) (zac 1)) zaj))) (zaa (zap zaK (zaa (zac 0) (zaa (eOp zb2 (eOp zcL (eC (.int 2)) (zac 1)) (eC (.int 1))) zaj))) zaj)))) ze2)
noncomputable def zgd : DSt -> R Out := (zbE (eC (.bl true)))
noncomputable def zep : DSt -> R Out := (zaG (zjh [] [1] zan (zcW zin (zaa (zcc zws (zaa (eC (.int 1)) (zaa (zcc zwr (zaa (eC (.int 3)) (zaa (eOp zfB (zcc zgk (zaa (zac 0) zaj)) (eC (.int 2))) zaj))) zaj))) zaj)) zcq) zgd)
noncomputable def zeq : List D -> R D := fnM 1 3 zep
theorem zi6 (a0 : D) : zeq [a0] = fin (zep [some a0, none, none]) := zay (b := zep) rfl rfl
end Mir
section
open L2 DL Mir
local macro_rules | `(tactic| kd_p) => `(tactic| simp only [zki, znB, znC, znD, znE, zkj, zit, ziu, ziv, zq2, zeA, ziw, znF, zq3, zdU, zff, zix, zgJ, ziy, zkk, znG, ziz, zkl, ziA, zkm, zdV, zkn, ziB, zko, zq5, zq6, zq7, zq8, zq9, zra, zrb, zrc, zkp, zre, zrf, zrg, zrh, zri, zrj, zrk, zkq, zhq, zdW, zkr, zks, zrl, zrm, znH, zvC, zvD, zkt, znI, zku, znJ, znK, znL, zrn, zro, zkv, zkw, znM, zrp, zrq, znN, zvF, zvG, zgK, zgL, zkx, ziC, zgM, zgN, zkz, znO, zkA, ziD, zkB, ziE, ziF, zkC, znP, zkD, zkE, znR, zkF, znS, znT, znU, znV, zkG, znW, zgO, zkH, zfF, zkI, znX, zkJ, zrt, zru, znY, znZ, zn0, zrv, zrw, zrx, zry, zrz, zrA, zrB, zrC, zrD, zrE, zrF, zrG, zrH, zn2, zn3, zkL, zju, zkM, zkN, zkO, zkP, zkQ, zkR, zrI, zn4, zn5, zn6, zn7, zn8, eq_self, decide_true, decide_false, Int.reduceEq, Int.reduceLT, Int.reduceLE, Int.reduceNeg, Int.reduceToNat, zrJ, zn9, zoa, zrK, zfH, zeK, zfI, zgP, zfJ, zfK, zfL, zfM, zkS, ziJ, zkT, zkU, zob, zoc, zkV, zod, zbF, zkZ, zdo, zkW, zkX, zkY, ziK, zoe, zfc, mask, zbD, List.contains_cons, List.contains_nil, Bool.or_false, Bool.false_or, Bool.true_or, Bool.or_true, Nat.reduceBEq, Nat.reduceAdd, xbk, cond_true, cond_false, List.set_cons_zero, List.set_cons_succ, xdk, xdb, Bool.not_not, Bool.true_and, Bool.false_and, Bool.and_true, Bool.and_false])
local macro_rules | `(tactic| walk_at "side") => `(tactic| first | assumption | decide | omega | (refine zsU ?_ ?_ <;> omega) | (refine zsV ?_ ?_ ?_ <;> omega) | (refine zcM ?_ ?_ <;> omega) | (simp only [xam, xc6, xbc, xae]; omega))
local macro_rules | `(tactic| kpf_c) => `(tactic| simp (disch := walk_at "side") only [zki, znB, znC, znD, znE, zkj, zit, ziu, ziv, zq2, zeA, ziw, znF, zq3, zdU, zff, zix, zgJ, ziy, zkk, znG, ziz, zkl, ziA, zkm, zdV, zkn, ziB, zko, zq5, zq6, zq7, zq8, zq9, zra, zrb, zrc, zkp, zre, zrf, zrg, zrh, zri, zrj, zrk, zkq, zhq, zdW, zkr, zks, zrl, zrm, znH, zvC, zvD, zkt, znI, zku, znJ, znK, znL, zrn, zro, zkv, zkw, znM, zrp, zrq, znN, zvF, zvG, zgK, zgL, zkx, ziC, zgM, zgN, zkz, znO, zkA, ziD, zkB, ziE, ziF, zkC, znP, zkD, zkE, znR, zkF, znS, znT, znU, znV, zkG, znW, zgO, zkH, zfF, zkI, znX, zkJ, zrt, zru, znY, znZ, zn0, zrv, zrw, zrx, zry, zrz, zrA, zrB, zrC, zrD, zrE, zrF, zrG, zrH, zn2, zn3, zkL, zju, zkM, zkN, zkO, zkP, zkQ, zkR, zrI, zn4, zn5, zn6, zn7, zn8, eq_self, decide_true, decide_false, Int.reduceEq, Int.reduceLT, Int.reduceLE, Int.reduceNeg, Int.reduceToNat, zrJ, zn9, zoa, zrK, zfH, zeK, zfI, zgP, zfJ, zfK, zfL, zfM, zkS, ziJ, zkT, zkU, zob, zoc, zkV, zod, zbF, zkZ, zdo, zkW, zkX, zkY, ziK, zoe, zfc, mask, zbD, List.contains_cons, List.contains_nil, Bool.or_false, Bool.false_or, Bool.true_or, Bool.or_true, Nat.reduceBEq, Nat.reduceAdd, xbk, cond_true, cond_false, List.set_cons_zero, List.set_cons_succ, xdk, xdb, Bool.not_not, Bool.true_and, Bool.false_and, Bool.and_true, Bool.and_false, zas, ziG, za1, zsX, zsY, zgQ, zhs, zhr, zpX, zpY, znQ])
namespace LmP
open Mth
theorem zxL {n : Nat} {i : Int} (h : B n i) : i.natAbs <= 2 ^ n - 1 := by unfold B at h; omega
theorem zli {n : Nat} {x y z : Int} (hx : B n x) (hy : B n y) (hz : B n z) (h : NZ x y z) (hn : n <= 9000) : zo4 (zcr x y z) = true := by
 refine znp (n := n) ?_ (zbQ h).ne hn
 have := zsk (zxL hx) (zxL hy) (zxL hz)
 have p : 0 < 2 ^ n := Nat.pow_pos (by decide)
 unfold B; omega
theorem zgY (a b : Int) : zbW [.int a, .int b] = .ok (.int ((Nat.gcd a.natAbs b.natAbs : Nat) : Int)) := by
 rw [ziU]
 unfold zd3 zfW zfV zfU
 kd_p
 have loop : ∀ (n m : Nat) (z : Option D), ∃ z', zaT zb6 zc8 [some (.int (m : Int)), some (.int (n : Int)), z] = .ok (.nx [some (.int ((Nat.gcd m n : Nat) : Int)), some (.int 0), z']) := by
  intro n
  induction n using Nat.strongRecOn with
  | _ n ih =>
   intro m z
   by_cases hn : n = 0
   ·subst hn
    refine ⟨z, ?_⟩
    rw [zk3 (by unfold zb6; kd_p; rfl), Nat.gcd_zero_right]; rfl
   ·have hlt : m % n < n := xcv _ (by omega)
    obtain ⟨z', h⟩ := ih (m % n) hlt n (some (.int ((m % n : Nat) : Int)))
    refine ⟨z', ?_⟩
    rw [zk2 (U' := [some (.int (n : Int)), some (.int ((m % n : Nat) : Int)), some (.int ((m % n : Nat) : Int))]) ?_ ?_, h, Mth.gcd_step]
    ·unfold zb6; kd_p
     simp [hn]
    ·unfold zc8 zdE zdD; kd_p
     rw [za1 _ _ (by omega)]
     kd_p
     rfl
 obtain ⟨z', h⟩ := loop b.natAbs a.natAbs none
 rw [h]
 kd_p
theorem zl3 (i : Int) : zbL [.int i] = .ok (.bl true) := by
 rw [zhD]; unfold zdq; kd_p
theorem zv9 (x y z : Int) : (!decide (x = 0 /\ y = 0 /\ z = 0)) = decide (NZ x y z) := by
 unfold NZ; by_cases h : x = 0 /\ y = 0 /\ z = 0 <;> simp [h]
theorem zhL (x y z : Int) : zbh [t3 x y z] = .ok (.bl (decide (NZ x y z))) := by
 rw [ze6]; unfold zbH; kd_p
 rw [zrL (g := fun _ => .bl true) (by simp) (fun d hd => ?_)]
 ·kd_p
  rw [show zsM [.lst ([D.int x, D.int y, D.int z].map fun _ => D.bl true)] = .ok (.bl true) from rfl]
  kd_p
  rw [zv9]
 ·simp only [xak, xbf, or_false] at hd
  rcases hd with rfl | rfl | rfl <;> (kd_p; exact zl3 _)
theorem zoC (x y z : Int) (h : NZ x y z) (U : DSt) : opK gIx (zsS (lcK 1 [0] (.ok [.int x, .int y, .int z]) zan (zaq (eOp gNe (zac 0) (eC (.int 0)))) (zac 0) U)) (.ok (.int (-1))) = .ok (.int (zar x y z)) := by
 rw [zcl (p := fun d => !eqD d (.int 0)) (g := id) (by simp) (fun d hd => ?_) (fun d hd _ => ?_)]
 ·kd_p
  unfold zar
  by_cases hz : z = 0
  ·by_cases hy : y = 0
   ·have hx : x ≠ 0 := fun e => h ⟨e, hy, hz⟩
    subst hz; subst hy
    simp only [List.filter_cons, List.filter_nil, zdX, hx, decide_false, decide_true, xdb, xdk, if_true, xbo, if_false, xa0, xds, id, ne_eq, not_true_eq_false]
    rfl
   ·subst hz
    by_cases hx : x = 0
    ·subst hx
     simp only [List.filter_cons, List.filter_nil, zdX, hy, decide_false, decide_true, xdb, xdk, if_true, xbo, if_false, xa0, xds, id, ne_eq, not_true_eq_false, not_false_eq_true]
     rfl
    ·simp only [List.filter_cons, List.filter_nil, zdX, hx, hy, decide_false, decide_true, xdb, xdk, if_true, xbo, if_false, xa0, xds, id, ne_eq, not_true_eq_false, not_false_eq_true]
     rfl
  ·have e : List.map id (List.filter (fun d => !eqD d (.int 0)) [.int x, .int y, .int z]) = List.map id (List.filter (fun d => !eqD d (.int 0)) [.int x, .int y]) ++ [D.int z] := by
    rw [show ([.int x, .int y, .int z] : List D) = [.int x, .int y] ++ [.int z] from rfl, List.filter_append, xcn]
    congr 1
    simp [zdX, hz]
   rw [e, zpZ]
   simp [hz]
 ·simp only [xak, xbf, or_false] at hd
  rcases hd with rfl | rfl | rfl <;> (kd_p; rw [zdX])
 ·simp only [xak, xbf, or_false] at hd
  rcases hd with rfl | rfl | rfl <;> (kd_p; rfl)
abbrev lowD (x y z : Int) : D := t3 (x.fdiv (zcr x y z)) (y.fdiv (zcr x y z)) (z.fdiv (zcr x y z))
theorem zgZ (x y z : Int) : (zar x y z < 0 /\ zcr x y z = -((g3 x y z : Nat) : Int)) \/ (¬ zar x y z < 0 /\ zcr x y z = ((g3 x y z : Nat) : Int)) := by
 unfold zcr
 by_cases h : zar x y z < 0
 ·left; rw [if_pos h]; exact ⟨h, by omega⟩
 ·right; rw [if_neg h]; exact ⟨h, rfl⟩
theorem zi7 {n : Nat} {x y z : Int} (hx : B n x) (hy : B n y) (hz : B n z) (h : NZ x y z) (hn : n <= 9000) : zbt [t3 x y z] = .ok (lowD x y z) := by
 have hd := zli hx hy hz h hn
 rw [ziV]; unfold zd4 zfZ zfY zfX; kd_p
 rw [zgY]; kd_p
 rw [zgY]; kd_p
 rw [zoC x y z h]; kd_p
 rw [xc8]
 rcases zgZ x y z with ⟨hl, hs⟩ | ⟨hl, hs⟩
 ·rw [decide_eq_true hl]; kd_p
  rw [show -(((Nat.gcd (Nat.gcd x.natAbs y.natAbs) z.natAbs : Nat)) : Int) = zcr x y z from hs.symm, zcA _ _ hd, zcA _ _ hd, zcA _ _ hd]
  kd_p
 ·rw [decide_eq_false hl]; kd_p
  rw [show (((Nat.gcd (Nat.gcd x.natAbs y.natAbs) z.natAbs : Nat)) : Int) = zcr x y z from hs.symm, zcA _ _ hd, zcA _ _ hd, zcA _ _ hd]
  kd_p
theorem zl4 {n : Nat} {x y z : Int} (hx : B n x) (hy : B n y) (hz : B n z) (h : NZ x y z) (hn : n <= 9000) : zbM [t3 x y z] = .ok (.bl (decide (x.fdiv (zcr x y z) = x /\ y.fdiv (zcr x y z) = y /\ z.fdiv (zcr x y z) = z))) := by
 rw [zhE]; unfold zdr zeP zeO; kd_p
 rw [zhL, decide_eq_true h]; kd_p
 rw [zi7 hx hy hz h hn]; kd_p
end LmP
open L2 DL Mir
namespace LmA
open Mth LmP
theorem zdI {i j : Int} (h : 0 < j) : 0 <= i % j /\ i % j < j := ⟨Int.emod_nonneg _ (by omega), Int.emod_lt_of_pos _ h⟩
end LmA
open L2 DL Mir
namespace LmD
open Mth LmP LmA
abbrev ptD (p : P3) : D := t3 p.1 p.2.1 p.2.2
structure BP (n : Nat) (p : P3) : Prop where
 x : B n p.1
 y : B n p.2.1
 z : B n p.2.2
theorem BP.mono {m n : Nat} {p : P3} (h : BP m p) (hn : m <= n) : BP n p := ⟨h.x.mono hn, h.y.mono hn, h.z.mono hn⟩
theorem BP.crs {m n : Nat} {p q : P3} (hp : BP m p) (hq : BP n q) : BP (m + n + 1) (Mth.crs p q) :=
 ⟨((hp.y.mul hq.z).sub (hp.z.mul hq.y)).mono (by omega), ((hp.z.mul hq.x).sub (hp.x.mul hq.z)).mono (by omega), ((hp.x.mul hq.y).sub (hp.y.mul hq.x)).mono (by omega)⟩
theorem BP.low {n : Nat} {p : P3} (h : BP n p) (hz : Nz p) : BP n (Mth.low p) := by
 obtain ⟨a, b, c⟩ := zsl hz
 exact ⟨xb3 a h.x, xb3 b h.y, xb3 c h.z⟩
theorem zal {n : Nat} {i : Int} (h : B n i) (hn : n <= 10000) : zji i = true := zno h (by omega)
theorem eqP (p q : P3) : (p.1 = q.1 /\ p.2.1 = q.2.1 /\ p.2.2 = q.2.2) ↔ p = q := ⟨fun ⟨a, b, c⟩ => xan a (xan b c), fun h => by subst h; exact ⟨rfl, rfl, rfl⟩⟩
theorem zrQ (p q : P3) : eqD (ptD p) (ptD q) = decide (p = q) := by
 rw [ziI, decide_eq_decide.mpr (eqP p q)]
theorem zqr (d : D) (ds : List D) : gIx (.lst (d :: ds)) (.int 0) = .ok d := zfG (j := 0) rfl
theorem zwa {m n : Nat} {p q : P3} (hp : BP m p) (hq : BP n q) (hm : m <= 10000) (hn : n <= 10000) : zl1 [ptD p, ptD q] = .ok (.int (dot p q)) := by
 rw [zqq]; unfold zqp; kd_p
 rw [zas _ _ (zal hp.x hm) (zal hq.x hn), zas _ _ (zal hp.y hm) (zal hq.y hn), zas _ _ (zal hp.z hm) (zal hq.z hn)]; kd_p
 rfl
theorem zqs {m n : Nat} {p q : P3} (hp : BP m p) (hq : BP n q) (hm : m <= 10000) (hn : n <= 10000) : zeF [ptD p, ptD q] = .ok (ptD (crs p q)) := by
 rw [zl2]; unfold zhF ziZ ziY ziX; kd_p
 rw [zas _ _ (zal hp.y hm) (zal hq.z hn), zas _ _ (zal hp.z hm) (zal hq.y hn)]; kd_p
 rw [zas _ _ (zal hp.z hm) (zal hq.x hn), zas _ _ (zal hp.x hm) (zal hq.z hn)]; kd_p
 rw [zas _ _ (zal hp.x hm) (zal hq.y hn), zas _ _ (zal hp.y hm) (zal hq.x hn)]; kd_p
 rfl
theorem zoD (n m : Nat) (s a : Option D) (zaD : DSt) : zaT (zaq (eOp gNe (zac 3) (eC (.int 0)))) (ztI [] [1, 3] (zc2 2) (zil (zaa (zac 3) (zaa (eOp zfe (zac 1) (zac 3)) zaj)))) (s :: some (.int (m : Int)) :: a :: some (.int (n : Int)) :: zaD) = .ok (.nx (s :: some (.int ((Nat.gcd m n : Nat) : Int)) :: a :: some (.int 0) :: zaD)) := by
 induction n using Nat.strongRecOn generalizing m with
 | _ n ih =>
  by_cases hn : n = 0
  ·subst hn
   rw [zk3 (by kd_p; rfl), Nat.gcd_zero_right]; rfl
  ·have hlt : m % n < n := xcv _ (by omega)
   have h := ih (m % n) hlt n
   rw [zk2 (U' := s :: some (.int (n : Int)) :: a :: some (.int ((m % n : Nat) : Int)) :: zaD) ?_ ?_, h, Mth.gcd_step]
   ·kd_p
    rw [decide_eq_false (by omega)]; rfl
   ·kd_p
    rw [za1 _ _ (by omega)]
    kd_p
    rfl
theorem zoE : ∀ (ns : List Int) (g : Nat) (s a r : Option D) (zaD : DSt), ∃ a' r', zez [2] zan (zaG (zaJ 3 (zcc zqZ (zaa (zac 2) zaj))) (zaT (zaq (eOp gNe (zac 3) (eC (.int 0)))) (ztI [] [1, 3] (zc2 2) (zil (zaa (zac 3) (zaa (eOp zfe (zac 1) (zac 3)) zaj)))))) (ns.map .int) (s :: some (.int (g : Int)) :: a :: r :: zaD) = .ok (.nx (s :: some (.int ((ns.foldl (fun g n => Nat.gcd g n.natAbs) g : Nat) : Int)) :: a' :: r' :: zaD))
 | [], g, s, a, r, zaD => ⟨a, r, rfl⟩
 | n :: ns, g, s, a, r, zaD => by
  obtain ⟨a', r', h⟩ := zoE ns (Nat.gcd g n.natAbs) s (some (.int n)) (some (.int 0)) zaD
  refine ⟨a', r', ?_⟩
  rw [xa0, zbF]; kd_p
  rw [zoD]; kd_p
  exact h
theorem zqt (ns : List Int) (s a r : Option D) (zaD : DSt) : ∃ a' r', zez [2] zan (zaG (zaJ 3 (zcc zqZ (zaa (zac 2) zaj))) (zaT (zaq (eOp gNe (zac 3) (eC (.int 0)))) (ztI [] [1, 3] (zc2 2) (zil (zaa (zac 3) (zaa (eOp zfe (zac 1) (zac 3)) zaj)))))) (ns.map .int) (s :: some (.int 0) :: a :: r :: zaD) = .ok (.nx (s :: some (.int ((ns.foldl (fun g n => Nat.gcd g n.natAbs) 0 : Nat) : Int)) :: a' :: r' :: zaD)) := zoE ns 0 s a r zaD
theorem zoF {ns : List Int} {s : Int} {U : DSt} (hl : ns.length <= 1000) (h : zo4 s = true) {j : Nat} (hj : zac j U = .ok (.int s)) : lcK 1 [0] (.ok (ns.map D.int)) zan zby (eOp zfB (zac 0) (zac (j + 1))) U = .ok ((ns.map fun n => n.fdiv s).map .int) := by
 rw [zrL (g := fun d => match d with | .int n => .int (n.fdiv s) | d => d) (by rw [xae]; omega) (fun d hd => ?_)]
 ·rw [xb1, xb1]; rfl
 ·obtain ⟨n, _, rfl⟩ := xav.mp hd
  kd_p
  rw [hj]; kd_p
  exact zcA _ _ h
theorem zi8 {n : Nat} {s : D} {x y z : Int} (hs : zsz s = .ok [.int x, .int y, .int z]) (hx : B n x) (hy : B n y) (hz : B n z) (h : NZ x y z) (hn : n <= 9000) : zaO [s] = .ok (lowD x y z) := by
 have hd := zli hx hy hz h hn
 have sq : zp1 (.ok s) = .ok ([x, y, z].map D.int) := hs
 rw [zi4]; unfold zef zga zeX zdF zdc zdd; kd_p
 rw [sq]; kd_p
 obtain ⟨a', r', e⟩ := zqt [x, y, z] (some s) none none [none]
 rw [e]; kd_p
 simp only [xb5, List.foldl_nil, Nat.gcd_zero_left]
 unfold zf9 zf8 zf7; kd_p
 rw [sq]
 have l := zoC x y z h [some s, some (.int (((x.natAbs.gcd y.natAbs).gcd z.natAbs : Nat) : Int)), a', r', none]
 have hc : ∀ (U : DSt), ∀ d ∈ [D.int x, D.int y, D.int z], zaq (eOp gNe (zac 0) (eC (.int 0))) (some d :: U) = .ok (!eqD d (.int 0)) := by
  intro U d hd
  simp only [xak, xbf, or_false] at hd
  rcases hd with rfl | rfl | rfl <;> (kd_p; rw [zdX])
 rw [zcl (p := fun d => !eqD d (.int 0)) (g := id) (by simp) (hc _) (fun d hd _ => rfl), zhq, ziw] at l
 rw [show ([x, y, z].map D.int) = [.int x, .int y, .int z] from rfl, zcl (p := fun d => !eqD d (.int 0)) (g := id) (by simp) (hc _) (fun d hd _ => rfl)]
 kd_p
 rw [l]; kd_p
 rcases zgZ x y z with ⟨hl, hs'⟩ | ⟨hl, hs'⟩
 ·rw [decide_eq_true hl]; kd_p
  rw [show 0 - (((Nat.gcd (Nat.gcd x.natAbs y.natAbs) z.natAbs : Nat)) : Int) = zcr x y z from by rw [hs', Int.zero_sub]; rfl, sq, zoF (j := 1) (by simp) hd rfl]; kd_p
  rfl
 ·rw [decide_eq_false hl]; kd_p
  rw [show (((Nat.gcd (Nat.gcd x.natAbs y.natAbs) z.natAbs : Nat)) : Int) = zcr x y z from hs'.symm, sq, zoF (j := 1) (by simp) hd rfl]; kd_p
  rfl
theorem zoG {n : Nat} {p : P3} (h : BP n p) (hz : Nz p) (hn : n <= 9000) : zaO [ptD p] = .ok (ptD (low p)) := zi8 rfl h.x h.y h.z hz hn
theorem zi9 {n : Nat} {p : P3} (h : BP n p) (hz : Nz p) (hn : n <= 9000) : zaO [l3 p.1 p.2.1 p.2.2] = .ok (ptD (low p)) := zi8 rfl h.x h.y h.z hz hn
theorem zbN (c k : Int) (h0 : 0 <= k) (h1 : k <= 1000) : ∃ r, zaB [.int c, .int k] = .ok (.int r) /\ 0 <= r /\ r < 2147483629 := by
 rw [zi3]; unfold zee; kpf_c
 by_cases h : (10 : Int) ^ 18 <= c
 ·rw [decide_eq_true h]; kpf_c
  have := zdI (i := c / 2 ^ (20 * k).toNat) (j := 1048576) (by decide)
  exact ⟨_, rfl, by omega, by omega⟩
 ·rw [decide_eq_false h]; kd_p
  have m1 := zdI (i := c) (j := 2147483647) (by decide)
  have kk : 0 <= 48271 * k * k /\ 48271 * k * k <= 48271000 * 1000 := ⟨Int.mul_nonneg (by omega) h0, Int.mul_le_mul (by omega) h1 h0 (by decide)⟩
  unfold zf6; kpf_c
  generalize 48271 * k * k = q at kk ⊢
  generalize c % 2147483647 = w at m1 ⊢
  have m2 := zdI (i := (w + q + k + 1) * 69621) (j := 2147483629) (by decide)
  generalize (w + q + k + 1) * 69621 % 2147483629 = u at m2 ⊢
  unfold zf5; kpf_c
  generalize u * u + 7919 * k + 5 = t
  have m3 := zdI (i := t) (j := 2147483587) (by decide)
  generalize t % 2147483587 = v at m3 ⊢
  unfold zf4; kpf_c
  exact ⟨_, rfl, zdI (by decide)⟩
end LmD
open L2 DL Mir
namespace LmE
open Mth LmP LmA LmD
theorem zlj (own : List Nat) (i : Nat) (fk fe : DSt -> R D) (U : DSt) : zvO own i fk fe U = zww i (zb3 U i) (fe (mask own U)) (fk (mask own U)) U := rfl
theorem zoH {i j : Nat} {ds : List D} {d : D} {U : DSt} (hj : j < ds.length) : zww i (.ok ds) (.ok d) (.ok (.int (j : Int))) U = .ok (.nx (U.set i (some (.lst (ds.set j d))))) := by
 show (match ixN ds.length (j : Int) with | some j => R.ok (Out.nx (U.set i (some (.lst (ds.set j d))))) | none => .bad) = _
 have : ixN ds.length (j : Int) = some j := by
  unfold ixN; rw [if_pos (by omega), if_pos (by omega)]; rfl
 rw [this]
theorem zge {m n : Nat} {p q : P3} (hp : BP m p) (hq : BP n q) (hm : m <= 10000) (hn : n <= 10000) : zaZ [ptD p, ptD q] = .ok (ptD (crs p q)) := by
 rw [zgs]; unfold zcF zeh zeg; kd_p
 rw [zas _ _ (zal hp.y hm) (zal hq.z hn), zas _ _ (zal hp.z hm) (zal hq.y hn)]; kd_p
 rw [zas _ _ (zal hp.z hm) (zal hq.x hn), zas _ _ (zal hp.x hm) (zal hq.z hn)]; kd_p
 rw [zas _ _ (zal hp.x hm) (zal hq.y hn), zas _ _ (zal hp.y hm) (zal hq.x hn)]; kd_p
 rfl
theorem b20 {i : Int} (h1 : -524288 <= i) (h2 : i <= 524288) : B 20 i := B.of (k := 524288) (by omega)
theorem zcJ (c : Int) (k : Nat) (hk : k <= 100) : ∃ p, zbm [.int c, .int (k : Int)] = .ok (ptD p) /\ Nrm p /\ BP 20 p := by
 rw [zhJ]; unfold zdv; kpf_c
 obtain ⟨w, ew, w0, w1⟩ := zbN c (4 * (k : Int)) (by omega) (by omega)
 rw [ew]; kd_p
 unfold ze0; kd_p
 unfold zeZ; kpf_c
 have turn : ∀ (j : Nat) (d : D) (U : DSt), (zgj 0 3)[j]? = some d -> (∃ ns : List Int, ns.length = j /\ (∀ i ∈ ns, B 20 i) /\ ∃ a b, U = [some (.int c), some (.int (k : Int)), some (.int w), some (.lst (ns.map .int)), a, b]) -> ∃ U', (zbi (U.set 4 (some d)) = .ok (.nx U') \/ zbi (U.set 4 (some d)) = .ok (.ct U')) /\ ∃ ns : List Int, ns.length = j + 1 /\ (∀ i ∈ ns, B 20 i) /\ ∃ a b, U' = [some (.int c), some (.int (k : Int)), some (.int w), some (.lst (ns.map .int)), a, b] := by
  rintro j d U hd ⟨ns, hl, hb, a, b, rfl⟩
  have hj : j < 3 := by
   have := (xah.mp hd).1
   simpa [zgj] using this
  obtain rfl : d = .int (j : Int) := by
   unfold zgj at hd
   rw [xa6, xb7 hj] at hd
   simpa using hd.symm
  obtain ⟨r, er, r0, r1⟩ := zbN c (4 * (k : Int) + 1 + (j : Int)) (by omega) (by omega)
  unfold zbi; kpf_c
  rw [er]; kd_p
  unfold zdf; kpf_c
  have f1 := zdI (i := r) (j := 7) (by decide)
  have f2 := zdI (i := r) (j := 81) (by decide)
  have f3 := zdI (i := r) (j := 1048576) (by decide)
  have f4 := zdI (i := w) (j := 4) (by decide)
  obtain ⟨v, ev, bv⟩ : ∃ v : Int, opK gIx (.ok (.lst [.int (r % 7 - 3), .int (r % 81 - 40), .int (r % 1048576 - 524288)])) (gIx (.lst [.int 0, .int 0, .int 1, .int 2]) (.int (w % 4))) = .ok (.int v) /\ B 20 v := by
   rcases (show w % 4 = 0 \/ w % 4 = 1 \/ w % 4 = 2 \/ w % 4 = 3 by omega) with e | e | e | e <;> rw [e]
   ·exact ⟨_, rfl, b20 (by omega) (by omega)⟩
   ·exact ⟨_, rfl, b20 (by omega) (by omega)⟩
   ·exact ⟨_, rfl, b20 (by omega) (by omega)⟩
   ·exact ⟨_, rfl, b20 (by omega) (by omega)⟩
  rw [ev, zhr _ _ _ _ (by rw [xae]; omega)]
  refine ⟨_, .inl rfl, ns ++ [v], by simp [hl], fun i hi => ?_, some (.int (j : Int)), some (.int r), ?_⟩
  ·rcases xbr.mp hi with hi | hi
   ·exact hb i hi
   ·rw [xa9.mp hi]; exact bv
  ·rw [xcn]; rfl
 obtain ⟨U', e1, ns, hl, hb, a, b, rfl⟩ := zk1 (i := 4) (fb := zbi) _ _ turn [some (.int c), some (.int (k : Int)), some (.int w), some (.lst []), none, none] ⟨[], rfl, by simp, _, _, rfl⟩
 rw [e1]; kd_p
 have hl : ns.length = 3 := hl
 match ns, hl with
 | [x, y, z], _ =>
  have bx := hb x (by simp)
  have bY := hb y (by simp)
  have bz := hb z (by simp)
  have tail : ∀ x y z : Int, B 20 x -> B 20 y -> B 20 z -> ∃ p, fin (zdh [some (.int c), some (.int (k : Int)), some (.int w), some (l3 x y z), a, b]) = .ok (ptD p) /\ Nrm p /\ BP 20 p := by
   intro x y z bx bY bz
   have last : ∀ x y z : Int, B 20 x -> B 20 y -> B 20 z -> NZ x y z -> ∃ p, fin (zdg [some (.int c), some (.int (k : Int)), some (.int w), some (l3 x y z), a, b]) = .ok (ptD p) /\ Nrm p /\ BP 20 p := by
    intro x y z bx bY bz hz
    unfold zdg; kd_p
    rw [zi9 (p := (x, y, z)) ⟨bx, bY, bz⟩ hz (by decide)]; kd_p
    exact ⟨_, rfl, za9 (p := (x, y, z)) hz, BP.low (p := (x, y, z)) ⟨bx, bY, bz⟩ hz⟩
   unfold zdh; kpf_c
   by_cases hz : x = 0 /\ y = 0 /\ z = 0
   ·rw [decide_eq_true hz]; kpf_c
    rw [zlj]; kpf_c
    have f := zdI (i := w / 16) (j := 3) (by decide)
    obtain ⟨j, hj⟩ : ∃ j : Nat, w / 16 % 3 = (j : Int) := ⟨(w / 16 % 3).toNat, by omega⟩
    have hj3 : j < 3 := by omega
    rw [hj, zoH (by simpa using hj3)]; kd_p
    obtain ⟨rfl, rfl, rfl⟩ := hz
    have b1 : B 20 1 := B.of (k := 1) (by decide)
    have b0 : B 20 0 := B.of (k := 0) (by decide)
    rcases (show j = 0 \/ j = 1 \/ j = 2 by omega) with rfl | rfl | rfl
    ·exact last 1 0 0 b1 b0 b0 (by decide)
    ·exact last 0 1 0 b0 b1 b0 (by decide)
    ·exact last 0 0 1 b0 b0 b1 (by decide)
   ·rw [decide_eq_false hz]; kd_p
    exact last x y z bx bY bz hz
  unfold zeY; kpf_c
  by_cases hw : w / 4 % 4 = 0
  ·rw [decide_eq_true hw]; kpf_c
   rw [zlj]; kd_p
   rw [show (2 : Int) = ((2 : Nat) : Int) from rfl, zoH (by simp)]; kd_p
   exact tail x y 0 bx bY (B.of (k := 0) (by decide))
  ·rw [decide_eq_false hw]; kd_p
   exact tail x y z bx bY bz
end LmE
open L2 DL Mir
namespace Lk42
open Mth LmP LmA LmD LmE
theorem ztk (p : P3) (F : List P3) : in2 (ptD p) (F.map ptD) = true := by
 unfold in2
 rw [xax, xay]
 refine ⟨rfl, fun d hd => ?_⟩
 obtain ⟨q, _, rfl⟩ := xav.mp hd
 rfl
theorem zoI (p : P3) : ∀ F : List P3, inD (ptD p) (F.map ptD) = decide (p ∈ F)
 | [] => rfl
 | q :: F => by
  have ih := zoI p F
  unfold inD at ih ⊢
  rw [xa0, List.any_cons, ih, zrQ]
  by_cases e : p = q
  ·subst e; simp
  ·have e' : ¬ q = p := fun z => e z.symm
   simp [e, e']
theorem nin_pts (p : P3) (F : List P3) : zlM (ptD p) (.lst (F.map ptD)) = .ok (.bl (!decide (p ∈ F))) := by
 rw [zs0 (ztk p F), zoI]
theorem eSl_to (fe f : DSt -> R D) (U : DSt) (ds : List D) (n : Nat) (h1 : fe U = .ok (.lst ds)) (h2 : f U = .ok (.int (n : Int))) : eSl fe zbT (zbU f) U = .ok (.lst (ds.take n)) := by
 unfold eSl zbT zbU
 rw [h1, h2]
 show R.ok (D.lst (zo5 ds none (some (n : Int)))) = _
 unfold zo5
 rw [HT.sIx_none, HT.sIx_nat, List.drop_zero, Nat.sub_zero, <- List.take_eq_take_min]
theorem gAdd_ll {xs ys : List D} (h : xs.length + ys.length <= 1000000) : zb2 (.lst xs) (.lst ys) = .ok (.lst (xs ++ ys)) := by
 show (bif znq (xs.length + ys.length) then _ else _) = _
 rw [show znq (xs.length + ys.length) = true from decide_eq_true (xa4 h (by decide))]; rfl
end Lk42
open L2 DL Mir
namespace LmB
open Mth LmP LmA LmD
theorem zl5 {n : Nat} {p : P3} (h : BP n p) (hz : Nz p) (hn : n <= 9000) : zbt [t3 p.1 p.2.1 p.2.2] = .ok (ptD (low p)) := zi7 h.x h.y h.z hz hn
theorem zl6 {n : Nat} {p q : P3} (hp : BP n p) (hq : BP n q) (hn : n <= 4000) (hne : p ≠ q) (hL : Nz (crs p q)) : zaN [ptD p, ptD q] = .ok (ptD (low (crs p q))) := by
 rw [zdN]; unfold za8 zb7; kd_p
 rw [decide_eq_false (fun h => hne ((eqP p q).mp h))]; kd_p
 rw [zqs hp hq (by omega) (by omega)]; kd_p
 rw [zl5 (hp.crs hq) hL (by omega)]; kd_p
theorem zbO {n : Nat} {p q : P3} (hp : BP n p) (hq : BP n q) (hn : n <= 4000) (hne : p ≠ q) (hL : Nz (crs p q)) : zao [ptD p, ptD q] = .ok (ptD (low (crs p q))) := by
 rw [zf0]; unfold zb8; kd_p
 rw [zl6 hp hq hn hne hL]; kd_p
theorem zoJ {m n : Nat} {p q : P3} (hp : BP m p) (hq : BP n q) (hm : m <= 10000) (hn : n <= 10000) : za6 [ptD p, ptD q] = .ok (.bl (decide (dot p q = 0))) := by
 rw [ziW]; unfold zd5; kd_p
 rw [zwa hp hq hm hn]; kd_p
theorem zlk (bs : List Bool) : zsM [.lst (bs.map D.bl)] = .ok (.bl (bs.all id)) := by
 show zq0 (.lst (bs.map D.bl)) = _
 simp only [zq0, zis]
theorem zjE {α : Type} {xs : List α} {f : α -> D} {e : DSt -> R D} {U : DSt} {g : α -> D} (hl : xs.length <= 1000000) (h : ∀ a ∈ xs, e (some (f a) :: U) = .ok (g a)) : lcK 1 [0] (.ok (xs.map f)) zan zby e U = .ok (xs.map g) := by
 have go : ∀ xs : List α, (∀ a ∈ xs, e (some (f a) :: U) = .ok (g a)) -> lcD [0] zan zby e (List.replicate 1 none ++ U) (xs.map f) = .ok (xs.map g) := by
  intro xs
  induction xs with
  | nil => intro _; rfl
  | cons d ds ih =>
   intro h
   show (e (some (f d) :: U)).bind (fun y => (lcD [0] zan zby e (List.replicate 1 none ++ U) (ds.map f)).bind fun ys => .ok (y :: ys)) = _
   rw [h d xab, ih fun d' hd => h d' (xad _ hd)]; rfl
 show (bif most (xs.map f).length then _ else _) = _
 rw [zeB (by rw [xae]; exact hl), go xs h]; rfl
structure Pts (n : Nat) (ps : List P3) : Prop where
 nrm : ∀ p ∈ ps, Nrm p
 bd : ∀ p ∈ ps, BP n p
theorem zoK {n : Nat} {ps : List P3} (h : Pts n ps) (hn : n <= 4000) (hl : ps.length <= 100000) : ∃ b, zaY [.lst (ps.map ptD)] = .ok (.bl b) /\ (b = true ↔ Col ps) := by
 rw [zgq]; unfold zcB; kd_p
 cases ps with
 | nil =>
  refine ⟨true, ?_, fun _ => Col.same (p0 := (0, 0, 0)) (by simp), fun _ => rfl⟩
  rfl
 | cons p0 ps =>
  rw [zcl (p := fun d => !eqD d (ptD p0)) (g := id) (by rw [xae]; omega) (fun d hd => ?_) (fun d hd _ => ?_)]
  ·rw [List.map_id]
   have hf : ((p0 :: ps).map ptD).filter (fun d => !eqD d (ptD p0)) = ((p0 :: ps).filter fun p => !decide (p = p0)).map ptD := by
    rw [List.filter_map]
    congr 1
    apply List.filter_congr
    intro p _
    exact congrArg _ (zrQ p p0)
   rw [hf]; kd_p
   unfold zd8; kd_p
   cases ho : (p0 :: ps).filter (fun p => !decide (p = p0)) with
   | nil =>
    refine ⟨true, by rfl, fun _ => Col.same (p0 := p0) fun p hp => ?_, fun _ => rfl⟩
    by_cases e : p = p0
    ·exact e
    ·have : p ∈ (p0 :: ps).filter (fun p => !decide (p = p0)) := xbm.mpr ⟨hp, by simp [e]⟩
     rw [ho] at this; cases this
   | cons o os =>
    have mo : o ∈ p0 :: ps /\ o ≠ p0 := by
     have : o ∈ (p0 :: ps).filter (fun p => !decide (p = p0)) := by rw [ho]; exact xab
     rw [xbm] at this
     exact ⟨this.1, by simpa using this.2⟩
    have m0 : p0 ∈ p0 :: ps := xab
    have hL : Nz (crs p0 o) := zak (h.nrm _ m0) (h.nrm _ mo.1) fun e => mo.2 e.symm
    have hthru := zbO (h.bd _ m0) (h.bd _ mo.1) hn (fun e => mo.2 e.symm) hL
    rw [decide_eq_false (by simp; omega)]; kd_p
    simp only [xa0]
    unfold zd7; kd_p
    rw [zqr, zqr]; kd_p
    rw [hthru]; kd_p
    unfold zd6; kd_p
    have hos : ∀ p ∈ o :: os, p ∈ p0 :: ps := fun p hp => by
     rw [<- ho] at hp; exact (xbm.mp hp).1
    have hle : (o :: os).length <= 100000 := by
     rw [<- ho]; exact xa4 (List.length_filter_le _ _) hl
    rw [<- xa0 (f := ptD), zjE (g := fun p => .bl (decide (dot p (low (crs p0 o)) = 0))) (by omega) (fun p hp => ?_)]
    ·kd_p
     rw [show (o :: os).map (fun p => D.bl (decide (dot p (low (crs p0 o)) = 0))) = ((o :: os).map fun p => decide (dot p (low (crs p0 o)) = 0)).map D.bl by rw [xb1]; rfl, zlk]; kd_p
     refine ⟨_, rfl, ?_⟩
     rw [Col.iff m0 mo.1 hL, List.all_map, xay]
     constructor
     ·intro q p hp
      by_cases e : p = p0
      ·subst e; unfold dot crs; grind
      ·have : p ∈ o :: os := by rw [<- ho]; exact xbm.mpr ⟨hp, by simp [e]⟩
       exact (zcZ hL).mp (of_decide_eq_true (q p this))
     ·intro q p hp
      exact decide_eq_true ((zcZ hL).mpr (q p (hos p hp)))
    ·kd_p
     rw [zoJ (h.bd _ (hos p hp)) (((h.bd _ m0).crs (h.bd _ mo.1)).low hL) (by omega) (by omega)]
  ·obtain ⟨p, _, rfl⟩ := xav.mp hd
   kd_p
   rw [xa0, zqr]; kd_p
   rw [ziI]
  ·rfl
end LmB
open L2 DL Mir
namespace LmF
open Mth LmP LmA LmD LmE
theorem lc_3 {a b c x y z : D} {e : DSt -> R D} {U : DSt} (ha : e (some a :: U) = .ok x) (hb : e (some b :: U) = .ok y) (hc : e (some c :: U) = .ok z) : lcK 1 [0] (.ok [a, b, c]) zan zby e U = .ok [x, y, z] := by
 have t : lcD [0] zan zby e (List.replicate 1 none ++ U) [a, b, c] = (e (some a :: U)).bind (fun y => ((e (some b :: U)).bind fun y' => ((e (some c :: U)).bind fun y'' => (R.ok ([] : List D)).bind fun ys => .ok (y'' :: ys)).bind fun ys => .ok (y' :: ys)).bind fun ys => .ok (y :: ys)) := rfl
 show (bif most 3 then (lcD [0] zan zby e (List.replicate 1 none ++ U) [a, b, c]).noerr else .bad) = _
 rw [t, ha, hb, hc]; rfl
end LmF
open L2 DL Mir
namespace LmH
open Mth LmP LmA LmD LmB LmE LmF
theorem zja {n : Nat} {p : P3} (hp : BP n p) (h : Nrm p) (hn : n <= 9000) : zbM [ptD p] = .ok (.bl true) := by
 rw [zl4 hp.x hp.y hp.z h.nz hn, show zcr p.1 p.2.1 p.2.2 = 1 from h.one, zdl, zdl, zdl]
 simp
def key (p : P3) : List Int := [p.1, p.2.1, p.2.2]
theorem ztl {p q : P3} (h : key p = key q) : p = q := by
 simp only [key, List.cons.injEq, and_true] at h
 exact xan h.1 (xan h.2.1 h.2.2)
theorem zer : ∀ ps : List P3, zat (ps.map ptD) = some (ps.map key)
 | [] => rfl
 | p :: ps => by
  have ih := zer ps
  rw [xa0, xa0]
  unfold zat
  rw [ih]; rfl
theorem zgf : ∀ {ps : List P3}, ps.Nodup -> (ps.map key).Nodup
 | [], _ => List.nodup_nil
 | p :: ps, h => by
  rw [xbh] at h
  rw [xa0, xbh]
  refine ⟨fun q => ?_, zgf h.2⟩
  obtain ⟨r, h1, h2⟩ := xav.mp q
  rw [ztl h2] at h1
  exact h.1 h1
theorem zjF (f : DSt -> R D) (U : DSt) : zjz f U = (f U).bind zc6 := rfl
theorem zoL {ps : List P3} (nd : ps.Nodup) (hl : ps.length <= 12) : zc6 (.lst (ps.map ptD)) = .ok (.int ps.length) := by
 show (match zat (ps.map ptD) with | some kss => (bif decide kss.Nodup && Nat.ble kss.length 18 then R.ok (D.int kss.length) else .bad) | none => .bad) = _
 rw [zer]
 show (bif decide (ps.map key).Nodup && Nat.ble (ps.map key).length 18 then R.ok (D.int (ps.map key).length) else .bad) = _
 rw [decide_eq_true (zgf nd), xae, show Nat.ble ps.length 18 = true from by rw [Nat.ble_eq]; omega]; rfl
theorem zjG {n : Nat} {ps : List P3} (h : Pts n ps) (hn : n <= 4000) (nd : ps.Nodup) (h1 : 1 <= ps.length) (h12 : ps.length <= 12) : zcm [.lst (ps.map ptD)] = .ok (.bl true) := by
 rw [zhG]; unfold zds; kd_p
 rw [show zcC = .int 12 from rfl]; kd_p
 rw [xae, show (decide (1 <= (ps.length : Int)) && decide ((ps.length : Int) <= 12)) = true from by rw [decide_eq_true (by omega), decide_eq_true (by omega)]; rfl]; kd_p
 unfold zeR; kd_p
 rw [zjE (g := fun _ => .bl true) (by omega) (fun p hp => ?_)]
 ·kd_p
  rw [show ps.map (fun _ => D.bl true) = (ps.map fun _ => true).map D.bl from by rw [xb1]; rfl, zlk, show (ps.map fun _ => true).all id = true from by rw [List.all_map, xay]; intro _ _; rfl]; kd_p
  unfold zeQ; kd_p
  rw [zjF]; kd_p
  rw [show (R.ok (D.lst (ps.map ptD))).bind zc6 = .ok (.int ps.length) from zoL nd h12, xae]; kd_p
 ·kd_p
  exact zja (h.bd p hp) (h.nrm p hp) (by omega)
theorem zl7 {n : Nat} {ps : List P3} (h : Pts n ps) (hn : n <= 4000) (nd : ps.Nodup) (h1 : 1 <= ps.length) (h12 : ps.length <= 12) : zc9 [.lst (ps.map ptD)] = .ok .non := by
 rw [zi0]; unfold zd9; kd_p
 rw [zjG h hn nd h1 h12]; kd_p
end LmH
open L2 DL Mir
namespace LmI
open Mth LmP LmA LmD LmB LmE LmF LmH
theorem zxM {a b c d f g x y z : D} {e : DSt -> R D} {U : DSt} (h1 : e (some a :: some b :: U) = .ok x) (h2 : e (some c :: some d :: U) = .ok y) (h3 : e (some f :: some g :: U) = .ok z) : lcK 2 [0, 1] (.ok [.tup [a, b], .tup [c, d], .tup [f, g]]) (zc2 2) zby e U = .ok [x, y, z] := by
 have t : lcD [0, 1] (zc2 2) zby e (List.replicate 2 none ++ U) [.tup [a, b], .tup [c, d], .tup [f, g]] = (e (some a :: some b :: U)).bind (fun y1 => ((e (some c :: some d :: U)).bind fun y2 => ((e (some f :: some g :: U)).bind fun y3 => (R.ok ([] : List D)).bind fun ys => .ok (y3 :: ys)).bind fun ys => .ok (y2 :: ys)).bind fun ys => .ok (y1 :: ys)) := rfl
 show (bif most 3 then (lcD [0, 1] (zc2 2) zby e (List.replicate 2 none ++ U) [.tup [a, b], .tup [c, d], .tup [f, g]]).noerr else .bad) = _
 rw [t, h1, h2, h3]; rfl
theorem b3 {i : Int} (h : -3 <= i /\ i <= 3) : B 3 i := B.of (k := 3) (by omega)
theorem lin {m n : Nat} {s t x y : Int} (hs : B 3 s) (ht : B 3 t) (hx : B n x) (hy : B n y) : B (n + 4) (s * x + t * y) := ((hs.mul hx).add (ht.mul hy)).mono (by omega)
theorem zoM {p q : P3} {s t : Int} (hp : Nrm p) (bp : BP 20 p) (bq : BP 20 q) (hs : -3 <= s /\ s <= 3) (ht : -3 <= t /\ t <= 3) : ∃ r, zbu [ptD p, ptD q, .int s, .int t] = .ok (ptD r) /\ Nrm r /\ BP 24 r := by
 have one : ∀ x y : Int, B 20 x -> B 20 y -> eOp zb2 (eOp zcL (zac 4) (zac 0)) (eOp zcL (zac 5) (zac 1)) [some (.int x), some (.int y), some (ptD p), some (ptD q), some (.int s), some (.int t), none] = .ok (.int (s * x + t * y)) := fun x y hx hy => by
  kd_p
  rw [zas _ _ (zal (b3 hs) (by decide)) (zal hx (by decide)), zas _ _ (zal (b3 ht) (by decide)) (zal hy (by decide))]; kd_p
 have bS : BP 24 (s * p.1 + t * q.1, s * p.2.1 + t * q.2.1, s * p.2.2 + t * q.2.2) := ⟨lin (m := 0) (b3 hs) (b3 ht) bp.x bq.x, lin (m := 0) (b3 hs) (b3 ht) bp.y bq.y, lin (m := 0) (b3 hs) (b3 ht) bp.z bq.z⟩
 rw [zgc]; unfold zca; kd_p
 rw [show zom [ptD p, ptD q] = .ok [.tup [.int p.1, .int q.1], .tup [.int p.2.1, .int q.2.1], .tup [.int p.2.2, .int q.2.2]] from rfl, zxM (one _ _ bp.x bq.x) (one _ _ bp.y bq.y) (one _ _ bp.z bq.z)]; kd_p
 unfold zdH; kd_p
 by_cases hz : s * p.1 + t * q.1 = 0 /\ s * p.2.1 + t * q.2.1 = 0 /\ s * p.2.2 + t * q.2.2 = 0
 ·rw [decide_eq_true hz]; kd_p
  exact ⟨p, rfl, hp, bp.mono (by decide)⟩
 ·rw [decide_eq_false hz]; kd_p
  unfold zdG; kd_p
  rw [show (D.lst [.int (s * p.1 + t * q.1), .int (s * p.2.1 + t * q.2.1), .int (s * p.2.2 + t * q.2.2)]) = l3 (s * p.1 + t * q.1) (s * p.2.1 + t * q.2.1) (s * p.2.2 + t * q.2.2) from rfl, zi9 (p := (s * p.1 + t * q.1, s * p.2.1 + t * q.2.1, s * p.2.2 + t * q.2.2)) bS hz (by decide)]; kd_p
  exact ⟨_, rfl, za9 (p := (s * p.1 + t * q.1, s * p.2.1 + t * q.2.1, s * p.2.2 + t * q.2.2)) hz, bS.low hz⟩
theorem Pts.snoc {n : Nat} {ps : List P3} {r : P3} (h : Pts n ps) (hr : Nrm r) (br : BP n r) : Pts n (ps ++ [r]) :=
 ⟨fun p hp => (xbr.mp hp).elim (h.nrm p) fun z => by rw [xa9.mp z]; exact hr, fun p hp => (xbr.mp hp).elim (h.bd p) fun z => by rw [xa9.mp z]; exact br⟩
theorem zrR {ps : List P3} {r : P3} {x0 x1 x2 x3 x4 x5 x7 : Option D} (h : Pts 24 ps) (nd : ps.Nodup) (hl : ps.length <= 12) (hr : Nrm r) (br : BP 24 r) :
  ∃ qs, zbz [x0, x1, x2, x3, x4, x5, some (.lst (ps.map ptD)), x7, some (ptD r)] = .ok (.nx [x0, x1, x2, x3, x4, x5, some (.lst (qs.map ptD)), x7, some (ptD r)]) /\ Pts 24 qs /\ qs.Nodup /\ 1 <= qs.length /\ qs.length <= ps.length + 1 := by
 unfold zbz; kd_p
 rw [Lk42.nin_pts]; kd_p
 by_cases hm : r ∈ ps
 ·rw [decide_eq_true hm]; kd_p
  exact ⟨ps, rfl, h, nd, xdi hm, by omega⟩
 ·rw [decide_eq_false hm]; kd_p
  rw [zhr _ _ _ _ (by rw [xae]; omega)]; kd_p
  refine ⟨ps ++ [r], by rw [xcn]; rfl, Pts.snoc h hr br, ?_, by simp, by simp⟩
  rw [List.nodup_append]
  refine ⟨nd, by simp, fun a ha b hb e => hm ?_⟩
  rw [<- xa9.mp hb, <- e]; exact ha
theorem zqu (c : Int) : ∃ f : Nat -> P3, ∀ k : Nat, k <= 100 -> zbm [.int c, .int (k : Int)] = .ok (ptD (f k)) /\ Nrm (f k) /\ BP 20 (f k) :=
 ⟨fun k => if h : k <= 100 then Classical.choose (zcJ c k h) else (0, 0, 1), fun k h => by
  have e : (if h : k <= 100 then Classical.choose (zcJ c k h) else (0, 0, 1)) = Classical.choose (zcJ c k h) := dif_pos h
  have z := Classical.choose_spec (zcJ c k h)
  rw [<- e] at z
  exact z⟩
theorem mix7 (h k : Int) (h0 : 0 <= k) (h1 : k <= 1000) : ∃ r, zaB [.int h, .int k] = .ok (.int r) /\ -3 <= r % 7 - 3 /\ r % 7 - 3 <= 3 := by
 obtain ⟨r, e, _, _⟩ := zbN h k h0 h1
 exact ⟨r, e, by omega, by omega⟩
theorem zl8 {h way off c n : Int} {f : Nat -> P3} {ps : List P3} {k : Nat} {x8 : Option D} (hf : ∀ k : Nat, k <= 100 -> zbm [.int c, .int (k : Int)] = .ok (ptD (f k)) /\ Nrm (f k) /\ BP 20 (f k)) (hk : k < 12) (hw : way = 0 \/ way = 1 \/ way = 2 \/ way = 3) (ho : 0 <= off /\ off < 12) (hp : Pts 24 ps) (nd : ps.Nodup) (hl : ps.length <= 12) :
  ∃ qs y8, zaQ [some (.int c), some (.int h), some (.int n), some (.int way), some (.int off), some (.lst ((List.range 12).map fun k => ptD (f k))), some (.lst (ps.map ptD)), some (.int (k : Int)), x8] = .ok (.nx [some (.int c), some (.int h), some (.int n), some (.int way), some (.int off), some (.lst ((List.range 12).map fun k => ptD (f k))), some (.lst (qs.map ptD)), some (.int (k : Int)), y8]) /\ Pts 24 qs /\ qs.Nodup /\ 1 <= qs.length /\ qs.length <= ps.length + 1 := by
 have at_ : ∀ j : Nat, j < 12 -> gIx (.lst ((List.range 12).map fun k => ptD (f k))) (.int (j : Int)) = .ok (ptD (f j)) := fun j hj => zfG (by rw [xa6, xb7 hj]; rfl)
 have at0 : gIx (.lst ((List.range 12).map fun k => ptD (f k))) (.int 0) = .ok (ptD (f 0)) := at_ 0 (by decide)
 have at1 : gIx (.lst ((List.range 12).map fun k => ptD (f k))) (.int 1) = .ok (ptD (f 1)) := at_ 1 (by decide)
 obtain ⟨_, nk, bk⟩ := hf k (by omega)
 obtain ⟨_, n0, b0⟩ := hf 0 (by decide)
 obtain ⟨_, n1, b1⟩ := hf 1 (by decide)
 obtain ⟨u, eu, u0, u1⟩ := mix7 h (3 + 2 * (k : Int)) (by omega) (by omega)
 obtain ⟨v, ev, v0, v1⟩ := mix7 h (4 + 2 * (k : Int)) (by omega) (by omega)
 obtain ⟨r, er, nr, br⟩ := zoM n0 b0 b1 ⟨u0, u1⟩ ⟨v0, v1⟩
 obtain ⟨qs, e1, a1, a2, a3, a4⟩ := zrR (r := f k) (x0 := some (.int c)) (x1 := some (.int h)) (x2 := some (.int n)) (x3 := some (.int way)) (x4 := some (.int off)) (x5 := some (.lst ((List.range 12).map fun k => ptD (f k)))) (x7 := some (.int (k : Int))) hp nd hl nk (BP.mono (n := 24) bk (by decide))
 obtain ⟨qt, e2, c1, c2, c3, c4⟩ := zrR (r := r) (x0 := some (.int c)) (x1 := some (.int h)) (x2 := some (.int n)) (x3 := some (.int way)) (x4 := some (.int off)) (x5 := some (.lst ((List.range 12).map fun k => ptD (f k)))) (x7 := some (.int (k : Int))) hp nd hl nr br
 unfold zaQ; kd_p
 rw [at_ k hk]; kd_p
 unfold zcO; kd_p
 have m2 : zji 2 = true := by decide
 have mk : zji (k : Int) = true := zal (n := 4) (B.of (k := 12) (by omega)) (by decide)
 have mo : zji off = true := zal (n := 4) (B.of (k := 12) (by omega)) (by decide)
 rcases hw with rfl | rfl | rfl | rfl
 ·kd_p
  rw [zas off 0 mo (by decide)]; kd_p
  by_cases hq : (k : Int) = off * 0
  ·rw [decide_eq_true hq]
   kd_p
   exact ⟨qs, _, e1, a1, a2, a3, a4⟩
  ·rw [decide_eq_false hq]
   kd_p
   rw [at0, at1, zas 2 (k : Int) m2 mk]; kd_p
   rw [eu, ev]; kd_p
   rw [za1 u 7 (by decide), za1 v 7 (by decide)]; kd_p
   rw [er]; kd_p
   exact ⟨qt, _, e2, c1, c2, c3, c4⟩
 ·kd_p
  rw [zas off 1 mo (by decide)]; kd_p
  by_cases hq : (k : Int) = off * 1
  ·rw [decide_eq_true hq]
   kd_p
   exact ⟨qs, _, e1, a1, a2, a3, a4⟩
  ·rw [decide_eq_false hq]
   kd_p
   rw [at0, at1, zas 2 (k : Int) m2 mk]; kd_p
   rw [eu, ev]; kd_p
   rw [za1 u 7 (by decide), za1 v 7 (by decide)]; kd_p
   rw [er]; kd_p
   exact ⟨qt, _, e2, c1, c2, c3, c4⟩
 ·kd_p
  rw [za1 (k : Int) 2 (by decide)]; kd_p
  by_cases hq : (k : Int) % 2 = 0
  ·rw [decide_eq_true hq]
   kd_p
   rw [at0, at1, zas 2 (k : Int) m2 mk]; kd_p
   rw [eu, ev]; kd_p
   rw [za1 u 7 (by decide), za1 v 7 (by decide)]; kd_p
   rw [er]; kd_p
   exact ⟨qt, _, e2, c1, c2, c3, c4⟩
  ·rw [decide_eq_false hq]
   kd_p
   exact ⟨qs, _, e1, a1, a2, a3, a4⟩
 ·kd_p
  exact ⟨qs, _, e1, a1, a2, a3, a4⟩
theorem zqv (c h : Int) : ∃ ps, zbY [.int c, .int h] = .ok (.lst (ps.map ptD)) /\ Pts 24 ps /\ ps.Nodup /\ 1 <= ps.length /\ ps.length <= 12 := by
 obtain ⟨r0, e0, p0, _⟩ := zbN h 0 (by decide) (by decide)
 obtain ⟨r1, e1, p1, _⟩ := zbN h 1 (by decide) (by decide)
 obtain ⟨r2, e2, p2, _⟩ := zbN h 2 (by decide) (by decide)
 obtain ⟨f, hf⟩ := zqu c
 obtain ⟨n, hn⟩ : ∃ n : Nat, 1 + r0 % 12 = (n : Int) := ⟨(1 + r0 % 12).toNat, by omega⟩
 have n1 : 1 <= n /\ n <= 12 := by omega
 have nn : (0 : Int) < n := by omega
 have off0 := Int.emod_nonneg r2 (show (n : Int) ≠ 0 by omega)
 have off1 := Int.emod_lt_of_pos r2 nn
 have turn : ∀ (k : Nat) (d : D) (U : DSt), (zgj 0 n)[k]? = some d -> (∃ ps a b, U = [some (.int c), some (.int h), some (.int (n : Int)), some (.int (r1 % 4)), some (.int (r2 % n)), some (.lst ((List.range 12).map fun k => ptD (f k))), some (.lst (ps.map ptD)), a, b] /\ Pts 24 ps /\ ps.Nodup /\ (1 <= k -> 1 <= ps.length) /\ ps.length <= k) -> ∃ U', (zaQ (U.set 7 (some d)) = .ok (.nx U') \/ zaQ (U.set 7 (some d)) = .ok (.ct U')) /\ ∃ ps a b, U' = [some (.int c), some (.int h), some (.int (n : Int)), some (.int (r1 % 4)), some (.int (r2 % n)), some (.lst ((List.range 12).map fun k => ptD (f k))), some (.lst (ps.map ptD)), a, b] /\ Pts 24 ps /\ ps.Nodup /\ (1 <= k + 1 -> 1 <= ps.length) /\ ps.length <= k + 1 := by
  rintro k d U hd ⟨ps, a, b, rfl, h1, h2, h3, h4⟩
  have hk : k < n := by
   have := (xah.mp hd).1
   simpa [zgj] using this
  obtain rfl : d = .int (k : Int) := by
   unfold zgj at hd
   rw [xa6, xb7 hk] at hd
   have := Option.some.inj hd
   rw [<- this]; simp
  obtain ⟨qs, y8, e, a1, a2, a3, a4⟩ := zl8 (h := h) (way := r1 % 4) (off := r2 % n) (c := c) (n := n) (x8 := b) hf (show k < 12 by omega) (by omega) ⟨off0, by omega⟩ h1 h2 (by omega)
  exact ⟨_, .inl e, qs, _, _, rfl, a1, a2, fun _ => a3, by omega⟩
 rw [zgt]; unfold zcG; kd_p
 rw [e0]; kd_p
 rw [za1 _ _ (by decide)]; kd_p
 rw [hn]
 unfold zeo; kd_p
 rw [e1]; kd_p
 rw [za1 _ _ (by decide)]; kd_p
 unfold zen; kd_p
 rw [e2]; kd_p
 rw [za1 _ _ nn]; kd_p
 unfold zem; kd_p
 rw [show zin [.int 12] = .ok ((List.range 12).map fun k : Nat => D.int (k : Int)) from rfl, zjE (g := fun k => ptD (f k)) (by simp) (fun a ha => by kd_p; exact (hf a (by have := xaz.mp ha; omega)).1)]; kd_p
 unfold zel; kd_p
 unfold zek; kd_p
 rw [zgQ _ (zcM (by omega) (by omega)), xb6]; kd_p
 obtain ⟨U', e, ps, a, b, rfl, h1, h2, h3, h4⟩ := zk1 (i := 7) (fb := zaQ) (fun k U => ∃ ps a b, U = [some (.int c), some (.int h), some (.int (n : Int)), some (.int (r1 % 4)), some (.int (r2 % n)), some (.lst ((List.range 12).map fun k => ptD (f k))), some (.lst (ps.map ptD)), a, b] /\ Pts 24 ps /\ ps.Nodup /\ (1 <= k -> 1 <= ps.length) /\ ps.length <= k) _ turn [some (.int c), some (.int h), some (.int (n : Int)), some (.int (r1 % 4)), some (.int (r2 % n)), some (.lst ((List.range 12).map fun k => ptD (f k))), some (.lst []), none, none] ⟨[], none, none, rfl, ⟨by simp, by simp⟩, by simp, by omega, by simp⟩
 rw [e]; kd_p
 unfold zej; kd_p
 have ln : (zgj 0 n).length = n := by simp [zgj]
 rw [ln] at h3 h4
 exact ⟨ps, rfl, h1, h2, h3 n1.1, by omega⟩
end LmI
open L2 DL Mir
namespace LmJ
open Mth LmP LmA LmD LmB LmE LmF LmH LmI
def rg (lo m : Nat) : List Nat := (List.range (m - lo)).map (lo + ·)
theorem zaw {lo m k : Nat} : k ∈ rg lo m ↔ lo <= k /\ k < m := by
 unfold rg
 rw [xav]
 constructor
 ·rintro ⟨i, hi, rfl⟩
  have := xaz.mp hi
  omega
 ·rintro ⟨h1, h2⟩
  exact ⟨k - lo, xaz.mpr (by omega), by omega⟩
theorem zeH (lo m : Nat) : zgj (lo : Int) ((m : Int) - (lo : Int)).toNat = (rg lo m).map fun k : Nat => D.int (k : Int) := by
 unfold zgj rg
 rw [xb1, show ((m : Int) - (lo : Int)).toNat = m - lo by omega]
 congr 1
theorem zgg {i : Nat} {fb : DSt -> R Out} (I : DSt -> Prop) (g : Nat -> Option D) : ∀ (ks : List Nat), (∀ k ∈ ks, ∀ U, I U -> (∃ v, g k = some v /\ fb (U.set i (some (.int (k : Int)))) = .ok (.rt v)) \/ (g k = none /\ ∃ U', fb (U.set i (some (.int (k : Int)))) = .ok (.nx U') /\ I U')) -> ∀ U, I U ->
  (∃ v, ks.findSome? g = some v /\ zez [i] zan fb (ks.map fun k : Nat => .int (k : Int)) U = .ok (.rt v)) \/ (ks.findSome? g = none /\ ∃ U', zez [i] zan fb (ks.map fun k : Nat => .int (k : Int)) U = .ok (.nx U') /\ I U')
 | [], _, U, h => .inr ⟨rfl, U, rfl, h⟩
 | k :: ks, hs, U, h => by
  rw [xa0, zbF, xc2]
  rcases hs k (by simp) U h with ⟨v, e1, e2⟩ | ⟨e1, U', e2, h'⟩
  ·rw [e1, e2]; exact .inl ⟨v, rfl, rfl⟩
  ·rw [e1, e2, zdo]
   exact zgg I g ks (fun k hk => hs k (by simp [hk])) U' h'
structure Fl (ps : List P3) : Prop where
 pts : Pts 24 ps
 nd : ps.Nodup
 one : 1 <= ps.length
 most : ps.length <= 12
def pk (ps : List P3) (k : Nat) : P3 := ps.getD k (0, 0, 1)
theorem zcV {ps : List P3} {k : Nat} (h : k < ps.length) : ps[k]? = some (pk ps k) := by simp [pk, h]
theorem zaF {ps : List P3} {k : Nat} (h : k < ps.length) : pk ps k ∈ ps := xbn (zcV h)
theorem Fl.ix {ps : List P3} {k : Nat} (h : k < ps.length) : gIx (.lst (ps.map ptD)) (.int (k : Int)) = .ok (ptD (pk ps k)) := zfG (by rw [xa6, zcV h]; rfl)
theorem Fl.nrm {ps : List P3} (F : Fl ps) {k : Nat} (h : k < ps.length) : Nrm (pk ps k) := F.pts.nrm _ (zaF h)
theorem Fl.bd {ps : List P3} (F : Fl ps) {k : Nat} (h : k < ps.length) : BP 24 (pk ps k) := F.pts.bd _ (zaF h)
theorem Fl.ne {ps : List P3} (F : Fl ps) {i j : Nat} (hi : i < j) (hj : j < ps.length) : pk ps i ≠ pk ps j := fun e => by
 have h1 := zcV (ps := ps) (k := i) (by omega)
 have h2 := zcV hj
 rw [e, <- h2] at h1
 exact absurd ((List.getElem?_inj (by omega) F.nd).mp h1) (by omega)
theorem zll {p q r : P3} (hp : BP 24 p) (hq : BP 24 q) (hr : BP 24 r) (hz : Nz (crs q r)) : za6 [ptD p, ptD (low (crs q r))] = .ok (.bl (decide (za5 p q r = 0))) := by
 rw [zoJ hp ((hq.crs hr).low hz) (by decide) (by decide), decide_eq_decide.mpr (zcZ hz)]; rfl
def zdJ (ps : List P3) (a b c d : Nat) : Bool := !(decide (za5 (pk ps d) (pk ps a) (pk ps b) = 0) || (decide (za5 (pk ps d) (pk ps b) (pk ps c) = 0) || decide (za5 (pk ps d) (pk ps a) (pk ps c) = 0)))
theorem any3 (x y z : Bool) : zwt [.lst [.bl x, .bl y, .bl z]] = .ok (.bl (x || (y || z))) := by cases x <;> cases y <;> cases z <;> rfl
def zgh (ps : List P3) (a b c : Nat) : Option D := (rg (c + 1) ps.length).findSome? fun d => if zdJ ps a b c d then some (.int (d : Int)) else none
theorem zqw {ps : List P3} (F : Fl ps) {a b c : Nat} (hab : a < b) (hbc : b < c) (hc : c < ps.length) : zbX [.lst (ps.map ptD), .int (a : Int), .int (b : Int), .int (c : Int)] = .ok ((zgh ps a b c).getD .non) := by
 have ha : a < ps.length := by omega
 have hb : b < ps.length := by omega
 have z1 := zak (F.nrm ha) (F.nrm hb) (F.ne hab hb)
 have z2 := zak (F.nrm hb) (F.nrm hc) (F.ne hbc hc)
 have z3 := zak (F.nrm ha) (F.nrm hc) (F.ne (by omega) hc)
 have hm := F.most
 rw [zgr]; unfold zcD; kd_p
 rw [Fl.ix ha, Fl.ix hb, Fl.ix hc]; kd_p
 rw [zbO (F.bd ha) (F.bd hb) (by decide) (F.ne hab hb) z1, zbO (F.bd hb) (F.bd hc) (by decide) (F.ne hbc hc) z2, zbO (F.bd ha) (F.bd hc) (by decide) (F.ne (by omega) hc) z3]; kd_p
 unfold zeb; kd_p
 rw [xae, show (c : Int) + 1 = ((c + 1 : Nat) : Int) by omega, zhs _ _ (zcM (by omega) (by omega)) (zcM (by omega) (by omega)), zeH]; kd_p
 have turn : ∀ d ∈ rg (c + 1) ps.length, ∀ U, (∃ x, U = [some (.lst (ps.map ptD)), some (.int (a : Int)), some (.int (b : Int)), some (.int (c : Int)), some (.lst [ptD (low (crs (pk ps a) (pk ps b))), ptD (low (crs (pk ps b) (pk ps c))), ptD (low (crs (pk ps a) (pk ps c)))]), x]) ->
   (∃ v, (if zdJ ps a b c d then some (D.int (d : Int)) else none) = some v /\ za7 (U.set 5 (some (.int (d : Int)))) = .ok (.rt v)) \/ ((if zdJ ps a b c d then some (D.int (d : Int)) else none) = none /\ ∃ U', za7 (U.set 5 (some (.int (d : Int)))) = .ok (.nx U') /\ ∃ x, U' = [some (.lst (ps.map ptD)), some (.int (a : Int)), some (.int (b : Int)), some (.int (c : Int)), some (.lst [ptD (low (crs (pk ps a) (pk ps b))), ptD (low (crs (pk ps b) (pk ps c))), ptD (low (crs (pk ps a) (pk ps c)))]), x]) := by
  rintro d hd U ⟨x, rfl⟩
  obtain ⟨d1, d2⟩ := zaw.mp hd
  have e : za7 [some (.lst (ps.map ptD)), some (.int (a : Int)), some (.int (b : Int)), some (.int (c : Int)), some (.lst [ptD (low (crs (pk ps a) (pk ps b))), ptD (low (crs (pk ps b) (pk ps c))), ptD (low (crs (pk ps a) (pk ps c)))]), some (.int (d : Int))] = bif zdJ ps a b c d then .ok (.rt (.int (d : Int))) else .ok (.nx [some (.lst (ps.map ptD)), some (.int (a : Int)), some (.int (b : Int)), some (.int (c : Int)), some (.lst [ptD (low (crs (pk ps a) (pk ps b))), ptD (low (crs (pk ps b) (pk ps c))), ptD (low (crs (pk ps a) (pk ps c)))]), some (.int (d : Int))]) := by
   unfold za7; kd_p
   rw [lc_3 (x := .bl (decide (za5 (pk ps d) (pk ps a) (pk ps b) = 0))) (y := .bl (decide (za5 (pk ps d) (pk ps b) (pk ps c) = 0))) (z := .bl (decide (za5 (pk ps d) (pk ps a) (pk ps c) = 0))) ?_ ?_ ?_]
   ·kd_p
    rw [any3]; kd_p
    unfold zdJ
    cases decide (za5 (pk ps d) (pk ps a) (pk ps b) = 0) <;> cases decide (za5 (pk ps d) (pk ps b) (pk ps c) = 0) <;> cases decide (za5 (pk ps d) (pk ps a) (pk ps c) = 0) <;> rfl
   ·kd_p
    rw [Fl.ix d2]; kd_p
    exact zll (F.bd d2) (F.bd ha) (F.bd hb) z1
   ·kd_p
    rw [Fl.ix d2]; kd_p
    exact zll (F.bd d2) (F.bd hb) (F.bd hc) z2
   ·kd_p
    rw [Fl.ix d2]; kd_p
    exact zll (F.bd d2) (F.bd ha) (F.bd hc) z3
  rw [show List.set _ 5 _ = [some (.lst (ps.map ptD)), some (.int (a : Int)), some (.int (b : Int)), some (.int (c : Int)), some (.lst [ptD (low (crs (pk ps a) (pk ps b))), ptD (low (crs (pk ps b) (pk ps c))), ptD (low (crs (pk ps a) (pk ps c)))]), some (.int (d : Int))] from rfl, e]
  cases zdJ ps a b c d with
  | true => exact .inl ⟨_, rfl, rfl⟩
  | false => exact .inr ⟨rfl, _, rfl, _, rfl⟩
 unfold zgh
 rcases zgg _ _ _ turn _ ⟨none, rfl⟩ with ⟨v, e1, e2⟩ | ⟨e1, U', e2, x, rfl⟩
 ·rw [e1, e2]; kd_p
  rfl
 ·rw [e1, e2]; kd_p
  unfold zea; kd_p
  rfl
def ztm (ps : List P3) (a b c d : Nat) : Bool := !decide (za5 (pk ps c) (pk ps a) (pk ps b) = 0) && zdJ ps a b c d
def zo8 (a b c d : Nat) : D := .tup [.int (a : Int), .int (b : Int), .int (c : Int), .int (d : Int)]
def zjb (ps : List P3) (a b c : Nat) : Option D := (rg (c + 1) ps.length).findSome? fun d => if ztm ps a b c d then some (zo8 a b c d) else none
def ztn (ps : List P3) (a b : Nat) : Option D := (rg (b + 1) ps.length).findSome? fun c => zjb ps a b c
def zto (ps : List P3) (a : Nat) : Option D := (rg (a + 1) ps.length).findSome? fun b => ztn ps a b
def zbo (ps : List P3) : Option D := (rg 0 ps.length).findSome? fun a => zto ps a
theorem zqx {ps : List P3} {a b c : Nat} (h : za5 (pk ps c) (pk ps a) (pk ps b) = 0) : zjb ps a b c = none := by
 unfold zjb
 rw [xbw]
 intro d _
 unfold ztm
 rw [decide_eq_true h]; rfl
theorem zqy {ps : List P3} {a b c : Nat} (h : za5 (pk ps c) (pk ps a) (pk ps b) ≠ 0) : (zgh ps a b c = none /\ zjb ps a b c = none) \/ ∃ d : Nat, zgh ps a b c = some (.int (d : Int)) /\ zjb ps a b c = some (zo8 a b c d) := by
 unfold zgh zjb
 generalize rg (c + 1) ps.length = ks
 induction ks with
 | nil => exact .inl ⟨rfl, rfl⟩
 | cons k ks ih =>
  rw [xc2, xc2]
  have e : ztm ps a b c k = zdJ ps a b c k := by unfold ztm; rw [decide_eq_false h]; rfl
  rw [e]
  cases zdJ ps a b c k with
  | true => exact .inr ⟨k, rfl, rfl⟩
  | false => exact ih
theorem zoN {ps : List P3} (F : Fl ps) : zbl [.lst (ps.map ptD)] = .ok ((zbo ps).getD .non) := by
 have hm := F.most
 have la := zl7 F.pts (by decide) F.nd F.one F.most
 have t3 : ∀ a b : Nat, a < b -> b < ps.length -> ∀ c ∈ rg (b + 1) ps.length, ∀ U, (∃ x y, U = [some (.lst (ps.map ptD)), some (.int (a : Int)), some (.int (b : Int)), some (ptD (low (crs (pk ps a) (pk ps b)))), x, y]) ->
   (∃ v, zjb ps a b c = some v /\ za2 (U.set 4 (some (.int (c : Int)))) = .ok (.rt v)) \/ (zjb ps a b c = none /\ ∃ U', za2 (U.set 4 (some (.int (c : Int)))) = .ok (.nx U') /\ ∃ x y, U' = [some (.lst (ps.map ptD)), some (.int (a : Int)), some (.int (b : Int)), some (ptD (low (crs (pk ps a) (pk ps b)))), x, y]) := by
  rintro a b hab hb c hc U ⟨x, y, rfl⟩
  obtain ⟨c1, c2⟩ := zaw.mp hc
  have ha : a < ps.length := by omega
  have z1 := zak (F.nrm ha) (F.nrm hb) (F.ne hab hb)
  rw [show List.set _ 4 _ = [some (.lst (ps.map ptD)), some (.int (a : Int)), some (.int (b : Int)), some (ptD (low (crs (pk ps a) (pk ps b)))), some (.int (c : Int)), y] from rfl]
  unfold za2; kd_p
  rw [Fl.ix c2]; kd_p
  rw [zll (F.bd c2) (F.bd ha) (F.bd hb) z1]; kd_p
  by_cases hz : za5 (pk ps c) (pk ps a) (pk ps b) = 0
  ·rw [decide_eq_true hz]; kd_p
   exact .inr ⟨zqx hz, _, rfl, _, _, rfl⟩
  ·rw [decide_eq_false hz]; kd_p
   unfold zb9; kd_p
   rw [zqw F hab (by omega) c2]
   rcases zqy hz with ⟨e1, e2⟩ | ⟨d, e1, e2⟩
   ·rw [e1, e2]
    show (_ \/ _)
    rw [show (none : Option D).getD .non = .non from rfl]; kd_p
    unfold za4; kd_p
    exact .inr ⟨trivial, _, rfl, _, _, rfl⟩
   ·rw [e1, e2, show (some (D.int (d : Int))).getD .non = .int (d : Int) from rfl]; kd_p
    unfold za4; kd_p
    exact .inl ⟨_, rfl, rfl⟩
 have t2 : ∀ a : Nat, a < ps.length -> ∀ b ∈ rg (a + 1) ps.length, ∀ U, (∃ x y z w, U = [some (.lst (ps.map ptD)), some (.int (a : Int)), x, y, z, w]) ->
   (∃ v, ztn ps a b = some v /\ zbp (U.set 2 (some (.int (b : Int)))) = .ok (.rt v)) \/ (ztn ps a b = none /\ ∃ U', zbp (U.set 2 (some (.int (b : Int)))) = .ok (.nx U') /\ ∃ x y z w, U' = [some (.lst (ps.map ptD)), some (.int (a : Int)), x, y, z, w]) := by
  rintro a ha b hb U ⟨x, y, z, w, rfl⟩
  obtain ⟨b1, b2⟩ := zaw.mp hb
  have z1 := zak (F.nrm ha) (F.nrm b2) (F.ne (by omega) b2)
  rw [show List.set _ 2 _ = [some (.lst (ps.map ptD)), some (.int (a : Int)), some (.int (b : Int)), y, z, w] from rfl]
  unfold zbp; kd_p
  rw [Fl.ix ha, Fl.ix b2]; kd_p
  rw [zbO (F.bd ha) (F.bd b2) (by decide) (F.ne (by omega) b2) z1]; kd_p
  unfold zcN; kd_p
  rw [xae, show (b : Int) + 1 = ((b + 1 : Nat) : Int) by omega, zhs _ _ (zcM (by omega) (by omega)) (zcM (by omega) (by omega)), zeH]; kd_p
  rcases zgg _ _ _ (t3 a b (by omega) b2) _ ⟨z, w, rfl⟩ with ⟨v, e1, e2⟩ | ⟨e1, U', e2, x', y', rfl⟩
  ·exact .inl ⟨v, e1, e2⟩
  ·exact .inr ⟨e1, _, e2, _, _, _, _, rfl⟩
 have t1 : ∀ a ∈ rg 0 ps.length, ∀ U, (∃ u x y z w, U = [some (.lst (ps.map ptD)), u, x, y, z, w]) ->
   (∃ v, zto ps a = some v /\ zbI (U.set 1 (some (.int (a : Int)))) = .ok (.rt v)) \/ (zto ps a = none /\ ∃ U', zbI (U.set 1 (some (.int (a : Int)))) = .ok (.nx U') /\ ∃ u x y z w, U' = [some (.lst (ps.map ptD)), u, x, y, z, w]) := by
  rintro a ha U ⟨u, x, y, z, w, rfl⟩
  obtain ⟨_, a2⟩ := zaw.mp ha
  rw [show List.set _ 1 _ = [some (.lst (ps.map ptD)), some (.int (a : Int)), x, y, z, w] from rfl]
  unfold zbI; kd_p
  rw [xae, show (a : Int) + 1 = ((a + 1 : Nat) : Int) by omega, zhs _ _ (zcM (by omega) (by omega)) (zcM (by omega) (by omega)), zeH]; kd_p
  rcases zgg _ _ _ (t2 a a2) _ ⟨x, y, z, w, rfl⟩ with ⟨v, e1, e2⟩ | ⟨e1, U', e2, x', y', z', w', rfl⟩
  ·exact .inl ⟨v, e1, e2⟩
  ·exact .inr ⟨e1, _, e2, _, _, _, _, _, rfl⟩
 rw [zhH]; unfold zdt; kd_p
 rw [la]; kd_p
 unfold zeT; kd_p
 rw [xae, zgQ _ (zcM (by omega) (by omega)), show zgj 0 (ps.length : Int).toNat = (rg 0 ps.length).map fun k : Nat => D.int (k : Int) from by have := zeH 0 ps.length; simpa using this]; kd_p
 unfold zbo
 rcases zgg _ _ _ t1 _ ⟨none, none, none, none, none, rfl⟩ with ⟨v, e1, e2⟩ | ⟨e1, U', e2, u, x, y, z, w, rfl⟩
 ·rw [e1, e2]; kd_p
  rfl
 ·rw [e1, e2]; kd_p
  unfold zeS; kd_p
  rfl
end LmJ
open L2 DL Mir
open L2 DL Mir
namespace Lk44
open Mth LmP LmA LmD LmB LmE LmF LmH
theorem lc_4 {a b c d x y z u : D} {e : DSt -> R D} {U : DSt} (ha : e (some a :: U) = .ok x) (hb : e (some b :: U) = .ok y) (hc : e (some c :: U) = .ok z) (hd : e (some d :: U) = .ok u) : lcK 1 [0] (.ok [a, b, c, d]) zan zby e U = .ok [x, y, z, u] := by
 have t : lcD [0] zan zby e (List.replicate 1 none ++ U) [a, b, c, d] = (e (some a :: U)).bind (fun y1 => ((e (some b :: U)).bind fun y2 => ((e (some c :: U)).bind fun y3 => ((e (some d :: U)).bind fun y4 => (R.ok ([] : List D)).bind fun ys => .ok (y4 :: ys)).bind fun ys => .ok (y3 :: ys)).bind fun ys => .ok (y2 :: ys)).bind fun ys => .ok (y1 :: ys)) := rfl
 show (bif most 4 then (lcD [0] zan zby e (List.replicate 1 none ++ U) [a, b, c, d]).noerr else .bad) = _
 rw [t, ha, hb, hc, hd]; rfl
theorem law_det_p {n : Nat} {x y z : P3} (hx : BP n x) (hy : BP n y) (hz : BP n z) (hn : n <= 3000) : zde [ptD x, ptD y, ptD z] = .ok (.int (za5 x y z)) := by
 have bc := hx.crs hy
 rw [zi5]; unfold zei zgb; kd_p
 rw [zge hx hy (by omega) (by omega)]; kd_p
 rw [zas _ _ (zal bc.x (by omega)) (zal hz.x (by omega)), zas _ _ (zal bc.y (by omega)) (zal hz.y (by omega)), zas _ _ (zal bc.z (by omega)) (zal hz.z (by omega))]; kd_p
 rw [show (crs x y).1 * z.1 + (crs x y).2.1 * z.2.1 + (crs x y).2.2 * z.2.2 = za5 x y z from by unfold za5 dot crs; grind]
def cell (ns : List Int) (k : Nat) : Int := ns.getD k 0
theorem cell_ok (ns : List Int) (k : Nat) : zaK [.lst (ns.map .int), .int (k : Int)] = .ok (.int (cell ns k)) := by
 rw [ze7]; unfold zbJ zdb; kd_p
 rw [xae]
 by_cases h : k < ns.length
 ·rw [decide_eq_true (by omega)]; kd_p
  rw [zfG (d := .int ns[k]) (by simp [h])]; kd_p
  simp [cell, h]
 ·rw [decide_eq_false (by omega)]; kd_p
  simp [cell, h]
end Lk44
open L2 DL Mir
namespace LmK
open Mth LmP LmA LmD LmB LmE LmF LmH LmI LmJ
theorem zoO {i : Nat} {fb : DSt -> R Out} (S : List D -> DSt -> Prop) (f : Nat -> List D) : ∀ (ks : List Nat), (∀ k ∈ ks, ∀ xs U, S xs U -> xs.length + (f k).length <= 1000000 -> ∃ U', fb (U.set i (some (.int (k : Int)))) = .ok (.nx U') /\ S (xs ++ f k) U') -> ∀ xs U, S xs U -> xs.length + (ks.flatMap f).length <= 1000000 ->
  ∃ U', zez [i] zan fb (ks.map fun k : Nat => .int (k : Int)) U = .ok (.nx U') /\ S (xs ++ ks.flatMap f) U'
 | [], _, xs, U, h, _ => ⟨U, rfl, by simpa using h⟩
 | k :: ks, hs, xs, U, h, hl => by
  rw [xcd, xbc] at hl
  obtain ⟨U1, e1, h1⟩ := hs k (by simp) xs U h (by omega)
  obtain ⟨U2, e2, h2⟩ := zoO S f ks (fun k hk => hs k (by simp [hk])) _ U1 h1 (by rw [xbc]; omega)
  refine ⟨U2, ?_, by rw [xcd, <- List.append_assoc]; exact h2⟩
  rw [xa0, zbF, e1, zdo, e2]
theorem zeI {α : Type} {f : Nat -> List α} {B : Nat} : ∀ (ks : List Nat), (∀ k ∈ ks, (f k).length <= B) -> (ks.flatMap f).length <= ks.length * B
 | [], _ => by simp
 | k :: ks, h => by
  rw [xcd, xbc, xam, Nat.succ_mul]
  have := zeI ks fun k hk => h k (by simp [hk])
  have := h k (by simp)
  omega
theorem zes (lo m : Nat) : (rg lo m).length = m - lo := by simp [rg]
theorem zrS (ps : List P3) (a b c d : Nat) : ztm ps a b c d = (!(decide (za5 (pk ps b) (pk ps c) (pk ps d) = 0)) && (!(decide (za5 (pk ps a) (pk ps c) (pk ps d) = 0)) && (!(decide (za5 (pk ps a) (pk ps b) (pk ps d) = 0)) && !(decide (za5 (pk ps a) (pk ps b) (pk ps c) = 0))))) := by
 have rot : ∀ x y z : P3, za5 z x y = za5 x y z := fun x y z => by unfold za5 dot crs; grind
 unfold ztm zdJ
 rw [rot (pk ps a) (pk ps b) (pk ps c), rot (pk ps a) (pk ps b) (pk ps d), rot (pk ps b) (pk ps c) (pk ps d), rot (pk ps a) (pk ps c) (pk ps d)]
 cases decide (za5 (pk ps b) (pk ps c) (pk ps d) = 0) <;> cases decide (za5 (pk ps a) (pk ps c) (pk ps d) = 0) <;> cases decide (za5 (pk ps a) (pk ps b) (pk ps d) = 0) <;> cases decide (za5 (pk ps a) (pk ps b) (pk ps c) = 0) <;> rfl
end LmK
open L2 DL Mir
namespace Lk12
open Mth LmP LmA LmD LmB LmE LmF LmH LmI LmJ LmK
theorem dat_pts (ps : List P3) : zcy 9 (.lst (ps.map ptD)) = true := by
 show (ps.map ptD).all (zcy 8) = true
 rw [xay]
 intro d hd
 obtain ⟨p, _, rfl⟩ := xav.mp hd
 rfl
theorem find0_tup {ps : List P3} {v : D} (h : zbo ps = some v) : ∃ a b c d : Nat, v = zo8 a b c d := by
 obtain ⟨a, _, h⟩ := xa5 h
 obtain ⟨b, _, h⟩ := xa5 h
 obtain ⟨c, _, h⟩ := xa5 h
 obtain ⟨d, _, h⟩ := xa5 h
 split at h
 ·exact ⟨a, b, c, d, (Option.some.inj h).symm⟩
 ·cases h
end Lk12
open L2 DL Mir
namespace LmL
open Mth LmP LmA LmD LmB LmE LmF LmH LmI LmJ LmK
theorem eSl_to (fe f : DSt -> R D) (U : DSt) (ds : List D) (n : Nat) (h1 : fe U = .ok (.lst ds)) (h2 : f U = .ok (.int (n : Int))) : eSl fe zbT (zbU f) U = .ok (.lst (ds.take n)) := Lk42.eSl_to fe f U ds n h1 h2
theorem eSl_from (fe f : DSt -> R D) (U : DSt) (ds : List D) (n : Nat) (h1 : fe U = .ok (.lst ds)) (h2 : f U = .ok (.int (n : Int))) : eSl fe (zbU f) zbT U = .ok (.lst (ds.drop n)) := by
 unfold eSl zbT zbU
 rw [h1, h2]
 show R.ok (D.lst (zo5 ds (some (n : Int)) none)) = _
 unfold zo5
 rw [HT.sIx_none, HT.sIx_nat]
 congr 2
 by_cases h : n <= ds.length
 ·rw [Nat.min_eq_left h, List.take_of_length_le (by rw [xcs]; omega)]
 ·rw [Nat.min_eq_right (by omega), List.drop_of_length_le (by omega), List.drop_of_length_le (by omega)]; simp
theorem zoP {ps : List P3} {k i j : Nat} {U : DSt} (hm : ps.length <= 12) (h1 : zac i U = .ok (.lst (ps.map ptD))) (h2 : zac j U = .ok (.int (k : Int))) :
  eOp zb2 (eSl (zac i) zbT (zbU (zac j))) (eSl (zac i) (zbU (eOp zb2 (zac j) (eC (.int 1)))) zbT) U = .ok (.lst ((ps.eraseIdx k).map ptD)) := by
 rw [zeA, eSl_to _ _ _ _ k h1 h2, eSl_from _ _ _ _ (k + 1) h1 (by rw [zeA, h2]; rfl), ziw, Lk42.gAdd_ll (by rw [xbj, xcs, xae]; omega), <- List.map_take, <- List.map_drop, <- xcn, xcl]
theorem zlm {α : Type} {f : α -> D} {i : Nat} {fb : DSt -> R Out} (I : DSt -> Prop) (g : α -> Option D) : ∀ (ks : List α), (∀ k ∈ ks, ∀ U, I U -> (∃ v, g k = some v /\ fb (U.set i (some (f k))) = .ok (.rt v)) \/ (g k = none /\ ∃ U', fb (U.set i (some (f k))) = .ok (.nx U') /\ I U')) -> ∀ U, I U ->
  (∃ v, ks.findSome? g = some v /\ zez [i] zan fb (ks.map f) U = .ok (.rt v)) \/ (ks.findSome? g = none /\ ∃ U', zez [i] zan fb (ks.map f) U = .ok (.nx U') /\ I U')
 | [], _, U, h => .inr ⟨rfl, U, rfl, h⟩
 | k :: ks, hs, U, h => by
  rw [xa0, zbF, xc2]
  rcases hs k (by simp) U h with ⟨v, e1, e2⟩ | ⟨e1, U', e2, h'⟩
  ·rw [e1, e2]; exact .inl ⟨v, rfl, rfl⟩
  ·rw [e1, e2, zdo]
   exact zlm I g ks (fun k hk => hs k (by simp [hk])) U' h'
structure Fs (ps : List P3) : Prop where
 pts : Pts 24 ps
 nd : ps.Nodup
 most : ps.length <= 12
theorem Fs.sub {ps qs : List P3} (F : Fs ps) (h : qs.Sublist ps) : Fs qs :=
 ⟨⟨fun p hp => F.pts.nrm p (h.subset hp), fun p hp => F.pts.bd p (h.subset hp)⟩, h.nodup F.nd, xa4 h.length_le F.most⟩
theorem Fs.of {ps : List P3} (F : Fl ps) : Fs ps := ⟨F.pts, F.nd, F.most⟩
theorem Fs.fl {ps : List P3} (F : Fs ps) (h : 1 <= ps.length) : Fl ps := ⟨F.pts, F.nd, h, F.most⟩
open Classical in
theorem zln {ps : List P3} (F : Fs ps) : zaY [.lst (ps.map ptD)] = .ok (.bl (decide (Col ps))) := by
 obtain ⟨b, e, h⟩ := zoK F.pts (by omega) (by have := F.most; omega)
 rw [e, show b = decide (Col ps) from by rw [xcm, h, decide_eq_true_iff]]
open Classical in
theorem zjc {ps : List P3} (F : Fs ps) : zbb [.lst (ps.map ptD)] = .ok (.bl (decide (Col ps))) := by
 rw [zhK]; unfold zdw; kd_p
 rw [eSl_from _ _ _ (ps.map ptD) 2 rfl rfl, <- List.map_drop]; kd_p
 match ps, F with
 | [], _ =>
  rw [decide_eq_true (Col.same (p0 := (0, 0, 0)) (by simp))]; rfl
 | [p], _ =>
  rw [decide_eq_true (Col.same (p0 := p) (by simp))]; rfl
 | p0 :: p1 :: zaD, F =>
  have m0 : p0 ∈ p0 :: p1 :: zaD := by simp
  have m1 : p1 ∈ p0 :: p1 :: zaD := by simp
  have ne : p0 ≠ p1 := fun e => by have := F.nd; rw [e] at this; simp at this
  have hL := zak (F.pts.nrm _ m0) (F.pts.nrm _ m1) ne
  have turn : ∀ p ∈ zaD, ∀ U, (∃ x, U = [some (.lst ((p0 :: p1 :: zaD).map ptD)), x]) -> (∃ v, (if za5 p0 p1 p = 0 then none else some (D.bl false)) = some v /\ zb0 (U.set 1 (some (ptD p))) = .ok (.rt v)) \/ ((if za5 p0 p1 p = 0 then none else some (D.bl false)) = none /\ ∃ U', zb0 (U.set 1 (some (ptD p))) = .ok (.nx U') /\ ∃ x, U' = [some (.lst ((p0 :: p1 :: zaD).map ptD)), x]) := by
   rintro p hp U ⟨x, rfl⟩
   have mp : p ∈ p0 :: p1 :: zaD := by simp [hp]
   rw [show List.set _ 1 _ = [some (.lst ((p0 :: p1 :: zaD).map ptD)), some (ptD p)] from rfl]
   unfold zb0; kd_p
   rw [xa0, xa0, zqr, show gIx (.lst (ptD p0 :: ptD p1 :: zaD.map ptD)) (.int 1) = .ok (ptD p1) from zfG (j := 1) rfl]; kd_p
   rw [Lk44.law_det_p (F.pts.bd _ m0) (F.pts.bd _ m1) (F.pts.bd _ mp) (by decide)]; kd_p
   by_cases hz : za5 p0 p1 p = 0
   ·rw [decide_eq_true hz, if_pos hz]; kd_p
    exact .inr ⟨trivial, _, rfl, _, rfl⟩
   ·rw [decide_eq_false hz, if_neg hz]; kd_p
    exact .inl ⟨_, rfl, rfl⟩
  rw [show (p0 :: p1 :: zaD).drop 2 = zaD from rfl]
  rcases zlm (i := 1) (fb := zb0) _ _ zaD turn [some (.lst ((p0 :: p1 :: zaD).map ptD)), none] ⟨none, rfl⟩ with ⟨v, e1, e2⟩ | ⟨e1, U', e2, x, rfl⟩
  ·rw [e2]; kd_p
   obtain ⟨p, hp, h⟩ := xa5 e1
   by_cases hz : za5 p0 p1 p = 0
   ·rw [if_pos hz] at h; cases h
   ·rw [if_neg hz] at h; cases h
    rw [decide_eq_false (fun c => hz (c p0 m0 p1 m1 p (by simp [hp])))]
  ·rw [e2]; kd_p
   unfold ze1; kd_p
   rw [decide_eq_true ?_]
   rw [Col.iff m0 m1 hL]
   intro p hp
   rcases xak.mp hp with rfl | hp
   ·exact C3.aab _ _
   ·rcases xak.mp hp with rfl | hp
    ·exact C3.aba _ _
    ·have := xbw.mp e1 p hp
     by_cases hz : za5 p0 p1 p = 0
     ·exact C3.rot hz
     ·rw [if_neg hz] at this; cases this
theorem zoQ {ps : List P3} {p : P3} {m : Nat} (h : p ∈ ps.eraseIdx m) : ∃ i, i < ps.length /\ i ≠ m /\ pk ps i = p := by
 obtain ⟨i, hi, e⟩ := xco.mp h
 have hl := (xah.mp e).1
 refine ⟨i, hl, hi, ?_⟩
 have := zcV hl
 rw [e] at this
 exact (Option.some.inj this).symm
theorem zoR {ps : List P3} (F : Fl ps) (h : zbo ps = none) (hc : ¬ Col ps) : ∃ k, k < ps.length /\ Col (ps.eraseIdx k) := by
 have q : ∀ a b c d, a < b -> b < c -> c < d -> d < ps.length -> C3 (pk ps a) (pk ps b) (pk ps c) \/ C3 (pk ps a) (pk ps b) (pk ps d) \/ C3 (pk ps a) (pk ps c) (pk ps d) \/ C3 (pk ps b) (pk ps c) (pk ps d) := by
  intro a b c d h1 h2 h3 h4
  have e1 := xbw.mp h a (zaw.mpr ⟨by omega, by omega⟩)
  have e2 := xbw.mp e1 b (zaw.mpr ⟨by omega, by omega⟩)
  have e3 := xbw.mp e2 c (zaw.mpr ⟨by omega, by omega⟩)
  have e4 := xbw.mp e3 d (zaw.mpr ⟨by omega, by omega⟩)
  rw [zrS] at e4
  apply xar
  intro z
  have z1 : ¬ za5 (pk ps a) (pk ps b) (pk ps c) = 0 := fun y => z (.inl y)
  have z2 : ¬ za5 (pk ps a) (pk ps b) (pk ps d) = 0 := fun y => z (.inr (.inl y))
  have z3 : ¬ za5 (pk ps a) (pk ps c) (pk ps d) = 0 := fun y => z (.inr (.inr (.inl y)))
  have z4 : ¬ za5 (pk ps b) (pk ps c) (pk ps d) = 0 := fun y => z (.inr (.inr (.inr y)))
  rw [decide_eq_false z1, decide_eq_false z2, decide_eq_false z3, decide_eq_false z4] at e4
  cases e4
 have ne : ∀ i j, i < ps.length -> j < ps.length -> i ≠ j -> pk ps i ≠ pk ps j := fun i j hi hj hij => by
  by_cases h : i < j
  ·exact F.ne h hj
  ·exact fun e => F.ne (show j < i by omega) hi e.symm
 rcases zpI (f := pk ps) (n := ps.length) (fun i hi => F.nrm hi) ne q with all | ⟨m, hm, all⟩
 ·refine (hc fun p hp q hq r hr => ?_).elim
  obtain ⟨i, hi, e⟩ := xbe hp
  obtain ⟨j, hj, e'⟩ := xbe hq
  obtain ⟨k, hk, e''⟩ := xbe hr
  have u := all i j k hi hj hk
  rw [show pk ps i = p by simp [pk, hi, e], show pk ps j = q by simp [pk, hj, e'], show pk ps k = r by simp [pk, hk, e'']] at u
  exact u
 ·refine ⟨m, hm, fun p hp q hq r hr => ?_⟩
  obtain ⟨i, hi, ni, rfl⟩ := zoQ hp
  obtain ⟨j, hj, nj, rfl⟩ := zoQ hq
  obtain ⟨k, hk, nk, rfl⟩ := zoQ hr
  exact all i j k hi hj hk ni nj nk
open Classical in
noncomputable def zoS (ps : List P3) : List Nat := (rg 0 ps.length).filter fun k => decide (Col (ps.eraseIdx k))
open Classical in
noncomputable def kD (ps : List P3) : D := match zbo ps with
 | some v => .tup [.str "frame", v]
 | none => if Col ps then .tup [.str "line"] else .tup [.str "fan", .int ((zoS ps).headD 0 : Nat)]
theorem zxN (n : Nat) : (rg 0 n).Pairwise (· < ·) := by
 unfold rg
 rw [List.pairwise_map]
 exact (List.pairwise_lt_range (n := n - 0)).imp fun h => by omega
theorem zl9 {ps : List P3} {k : Nat} {r : List Nat} (h : zoS ps = k :: r) : zbs (k : Int) (r.map fun j : Nat => (j : Int)) = (k : Int) := by
 classical
 have hp : (zoS ps).Pairwise (· < ·) := (zxN ps.length).filter _
 rw [h] at hp
 refine ziM (by simp) fun b hb => ?_
 rcases xak.mp hb with rfl | hb
 ·exact Int.le_refl _
 ·obtain ⟨j, hj, rfl⟩ := xav.mp hb
  have := (xbt.mp hp).1 j hj
  omega
open Classical in
theorem zwb {ps : List P3} (F : Fl ps) {k : Nat} {r : List Nat} (h : zoS ps = k :: r) : zda [.lst (ps.map ptD)] = .ok (.int (k : Int)) := by
 have hm := F.most
 rw [zi1]; unfold zec; kd_p
 rw [xae, zgQ _ (zcM (by omega) (by omega)), show zgj 0 (ps.length : Int).toNat = (rg 0 ps.length).map fun k : Nat => D.int (k : Int) from by have := zeH 0 ps.length; simpa using this]
 rw [zcl (p := fun d => match d with | .int i => decide (Col (ps.eraseIdx i.toNat)) | _ => false) (g := id) (by rw [xae, zes]; omega) (fun d hd => ?_) (fun d hd _ => ?_)]
 ·rw [List.map_id, List.filter_map]
  rw [show (rg 0 ps.length).filter ((fun d : D => match d with | .int i => decide (Col (ps.eraseIdx i.toNat)) | _ => false) ∘ fun k : Nat => D.int (k : Int)) = zoS ps from List.filter_congr fun k _ => rfl, h]
  rw [show (k :: r).map (fun k : Nat => D.int (k : Int)) = ((k : Int) :: r.map fun j : Nat => (j : Int)).map D.int by simp [xb1]]
  kd_p
  rw [zp6, zl9 h]; kd_p
 ·obtain ⟨j, hj, rfl⟩ := xav.mp hd
  have F' := (Fs.of F).sub (xdr (k := j) ..)
  rw [zdW, zdU, show zaa (eOp zb2 (eSl (zac 1) zbT (zbU (zac 0))) (eSl (zac 1) (zbU (eOp zb2 (zac 0) (eC (.int 1)))) zbT)) zaj [some (.int (j : Int)), some (.lst (ps.map ptD))] = .ok [.lst ((ps.eraseIdx j).map ptD)] from by rw [zdV, zoP hm rfl rfl]; rfl]
  rw [zff, zln F']
  rfl
 ·obtain ⟨j, hj, rfl⟩ := xav.mp hd
  rfl
open Classical in
theorem zoT {ps : List P3} (F : Fl ps) : zcn [.lst (ps.map ptD)] = .ok (kD ps) := by
 rw [zi2]; unfold zed; kd_p
 rw [zoN F]; kd_p
 unfold zf3 kD
 cases e : zbo ps with
 | some v =>
  obtain ⟨a, b, c, d, rfl⟩ := Lk12.find0_tup e
  rw [show (some (zo8 a b c d)).getD .non = zo8 a b c d from rfl]; unfold zo8; kd_p
 | none =>
  rw [show (none : Option D).getD .non = .non from rfl]; kd_p
  unfold zf2; kd_p
  rw [zln (Fs.of F)]; kd_p
  by_cases hc : Col ps
  ·rw [decide_eq_true hc, if_pos hc]; kd_p
  ·rw [decide_eq_false hc, if_neg hc]; kd_p
   unfold zf1; kd_p
   obtain ⟨m, hm, cm⟩ := zoR F e hc
   have mem : m ∈ zoS ps := xbm.mpr ⟨zaw.mpr ⟨by omega, hm⟩, decide_eq_true cm⟩
   cases ef : zoS ps with
   | nil => rw [ef] at mem; cases mem
   | cons k r =>
    rw [zwb F ef]; kd_p
    rfl
end LmL
open L2 DL Mir
namespace LmR
open Mth LmP LmA LmD LmB LmE LmF LmH LmI LmJ LmK LmL
theorem zjH {ps : List P3} (h : zbo ps ≠ none) : ∃ a b c d : Nat, zbo ps = some (zo8 a b c d) /\ a < ps.length /\ b < ps.length /\ c < ps.length /\ d < ps.length /\ G4 (pk ps a) (pk ps b) (pk ps c) (pk ps d) := by
 obtain ⟨v, hv⟩ := Option.ne_none_iff_exists'.mp h
 have hv0 := hv
 obtain ⟨a, ha, h⟩ := xa5 hv
 obtain ⟨b, hb, h⟩ := xa5 h
 obtain ⟨c, hc, h⟩ := xa5 h
 obtain ⟨d, hd, h⟩ := xa5 h
 by_cases hg : ztm ps a b c d = true
 ·rw [if_pos hg] at h
  refine ⟨a, b, c, d, by rw [hv0, <- h], (zaw.mp ha).2, (zaw.mp hb).2, (zaw.mp hc).2, (zaw.mp hd).2, ?_⟩
  rw [zrS] at hg
  simp only [xax, Bool.not_eq_true', decide_eq_false_iff_not] at hg
  obtain ⟨h1, h2, h3, h4⟩ := hg
  exact ⟨fun e => h1 (C3.rot (C3.rot e)), fun e => h2 (C3.s23 e), fun e => h3 e, fun e => h4 e⟩
 ·rw [if_neg hg] at h; cases h
end LmR
open L2 DL Mir
open L2 DL Mir
open L2 DL Mir
namespace LmQ
open Mth LmP LmA LmD LmB LmE LmF LmH LmI LmJ LmK
theorem zoU (keys : Nat -> List Int) : ∀ (n : Nat) (ks : List Int), ks ∈ zgR keys n ↔ ∃ j, j < n /\ keys j = ks
 | 0, ks => ⟨(fun h => by cases h), (fun ⟨j, h, _⟩ => absurd h (by omega))⟩
 | n + 1, ks => by
  show ks ∈ zk5 (zgR keys n) (keys n) ↔ _
  have ih := zoU keys n
  have e : ks ∈ zk5 (zgR keys n) (keys n) ↔ ks ∈ zgR keys n \/ ks = keys n := by
   unfold zk5
   split
   ·rename_i hin
    exact ⟨.inl, fun h => h.elim id fun z => by rw [z]; exact hin⟩
   ·rw [xak]; exact ⟨fun h => h.elim .inr .inl, fun h => h.elim .inr .inl⟩
  rw [e, ih]
  constructor
  ·rintro (⟨j, h1, h2⟩ | h)
   ·exact ⟨j, by omega, h2⟩
   ·exact ⟨n, by omega, h.symm⟩
  ·rintro ⟨j, h1, h2⟩
   by_cases z : j = n
   ·subst z; exact .inr h2.symm
   ·exact .inl ⟨j, by omega, h2⟩
theorem zxO {ps : List P3} {k : Nat} (h : k < ps.length) : (ps.map key).getD k [] = key (pk ps k) := by
 rw [xbv, xa6, zcV h]; rfl
end LmQ
open L2 DL Mir
open L2 DL Mir
namespace Lk16
open Mth LmP LmA LmD LmB LmE LmF LmH LmI LmJ LmK LmL LmR LmQ
theorem zdj {α : Type} [DecidableEq α] : ∀ {L M : List α}, L.Nodup -> (∀ x ∈ L, x ∈ M) -> L.length <= M.length
 | [], M, _, _ => xb0 _
 | x :: L, M, nd, h => by
  have nd := xbh.mp nd
  have ih := zdj (M := M.erase x) nd.2 fun y hy => (xdt (fun e => nd.1 (by rw [<- e]; exact hy))).mpr (h y (xad _ hy))
  have e := xc9 (h x xab)
  have := xdi (h x xab)
  rw [xam]; omega
theorem zlo (ks : List Int) : ∀ (xs acc : List (List Int)), ks ∈ xs.foldl zdO acc ↔ ks ∈ acc \/ ks ∈ xs
 | [], acc => by simp
 | x :: xs, acc => by
  rw [xb5, zlo ks xs, xak]
  unfold zdO
  split
  ·rename_i h
   constructor
   ·rintro (h1 | h1)
    ·exact .inl h1
    ·exact .inr (.inr h1)
   ·rintro (h1 | rfl | h1)
    ·exact .inl h1
    ·exact .inl h
    ·exact .inr h1
  ·rw [xbr, xa9, or_assoc]
theorem zoV : ∀ (xs acc : List (List Int)), acc.Nodup -> (xs.foldl zdO acc).Nodup
 | [], _, h => h
 | x :: xs, acc, h => zoV xs _ (zoy h)
theorem zqz (acc : List (List Int)) (k : List Int) : (zdO acc k).length <= acc.length + 1 := by
 unfold zdO; split
 ·omega
 ·simp
theorem zhM : ∀ (xs acc : List (List Int)), (xs.foldl zdO acc).length <= acc.length + xs.length
 | [], acc => by simp
 | x :: xs, acc => by
  have := zhM xs (zdO acc x)
  have := zqz acc x
  rw [xb5, xam]; omega
theorem zqA {a b : List (List Int)} (ha : a.Nodup) (hb : b.Nodup) (h : ∀ k, k ∈ a ↔ k ∈ b) : zfO a = zfO b := by
 have l1 := zdj ha fun k hk => (h k).mp hk
 have l2 := zdj hb fun k hk => (h k).mpr hk
 have pm : b.Perm a := zdM ha (fun k hk => (h k).mp hk) (by omega)
 exact zfh ((zbg a).trans (pm.symm.trans (zbg b).symm)) (zdp a ha) (zdp b hb)
theorem zhN {ps : List P3} {ks : List Int} : ks ∈ zdx (ps.map key) ↔ ∃ p ∈ ps, key p = ks := by
 unfold zdx
 rw [zoU]
 constructor
 ·rintro ⟨j, hj, e⟩
  rw [xae] at hj
  rw [zxO hj] at e
  exact ⟨_, zaF hj, e⟩
 ·rintro ⟨p, hp, e⟩
  obtain ⟨j, hj⟩ := List.mem_iff_getElem?.mp hp
  refine ⟨j, by rw [xae]; exact (xah.mp hj).1, ?_⟩
  rw [xbv, xa6, hj]; exact e
theorem ztp {S : List P3} (c : Col S) {p q r s : P3} (hp : p ∈ S) (hq : q ∈ S) (hr : r ∈ S) (hs : s ∈ S) (n1 : Nz (crs p q)) (n2 : Nz (crs r s)) : low (crs p q) = low (crs r s) :=
 (zfo n2 n1 (zmU (c r hr p hp q hq) (c s hs p hp q hq))).symm
def lns (ps : List P3) : List P3 := (rg 0 ps.length).flatMap fun j => (rg 0 j).map fun i => low (crs (pk ps i) (pk ps j))
theorem zcK {ps : List P3} {l : P3} : l ∈ lns ps ↔ ∃ i j, i < j /\ j < ps.length /\ l = low (crs (pk ps i) (pk ps j)) := by
 unfold lns
 rw [List.mem_flatMap]
 constructor
 ·rintro ⟨j, hj, h⟩
  obtain ⟨i, hi, rfl⟩ := xav.mp h
  exact ⟨i, j, (zaw.mp hi).2, (zaw.mp hj).2, rfl⟩
 ·rintro ⟨i, j, h1, h2, rfl⟩
  exact ⟨j, zaw.mpr ⟨by omega, h2⟩, xav.mpr ⟨i, zaw.mpr ⟨by omega, h1⟩, rfl⟩⟩
theorem sw {p q : P3} (n : Nz (crs p q)) : low (crs q p) = low (crs p q) := (zfo n (zsm fun z => zlF n (by
  have e : crs p q = tms (-1) (crs q p) := by unfold crs tms; exact xan (by grind) (xan (by grind) (by grind))
  rw [e, z]; rfl)) (by unfold crs; exact xan (by grind) (xan (by grind) (by grind)))).symm
theorem zwc {ps : List P3} (F : Fl ps) (h : zbo ps = none) : ∃ k, k < ps.length /\ Col (ps.eraseIdx k) := by
 by_cases hc : Col ps
 ·exact ⟨0, F.one, fun p hp q hq r hr => hc p (xda hp) q (xda hq) r (xda hr)⟩
 ·exact zoR F h hc
theorem ztq {ps : List P3} (F : Fl ps) (h : zbo ps = none) : (zdx ((lns ps).map key)).length <= 13 := by
 have hm := F.most
 obtain ⟨k, hk, c⟩ := zwc F h
 have inE : ∀ i, i < ps.length -> i ≠ k -> pk ps i ∈ ps.eraseIdx k := fun i hi n => xco.mpr ⟨i, n, zcV hi⟩
 have nz : ∀ i j, i < j -> j < ps.length -> Nz (crs (pk ps i) (pk ps j)) := fun i j h1 h2 => zak (F.nrm (by omega)) (F.nrm h2) (F.ne h1 h2)
 have go : ∀ L0 : List Int, (∀ i j, i < j -> j < ps.length -> i ≠ k -> j ≠ k -> key (low (crs (pk ps i) (pk ps j))) = L0) -> (zdx ((lns ps).map key)).length <= 13 := fun L0 hL => by
  have := zdj (L := zdx ((lns ps).map key)) (M := L0 :: (rg 0 ps.length).map fun i => key (low (crs (pk ps i) (pk ps k)))) (zbK _ _) fun ks hks => by
   obtain ⟨l, hl, rfl⟩ := zhN.mp hks
   obtain ⟨i, j, h1, h2, rfl⟩ := zcK.mp hl
   by_cases ei : i = k
   ·refine xad _ (xav.mpr ⟨j, zaw.mpr ⟨by omega, h2⟩, ?_⟩)
    rw [<- ei, sw (nz i j h1 h2)]
   ·by_cases ej : j = k
    ·refine xad _ (xav.mpr ⟨i, zaw.mpr ⟨by omega, by omega⟩, by rw [ej]⟩)
    ·rw [hL i j h1 h2 ei ej]; exact xab
  rw [xam, xae, zes] at this
  omega
 by_cases ex : ∃ i j, i < j /\ j < ps.length /\ i ≠ k /\ j ≠ k
 ·obtain ⟨a, b, h1, h2, h3, h4⟩ := ex
  refine go (key (low (crs (pk ps a) (pk ps b)))) fun i j g1 g2 g3 g4 => ?_
  rw [ztp c (inE i (by omega) g3) (inE j g2 g4) (inE a (by omega) h3) (inE b h2 h4) (nz i j g1 g2) (nz a b h1 h2)]
 ·exact go [] fun i j g1 g2 g3 g4 => absurd ⟨i, j, g1, g2, g3, g4⟩ ex
def unk (ks : List Int) : P3 := (ks.getD 0 0, ks.getD 1 0, ks.getD 2 0)
theorem zoW (p : P3) : unk (key p) = p := rfl
theorem zxP (n : Nat) (hn : n <= 1000) : zin [.int (n : Int)] = .ok ((rg 0 n).map fun k : Nat => D.int (k : Int)) := by
 rw [zgQ _ (zcM (by omega) (by omega)), show zgj 0 (n : Int).toNat = (rg 0 n).map fun k : Nat => D.int (k : Int) from by have := zeH 0 n; simpa using this]
theorem zjd : ∀ {xs : List (List Int)}, xs.Nodup -> zd1 xs = true
 | [], _ => rfl
 | x :: xs, h => by
  have h := xbh.mp h
  unfold zd1
  rw [zjd h.2, Bool.and_true]
  cases c : xs.contains x with
  | false => rfl
  | true => exact absurd (xdq.mp c) h.1
theorem zoX (ps : List P3) : ze5 (ps.map key) = true := xay.mpr fun ks hk => by
 obtain ⟨p, _, rfl⟩ := xav.mp hk
 rfl
theorem zhO {ps : List P3} (nd : ps.Nodup) (hl : ps.length < 64) : zgU [.lst (ps.map ptD)] = .ok ((zfO (ps.map key)).map zch) := by
 show zgT (.lst (ps.map ptD)) = _
 show (match zat (ps.map ptD) with | some kss => (bif zd1 kss && (ze5 kss && Nat.blt kss.length 64) then R.ok ((zfO kss).map zch) else .bad) | none => .bad) = _
 rw [zer]
 show (bif zd1 (ps.map key) && (ze5 (ps.map key) && Nat.blt (ps.map key).length 64) then R.ok ((zfO (ps.map key)).map zch) else .bad) = _
 rw [zjd (zgf nd), zoX, show Nat.blt (ps.map key).length 64 = true from by rw [Nat.blt_eq, xae]; exact hl]; rfl
theorem zqB {ls : List P3} (h : (zdx (ls.map key)).length <= 18) : zeE (.lst (ls.map ptD)) = .ok ((zfO (zdx (ls.map key))).map zch) := by
 show (match zat (ls.map ptD) with | some kss => (bif Nat.ble (zdx kss).length 18 && ze5 (zdx kss) then R.ok ((zfO (zdx kss)).map zch) else .bad) | none => .bad) = _
 rw [zer]
 show (bif Nat.ble (zdx (ls.map key)).length 18 && ze5 (zdx (ls.map key)) then R.ok ((zfO (zdx (ls.map key))).map zch) else .bad) = _
 rw [show Nat.ble (zdx (ls.map key)).length 18 = true from by rw [Nat.ble_eq]; omega, show ze5 (zdx (ls.map key)) = true from xay.mpr fun ks hk => by
  obtain ⟨p, _, rfl⟩ := zhN.mp hk
  rfl]; rfl
theorem lnD (ps : List P3) : ((rg 0 ps.length).flatMap fun j => (rg 0 j).flatMap fun i => [ptD (low (crs (pk ps i) (pk ps j)))]) = (lns ps).map ptD := by
 unfold lns
 rw [List.map_flatMap]
 congr 1
 funext j
 rw [xb1]
 have one : ∀ (g : Nat -> D) (ks : List Nat), (ks.flatMap fun i => [g i]) = ks.map g := fun g ks => by
  induction ks with
  | nil => rfl
  | cons k ks ih => rw [xcd, ih]; rfl
 exact one (fun i => ptD (low (crs (pk ps i) (pk ps j)))) _
theorem zjI {α : Type} {i : Nat} {fb : DSt -> R Out} (S : List (List Int) -> DSt -> Prop) (d : α -> D) (f : α -> List (List Int)) : ∀ (ks : List α), (∀ k ∈ ks, ∀ xs U, S xs U -> xs.length + (f k).length <= 1000000 -> ∃ U', fb (U.set i (some (d k))) = .ok (.nx U') /\ S (xs ++ f k) U') -> ∀ xs U, S xs U -> xs.length + (ks.flatMap f).length <= 1000000 ->
  ∃ U', zez [i] zan fb (ks.map d) U = .ok (.nx U') /\ S (xs ++ ks.flatMap f) U'
 | [], _, xs, U, h, _ => ⟨U, rfl, by simpa using h⟩
 | k :: ks, hs, xs, U, h, hl => by
  rw [xcd, xbc] at hl
  obtain ⟨U1, e1, h1⟩ := hs k (by simp) xs U h (by omega)
  obtain ⟨U2, e2, h2⟩ := zjI S d f ks (fun k hk => hs k (by simp [hk])) _ U1 h1 (by rw [xbc]; omega)
  refine ⟨U2, ?_, by rw [xcd, <- List.append_assoc]; exact h2⟩
  rw [xa0, zbF, e1, zdo, e2]
theorem ztr {i : Nat} {fk fv : DSt -> R D} {U : DSt} {kss : List (List Int)} {p : P3} {v : D} (h1 : fv (mask [i] U) = .ok v) (h2 : fk (mask [i] U) = .ok (ptD p)) (h3 : zb3 U i = .ok (kss.map zch)) (hl : kss.length <= 1000000) : zqm i fk fv U = .ok (.nx (U.set i (some (.lst ((zdO kss (key p)).map zch))))) := by
 unfold zqm
 rw [h1, h2, h3]
 show ((zo7 (kss.map zch) (ptD p)).bind _) = _
 have e : zo7 (kss.map zch) (ptD p) = .ok ((zdO kss (key p)).map zch) := by
  unfold zo7
  rw [zd2, show zat [ptD p] = some [key p] from zer [p]]
  show (bif most kss.length then R.ok ((zdO kss (key p)).map zch) else .bad) = _
  rw [zeB hl]; rfl
 rw [e]; rfl
theorem zts {ps : List P3} {k : Nat} (hk : k <= ps.length) : (ps.map ptD).take k = (rg 0 k).map fun o => ptD (pk ps o) := by
 refine xdf fun i => ?_
 by_cases hi : i < k
 ·rw [List.getElem?_take_of_lt hi, xa6, xa6, zcV (by omega)]
  unfold rg
  rw [xa6, xb7 (by omega)]
  show some (ptD (pk ps i)) = some (ptD (pk ps (0 + i)))
  rw [xbk]
 ·rw [List.getElem?_eq_none (by rw [xbj, xae]; omega), List.getElem?_eq_none (by rw [xae, zes]; omega)]
def lks (ps : List P3) : List (List Int) := (rg 0 ps.length).flatMap fun k => (rg 0 k).flatMap fun o => [key (low (crs (pk ps k) (pk ps o)))]
end Lk16
open L2 DL Mir
namespace Lk15
open Mth LmP LmA LmD LmB LmE LmF LmH LmI LmJ LmK LmL LmR LmQ Lk16
theorem ztt {xs : List P3} (nd : xs.Nodup) {i j : Nat} (hi : i < j) (hj : j < xs.length) : pk xs i ≠ pk xs j := fun e => by
 have h1 := zcV (ps := xs) (k := i) (by omega)
 have h2 := zcV hj
 rw [e, <- h2] at h1
 exact absurd ((List.getElem?_inj (by omega) nd).mp h1) (by omega)
theorem ztu {xs : List P3} {p : P3} (h : p ∈ xs) : ∃ i, i < xs.length /\ pk xs i = p := by
 obtain ⟨i, hi⟩ := List.mem_iff_getElem?.mp h
 have hl := (xah.mp hi).1
 have := zcV hl
 rw [hi] at this
 exact ⟨i, hl, (Option.some.inj this).symm⟩
theorem zoY {xs : List P3} (hn : ∀ p ∈ xs, Nrm p) {p q : P3} (hp : p ∈ xs) (hq : q ∈ xs) (h : p ≠ q) : low (crs p q) ∈ lns xs := by
 obtain ⟨i, hi, rfl⟩ := ztu hp
 obtain ⟨j, hj, rfl⟩ := ztu hq
 rcases Nat.lt_trichotomy i j with l | l | l
 ·exact zcK.mpr ⟨i, j, l, hj, rfl⟩
 ·subst l; exact absurd rfl h
 ·exact zcK.mpr ⟨j, i, l, hi, (sw (zak (hn _ hp) (hn _ hq) h)).symm⟩
theorem zxQ {xs : List P3} (hn : ∀ p ∈ xs, Nrm p) (nd : xs.Nodup) {ks : List Int} : ks ∈ lks xs ↔ ∃ l ∈ lns xs, key l = ks := by
 have nz : ∀ i j, i < j -> j < xs.length -> Nz (crs (pk xs i) (pk xs j)) := fun i j h1 h2 => zak (hn _ (zaF (by omega))) (hn _ (zaF h2)) (ztt nd h1 h2)
 unfold lks
 simp only [List.mem_flatMap, xa9]
 constructor
 ·rintro ⟨k, hk, o, ho, rfl⟩
  have hk := (zaw.mp hk).2
  have ho := (zaw.mp ho).2
  exact ⟨_, zcK.mpr ⟨o, k, ho, hk, rfl⟩, by rw [sw (nz o k ho hk)]⟩
 ·rintro ⟨l, hl, rfl⟩
  obtain ⟨i, j, h1, h2, rfl⟩ := zcK.mp hl
  exact ⟨j, zaw.mpr ⟨by omega, h2⟩, i, zaw.mpr ⟨by omega, h1⟩, by rw [sw (nz i j h1 h2)]⟩
theorem ztv {xs : List P3} (hl : xs.length <= 144) : (lks xs).length <= 20736 := by
 refine xa4 (zeI (B := 144) _ fun j hj => ?_) (by rw [zes]; omega)
 have hj := (zaw.mp hj).2
 refine xa4 (zeI (B := 1) _ fun i _ => by simp) (by rw [zes]; omega)
abbrev kp (xs : List P3) (k o : Nat) : List Int := key (low (crs (pk xs k) (pk xs o)))
abbrev ms (xs : List P3) (ks : List (List Int)) (x y z : Option D) : DSt := [some (.lst (xs.map ptD)), some (.lst ((ks.foldl zdO []).map zch)), x, y, z]
abbrev lp (xs : List P3) (k o : Nat) : P3 := low (crs (pk xs k) (pk xs o))
theorem zlp {n : Nat} {xs : List P3} (hp : Pts n xs) (nd : xs.Nodup) (hl : xs.length <= 144) (hn : n <= 1000) : ∃ ls : List P3, zbn [.lst (xs.map ptD)] = .ok (.lst (ls.map ptD)) /\ ls.Nodup /\ ∀ l, l ∈ ls ↔ l ∈ lns xs := by
 let S : List (List Int) -> DSt -> Prop := fun ks U => ∃ x y z, U = ms xs ks x y z
 have bd : ∀ {k}, k < xs.length -> BP n (pk xs k) := fun hk => hp.bd _ (zaF hk)
 have t2 : ∀ k, k < xs.length -> ∀ o ∈ rg 0 k, ∀ ks U, (∃ y z, U = ms xs ks (some (.int (k : Int))) (y) (z)) -> ks.length + [kp xs k o].length <= 1000000 -> ∃ U', zbZ (U.set 3 (some (ptD (pk xs o)))) = .ok (.nx U') /\ ∃ y z, U' = ms xs (ks ++ [kp xs k o]) (some (.int (k : Int))) (y) (z) := by
  rintro k hk o ho ks U ⟨y, z, rfl⟩ hl
  have ho := (zaw.mp ho).2
  have ho' : o < xs.length := by omega
  have nz : Nz (crs (pk xs k) (pk xs o)) := zak (hp.nrm _ (zaF hk)) (hp.nrm _ (zaF ho')) (fun e => ztt nd ho hk e.symm)
  have lf := zhM ks []
  simp only [xc6, xam, xbk] at lf hl
  rw [show List.set _ 3 _ = ms xs ks (some (.int (k : Int))) (some (ptD (pk xs o))) (z) from rfl]
  unfold zbZ; kd_p
  rw [Fl.ix hk]; kd_p
  rw [zge (bd hk) (bd ho') (by omega) (by omega)]; kd_p
  unfold zcp eM; kd_p
  rw [decide_eq_false (show ¬ ((crs (pk xs k) (pk xs o)).1 = 0 /\ (crs (pk xs k) (pk xs o)).2.1 = 0 /\ (crs (pk xs k) (pk xs o)).2.2 = 0) from nz)]; kd_p
  unfold zcb
  rw [ztr (kss := ks.foldl zdO []) (p := low (crs (pk xs k) (pk xs o))) (v := .bl true) rfl (by
   kd_p
   rw [zoG ((bd hk).crs (bd ho')) nz (by omega)]) rfl (by omega)]
  exact ⟨_, rfl, _, _, by unfold ms; rw [List.foldl_append]; rfl⟩
 have t1 : ∀ k ∈ rg 0 xs.length, ∀ ks U, S ks U -> ks.length + ((rg 0 k).flatMap fun o => [kp xs k o]).length <= 1000000 -> ∃ U', zcg (U.set 2 (some (.int (k : Int)))) = .ok (.nx U') /\ S (ks ++ (rg 0 k).flatMap fun o => [kp xs k o]) U' := by
  rintro k hk ks U ⟨x, y, z, rfl⟩ hl
  have hk := (zaw.mp hk).2
  rw [show List.set _ 2 _ = ms xs ks (some (.int (k : Int))) (y) (z) from rfl]
  unfold zcg; kd_p
  rw [LmL.eSl_to _ _ _ (xs.map ptD) k rfl rfl, zts (by omega)]; kd_p
  obtain ⟨U', e, y', z', rfl⟩ := zjI (d := fun o => ptD (pk xs o)) _ _ _ (t2 k hk) ks _ ⟨y, z, rfl⟩ hl
  exact ⟨_, e, _, _, _, rfl⟩
 have ll := ztv hl
 have N := zoV (lks xs) [] List.nodup_nil
 have fl := zhM (lks xs) []
 simp only [xc6, xbk] at fl
 have mem : ∀ k, k ∈ (lks xs).foldl zdO [] ↔ ∃ l ∈ lns xs, key l = k := fun k => by
  rw [zlo, zxQ hp.nrm nd]; simp
 have eD : ((lks xs).foldl zdO []).map zch = (((lks xs).foldl zdO []).map unk).map ptD := by
  rw [xb1]
  refine xck fun k hk => ?_
  obtain ⟨l, _, rfl⟩ := (mem k).mp hk
  rfl
 refine ⟨((lks xs).foldl zdO []).map unk, ?_, ?_, fun l => ?_⟩
 ·rw [zgu]; unfold zcI
  show fin ((zcH [some (.lst (xs.map ptD)), some (.lst []), none, none, none]).bind zhC) = _
  unfold zcH; kd_p
  rw [xae, zxP _ (by omega)]; kd_p
  obtain ⟨U', e, x, y, z, rfl⟩ := zjI (d := fun k : Nat => D.int (k : Int)) S _ _ t1 [] [some (.lst (xs.map ptD)), some (.lst []), none, none, none] ⟨_, _, _, rfl⟩ (by have : ((rg 0 xs.length).flatMap fun k => (rg 0 k).flatMap fun o => [kp xs k o]).length <= 20736 := ll; simp only [xc6]; omega)
  rw [e]; kd_p
  rw [List.nil_append]
  unfold zdi zoB
  show fin (((ztO (((lks xs).foldl zdO []).map zch)).bind fun es => R.ok (.rt (.lst es))).bind zhC) = _
  have es : ztO (((lks xs).foldl zdO []).map zch) = .ok (((lks xs).foldl zdO []).map zch) := by
   unfold ztO
   rw [zd2]
   show (bif most ((lks xs).foldl zdO []).length then R.ok (((lks xs).foldl zdO []).map zch) else .bad) = _
   rw [zeB (by omega)]; rfl
  rw [es, eD]; rfl
 ·refine List.pairwise_map.mpr (List.Pairwise.imp_of_mem (fun {a b} ha hb hne e => hne ?_) N)
  obtain ⟨x, _, rfl⟩ := (mem a).mp ha
  obtain ⟨y, _, rfl⟩ := (mem b).mp hb
  rw [zoW, zoW] at e
  rw [e]
 ·constructor
  ·intro h
   obtain ⟨k, hk, rfl⟩ := xav.mp h
   obtain ⟨x, hx, rfl⟩ := (mem k).mp hk
   exact hx
  ·intro h
   exact xav.mpr ⟨key l, (mem _).mpr ⟨l, h, rfl⟩, rfl⟩
theorem zoZ {ps : List P3} (F : Fl ps) (h : zbo ps = none) : ∃ x ∈ ps, ∀ p ∈ ps, ∀ q ∈ ps, ∀ r ∈ ps, p ≠ x -> q ≠ x -> r ≠ x -> C3 p q r := by
 obtain ⟨k, hk, c⟩ := zwc F h
 have inE : ∀ p ∈ ps, p ≠ pk ps k -> p ∈ ps.eraseIdx k := fun p hp n => by
  obtain ⟨i, hi, rfl⟩ := ztu hp
  exact xco.mpr ⟨i, fun e => n (by rw [e]), zcV hi⟩
 exact ⟨pk ps k, zaF hk, fun p hp q hq r hr n1 n2 n3 => c p (inE p hp n1) q (inE q hq n2) r (inE r hr n3)⟩
theorem zmj {p q : P3} (n : Nz (crs p q)) : dot p (low (crs p q)) = 0 /\ dot q (low (crs p q)) = 0 :=
 ⟨(zcZ n).mpr (by unfold dot crs; grind), (zcZ n).mpr (by unfold dot crs; grind)⟩
theorem zwd {ps : List P3} (F : Fl ps) (h : zbo ps = none) {l k : P3} (hl : l ∈ lns ps) (hk : k ∈ lns ps) (ne : l ≠ k) : low (crs l k) ∈ ps := by
 obtain ⟨x, hx, c⟩ := zoZ F h
 obtain ⟨i, j, h1, h2, rfl⟩ := zcK.mp hl
 obtain ⟨u, v, g1, g2, rfl⟩ := zcK.mp hk
 have mi : pk ps i ∈ ps := zaF (by omega)
 have mj : pk ps j ∈ ps := zaF h2
 have mu : pk ps u ∈ ps := zaF (by omega)
 have mv : pk ps v ∈ ps := zaF g2
 have nij : pk ps i ≠ pk ps j := F.ne h1 h2
 have nuv : pk ps u ≠ pk ps v := F.ne g1 g2
 generalize pk ps i = a at *
 generalize pk ps j = b at *
 generalize pk ps u = d at *
 generalize pk ps v = e at *
 have n1 := zak (F.pts.nrm a mi) (F.pts.nrm b mj) nij
 have n2 := zak (F.pts.nrm d mu) (F.pts.nrm e mv) nuv
 have nz := zak (za9 n1) (za9 n2) ne
 have at' : ∀ y ∈ ps, dot y (low (crs a b)) = 0 -> dot y (low (crs d e)) = 0 -> low (crs (low (crs a b)) (low (crs d e))) ∈ ps := fun y hy z1 z2 => by
  rw [zsu (F.pts.nrm y hy) nz z1 z2]; exact hy
 have on : ∀ y ∈ ps, ∀ p ∈ ps, ∀ q ∈ ps, Nz (crs p q) -> y ≠ x -> p ≠ x -> q ≠ x -> dot y (low (crs p q)) = 0 := fun y hy p hp q hq n y1 p1 q1 => (zcZ n).mpr (c y hy p hp q hq y1 p1 q1)
 by_cases ea : a = x
 ·by_cases ed : d = x
  ·exact at' x hx (by rw [<- ea]; exact (zmj n1).1) (by rw [<- ed]; exact (zmj n2).1)
  ·by_cases ee : e = x
   ·exact at' x hx (by rw [<- ea]; exact (zmj n1).1) (by rw [<- ee]; exact (zmj n2).2)
   ·exact at' b mj (zmj n1).2 (on b mj d mu e mv n2 (fun z => nij (ea.trans z.symm)) ed ee)
 ·by_cases eb : b = x
  ·by_cases ed : d = x
   ·exact at' x hx (by rw [<- eb]; exact (zmj n1).2) (by rw [<- ed]; exact (zmj n2).1)
   ·by_cases ee : e = x
    ·exact at' x hx (by rw [<- eb]; exact (zmj n1).2) (by rw [<- ee]; exact (zmj n2).2)
    ·exact at' a mi (zmj n1).1 (on a mi d mu e mv n2 ea ed ee)
  ·by_cases ed : d = x
   ·exact at' e mv (on e mv a mi b mj n1 (fun z => nuv (ed.trans z.symm)) ea eb) (zmj n2).2
   ·exact at' d mu (on d mu a mi b mj n1 ed ea eb) (zmj n2).1
theorem ztw {ps : List P3} (F : Fl ps) {l : P3} (h : l ∈ lns ps) : Nrm l /\ BP 49 l := by
 obtain ⟨i, j, h1, h2, rfl⟩ := zcK.mp h
 have nz := zak (F.nrm (k := i) (by omega)) (F.nrm h2) (F.ne h1 h2)
 exact ⟨za9 nz, ((F.bd (k := i) (by omega)).crs (F.bd h2)).low nz⟩
theorem ztx {ps ls cs : List P3} (F : Fl ps) (h : zbo ps ≠ none) (nl : ls.Nodup) (hl : ∀ l, l ∈ ls ↔ l ∈ lns ps) (hc : ∀ c, c ∈ cs ↔ c ∈ lns ls) : ∃ c ∈ cs, c ∉ ps := by
 refine xar fun no => ?_
 have all : ∀ c ∈ cs, c ∈ ps := fun c hc => xar fun n => no ⟨c, hc, n⟩
 have nrl : ∀ l ∈ ls, Nrm l := fun l h => (ztw F ((hl l).mp h)).1
 have clo : Clo (· ∈ ps) := fun p q r s hp hq hr hs h1 h2 h3 => by
  have l1 := (hl _).mpr (zoY F.pts.nrm hp hq h1)
  have l2 := (hl _).mpr (zoY F.pts.nrm hr hs h2)
  exact all _ ((hc _).mpr (zoY nrl l1 l2 h3))
 obtain ⟨a, b, c, d, _, ha, hb, hc', hd, g⟩ := zjH h
 obtain ⟨f, f1, f2⟩ := zst clo (F.nrm ha) (F.nrm hb) (F.nrm hc') (F.nrm hd) (zaF ha) (zaF hb) (zaF hc') (zaF hd) g
 have := zdj (L := (List.range 13).map f) (M := ps) (List.pairwise_map.mpr ((List.nodup_range (n := 13)).imp fun {i j} n => f2 i j n)) fun x hx => by
  obtain ⟨n, _, rfl⟩ := xav.mp hx
  exact f1 n
 have := F.most
 simp at *
 omega
theorem zwe {a b c d : P3} (g : G4 a b c d) : a ≠ b /\ a ≠ c /\ b ≠ c /\ a ≠ d /\ b ≠ d /\ c ≠ d :=
 ⟨fun e => g.d3 (by rw [e]; exact C3.aab _ _), fun e => g.d3 (by rw [e]; exact C3.aba _ _), fun e => g.d3 (by rw [e]; exact C3.baa _ _), fun e => g.d2 (by rw [e]; exact C3.aba _ _), fun e => g.d2 (by rw [e]; exact C3.baa _ _), fun e => g.d1 (by rw [e]; exact C3.baa _ _)⟩
theorem zxR {ps : List P3} (F : Fl ps) (h : zbo ps = none) {a b c d : P3} (ha : a ∈ ps) (hb : b ∈ ps) (hc : c ∈ ps) (hd : d ∈ ps) (g : G4 a b c d) : False := by
 obtain ⟨x, hx, t⟩ := zoZ F h
 obtain ⟨nab, nac, nbc, nad, nbd, ncd⟩ := zwe g
 by_cases ea : a = x
 ·subst ea
  exact g.d0 (t d hd b hb c hc (fun e => nad e.symm) (fun e => nab e.symm) (fun e => nac e.symm))
 ·by_cases eb : b = x
  ·subst eb
   exact g.d1 (t a ha d hd c hc ea (fun e => nbd e.symm) (fun e => nbc e.symm))
  ·by_cases ec : c = x
   ·subst ec
    exact g.d2 (t a ha b hb d hd ea eb (fun e => ncd e.symm))
   ·exact g.d3 (t a ha b hb c hc ea eb ec)
theorem Fl.rev {ps : List P3} (F : Fl ps) : Fl ps.reverse := ⟨⟨fun p hp => F.pts.nrm p (xbg.mp hp), fun p hp => F.pts.bd p (xbg.mp hp)⟩, (List.reverse_perm ps).nodup_iff.mpr F.nd, by rw [xc0]; exact F.one, by rw [xc0]; exact F.most⟩
theorem zlq {ps : List P3} (F : Fl ps) (h : zbo ps = none) : zbo ps.reverse = none := xar fun n => by
 obtain ⟨a, b, c, d, _, ha, hb, hc, hd, g⟩ := zjH n
 exact zxR F h (xbg.mp (zaF ha)) (xbg.mp (zaF hb)) (xbg.mp (zaF hc)) (xbg.mp (zaF hd)) g
theorem zty {ps : List P3} : Col ps.reverse ↔ Col ps := ⟨fun c p hp q hq r hr => c p (xbg.mpr hp) q (xbg.mpr hq) r (xbg.mpr hr), fun c p hp q hq r hr => c p (xbg.mp hp) q (xbg.mp hq) r (xbg.mp hr)⟩
noncomputable def kn (ps : List P3) : D := open Classical in match zbo ps with
 | some _ => .str "frame"
 | none => if Col ps then .str "line" else .str "fan"
theorem ztz (ps : List P3) : gIx (kD ps) (.int 0) = .ok (kn ps) := by
 classical
 unfold kD kn
 cases zbo ps with
 | some v => rfl
 | none => simp only; split <;> rfl
theorem zwf {ps : List P3} (F : Fl ps) : kn ps.reverse = kn ps := by
 classical
 unfold kn
 cases e : zbo ps with
 | none =>
  rw [zlq F e]
  simp only [zty]
 | some v =>
  cases e' : zbo ps.reverse with
  | some w => rfl
  | none =>
   have := zlq (Fl.rev F) e'
   rw [List.reverse_reverse, e] at this
   cases this
theorem zxS (ps : List P3) : gNe (kn ps) (kn ps) = .ok (.bl false) := by
 classical
 unfold kn
 split
 ·rfl
 ·split <;> rfl
theorem zjJ {ps : List P3} (F : Fl ps) {a b c d : Nat} {p q r s : P3} (ha : a < ps.length) (hb : b < ps.length) (hc : c < ps.length) (hd : d < ps.length) (e1 : pk ps a = p) (e2 : pk ps b = q) (e3 : pk ps c = r) (e4 : pk ps d = s) (g : G4 p q r s) : zaE [.lst (ps.map ptD), zo8 a b c d] = .ok (.bl true) := by
 classical
 obtain ⟨nab, nac, nbc, nad, nbd, ncd⟩ := zwe g
 have mem : ∀ t ∈ [p, q, r, s], t ∈ ps := fun t hp => by
  simp only [xak, xbf, or_false] at hp
  rcases hp with rfl | rfl | rfl | rfl
  ·rw [<- e1]; exact zaF ha
  ·rw [<- e2]; exact zaF hb
  ·rw [<- e3]; exact zaF hc
  ·rw [<- e4]; exact zaF hd
 have Q : Fs [p, q, r, s] := ⟨⟨fun p hp => F.pts.nrm p (mem p hp), fun p hp => F.pts.bd p (mem p hp)⟩, by simp [nab, nac, nad, nbc, nbd, ncd], by simp⟩
 rw [zdy]; unfold za3 zo8; kd_p
 rw [Lk44.lc_4 (x := ptD p) (y := ptD q) (z := ptD r) (u := ptD s) (by kd_p; rw [<- e1]; exact Fl.ix ha) (by kd_p; rw [<- e2]; exact Fl.ix hb) (by kd_p; rw [<- e3]; exact Fl.ix hc) (by kd_p; rw [<- e4]; exact Fl.ix hd)]; kd_p
 unfold zb1; kd_p
 rw [show zin [.int 4] = .ok ((rg 0 4).map fun k : Nat => D.int (k : Int)) from rfl]
 rw [zcl (p := fun _ => false) (g := id) (by simp [rg]) (fun t ht => ?_) (fun t ht h => by cases h)]
 ·kd_p
  rw [show gEq (.lst (((rg 0 4).map fun k : Nat => D.int (k : Int)).filter (fun _ => false) |>.map id)) (.lst []) = .ok (.bl true) from by simp; rfl]; kd_p
 ·obtain ⟨k, hk, rfl⟩ := xav.mp ht
  have hk := (zaw.mp hk).2
  have Fk := Q.sub (xdr [p, q, r, s] k)
  rw [zdW, zdU, show zaa (eOp zb2 (eSl (zac 3) zbT (zbU (zac 0))) (eSl (zac 3) (zbU (eOp zb2 (zac 0) (eC (.int 1)))) zbT)) zaj [some (.int (k : Int)), some (.lst (ps.map ptD)), some (.tup [.int (a : Int), .int (b : Int), .int (c : Int), .int (d : Int)]), some (.lst [ptD p, ptD q, ptD r, ptD s])] = .ok [.lst (([p, q, r, s].eraseIdx k).map ptD)] from by rw [zdV, zoP (ps := [p, q, r, s]) (by simp) rfl rfl]; rfl]
  rw [zff, zjc Fk, decide_eq_false]
  ·rfl
  ·intro col
   rcases (show k = 0 \/ k = 1 \/ k = 2 \/ k = 3 by omega) with rfl | rfl | rfl | rfl
   ·exact g.d0 (col s (by simp [xbx]) q (by simp [xbx]) r (by simp [xbx]))
   ·exact g.d1 (col p (by simp [xbx]) s (by simp [xbx]) r (by simp [xbx]))
   ·exact g.d2 (col p (by simp [xbx]) q (by simp [xbx]) s (by simp [xbx]))
   ·exact g.d3 (col p (by simp [xbx]) q (by simp [xbx]) r (by simp [xbx]))
theorem ztA {ps : List P3} (F : Fl ps) (h : zbo ps = none) (hf : (zdx ((lns ps).map key)).length <= 18) : zco [.lst (ps.map ptD)] = .ok (.tup [.lst ((zfO (ps.map key)).map zch), .lst ((zfO (zdx ((lns ps).map key))).map zch)]) := by
 have hm := F.most
 have t2 : ∀ j, j < ps.length -> ∀ i ∈ rg 0 j, ∀ xs U, (∃ x, U = [some (.lst (ps.map ptD)), some (.lst xs), some (.int (j : Int)), x]) -> xs.length + [ptD (lp ps i j)].length <= 1000000 -> ∃ U', zcf (U.set 3 (some (.int (i : Int)))) = .ok (.nx U') /\ ∃ x, U' = [some (.lst (ps.map ptD)), some (.lst (xs ++ [ptD (lp ps i j)])), some (.int (j : Int)), x] := by
  rintro j hj i hi xs U ⟨x, rfl⟩ hl
  have hi := (zaw.mp hi).2
  have nz := zak (F.nrm (k := i) (by omega)) (F.nrm hj) (F.ne hi hj)
  rw [show List.set _ 3 _ = [some (.lst (ps.map ptD)), some (.lst xs), some (.int (j : Int)), some (.int (i : Int))] from rfl]
  unfold zcf; kd_p
  rw [Fl.ix (k := i) (by omega), Fl.ix hj]; kd_p
  rw [zbO (F.bd (k := i) (by omega)) (F.bd hj) (by decide) (F.ne hi hj) nz, zhr _ _ _ _ (by simp at hl; omega)]
  exact ⟨_, rfl, _, rfl⟩
 have t1 : ∀ j ∈ rg 0 ps.length, ∀ xs U, (∃ x y, U = [some (.lst (ps.map ptD)), some (.lst xs), x, y]) -> xs.length + ((rg 0 j).flatMap fun i => [ptD (lp ps i j)]).length <= 1000000 -> ∃ U', zcE (U.set 2 (some (.int (j : Int)))) = .ok (.nx U') /\ ∃ x y, U' = [some (.lst (ps.map ptD)), some (.lst (xs ++ (rg 0 j).flatMap fun i => [ptD (lp ps i j)])), x, y] := by
  rintro j hj xs U ⟨x, y, rfl⟩ hl
  have hj := (zaw.mp hj).2
  rw [show List.set _ 2 _ = [some (.lst (ps.map ptD)), some (.lst xs), some (.int (j : Int)), y] from rfl]
  unfold zcE; kd_p
  rw [zxP j (by omega)]; kd_p
  obtain ⟨U', e, z, rfl⟩ := zoO _ _ _ (t2 j hj) xs _ ⟨y, rfl⟩ hl
  exact ⟨_, e, _, _, rfl⟩
 have ll : ((rg 0 ps.length).flatMap fun j => (rg 0 j).flatMap fun i => [ptD (lp ps i j)]).length <= 144 := by
  refine xa4 (zeI (B := 12) _ fun j hj => ?_) (by rw [zes]; omega)
  have hj := (zaw.mp hj).2
  refine xa4 (zeI (B := 1) _ fun i _ => by simp) (by rw [zes]; omega)
 rw [zhI]; unfold zdu; kd_p
 rw [zoN F, h, show (none : Option D).getD .non = .non from rfl]; kd_p
 unfold zeW; kd_p
 unfold zeV; kd_p
 rw [xae, zxP _ (by omega)]; kd_p
 obtain ⟨U', e, x, y, rfl⟩ := zoO _ _ _ t1 [] [some (.lst (ps.map ptD)), some (.lst []), none, none] ⟨_, _, rfl⟩ (by simp only [xc6]; omega)
 rw [e]; kd_p
 rw [List.nil_append, lnD]
 unfold zeU; kd_p
 rw [zhO F.nd (by omega), show zhA (zac 1) [some (.lst (ps.map ptD)), some (.lst ((lns ps).map ptD)), x, y] = .ok ((zfO (zdx ((lns ps).map key))).map zch) from zqB hf]; kd_p
theorem zqC {α : Type} {xs : List α} {f : α -> D} {c : DSt -> R Bool} {U : DSt} {p : α -> Bool} (hl : xs.length <= 1000000) (hc : ∀ a ∈ xs, c (some (f a) :: U) = .ok (p a)) : lcK 1 [0] (.ok (xs.map f)) zan c (zac 0) U = .ok ((xs.filter p).map f) := by
 have go : ∀ xs : List α, (∀ a ∈ xs, c (some (f a) :: U) = .ok (p a)) -> lcD [0] zan c (zac 0) (List.replicate 1 none ++ U) (xs.map f) = .ok ((xs.filter p).map f) := by
  intro xs
  induction xs with
  | nil => intro _; rfl
  | cons d ds ih =>
   intro hc
   have ih' := ih (fun d' hd => hc d' (xad _ hd))
   show (c (some (f d) :: U)).bind (fun k => bif k then (zac 0 (some (f d) :: U)).bind (fun y => (lcD [0] zan c (zac 0) (List.replicate 1 none ++ U) (ds.map f)).bind fun ys => .ok (y :: ys)) else lcD [0] zan c (zac 0) (List.replicate 1 none ++ U) (ds.map f)) = _
   rw [hc d xab, ih']
   cases hp : p d with
   | true => rw [List.filter_cons_of_pos hp]; rfl
   | false => rw [List.filter_cons_of_neg (by rw [hp]; exact xaw)]; rfl
 show (bif most (xs.map f).length then _ else _) = _
 rw [zeB (by rw [xae]; exact hl), go xs hc]; rfl
theorem zwg (ps : List P3) : gNe (.lst (ps.map ptD)) (.lst []) = .ok (.bl (!ps.isEmpty)) := by
 unfold gNe zlL
 rw [Lk12.dat_pts ps]
 cases ps <;> rfl
theorem zrT {xs : List P3} {n : Nat} (hl : xs.length <= n) : (lns xs).length <= n * n := by
 refine xa4 (zeI (B := n) _ fun j hj => ?_) ?_
 ·have hj := (zaw.mp hj).2
  rw [xae, zes]; omega
 ·rw [zes]; exact Nat.mul_le_mul_right n (by omega)
theorem zxT (ps : List P3) : zxD (.lst (ps.map ptD)) = .ok (.lst (ps.reverse.map ptD)) := by
 show R.ok (D.lst (ps.map ptD).reverse) = _
 rw [List.map_reverse]
theorem zwh {a b : List D} (ha : ∀ d ∈ a, zcy 7 d = true) (hb : ∀ d ∈ b, zcy 7 d = true) : gEq (.tup [.lst a, .lst b]) (.tup [.lst a, .lst b]) = .ok (.bl true) := by
 have h : zcy 9 (.tup [.lst a, .lst b]) = true := by
  show (a.all (zcy 7) && (b.all (zcy 7) && true)) = true
  rw [xay.mpr ha, xay.mpr hb]; rfl
 unfold gEq zlL
 rw [h, zhn 9 _ h]; rfl
theorem zo0 {ps ls : List P3} (F : Fl ps) (e : zbo ps = none) (nl : ls.Nodup) (hl : ∀ l, l ∈ ls ↔ l ∈ lns ps) (x1 x3 x4 : Option D) : fin (zbA [some (.lst (ps.map ptD)), x1, some (.lst (ls.map ptD)), x3, x4]) = .ok (.bl true) := by
 have hm := F.most
 have few := ztq F e
 have A : (zdx ((lns ps).map key)).Nodup := zbK _ _
 have same : ∀ k, k ∈ ls.map key ↔ k ∈ zdx ((lns ps).map key) := fun k => by
  rw [zhN, xav]
  exact ⟨fun ⟨l, h1, h2⟩ => ⟨l, (hl l).mp h1, h2⟩, fun ⟨l, h1, h2⟩ => ⟨l, (hl l).mpr h1, h2⟩⟩
 have le := zdj (zgf nl) fun k hk => (same k).mp hk
 rw [xae] at le
 unfold zbA; kd_p
 rw [ztA F e (by omega), zhO F.nd (by omega), zhO nl (by omega), zqA (zgf nl) A same]; kd_p
 rw [zwh (fun d hd => ?_) (fun d hd => ?_)]; · kd_p
 ·obtain ⟨k, hk, rfl⟩ := xav.mp hd
  obtain ⟨p, _, rfl⟩ := xav.mp ((zbg _).mem_iff.mp hk)
  rfl
 ·obtain ⟨k, hk, rfl⟩ := xav.mp hd
  obtain ⟨p, _, rfl⟩ := zhN.mp ((zbg _).mem_iff.mp hk)
  rfl
open Classical in
theorem zlr {ps : List P3} (F : Fl ps) : zaR [.lst (ps.map ptD)] = .ok (.bl true) := by
 have hm := F.most
 obtain ⟨ls, el, nl, hl⟩ := zlp F.pts F.nd (by omega) (by decide)
 have pl : Pts 49 ls := ⟨fun l h => (ztw F ((hl l).mp h)).1, fun l h => (ztw F ((hl l).mp h)).2⟩
 have le1 := zdj nl fun l h => (hl l).mp h
 have le2 := zrT (xs := ps) (n := 12) hm
 obtain ⟨cs, ec, nc, hc⟩ := zlp pl nl (by omega) (by decide)
 have le3 := zdj nc fun l h => (hc l).mp h
 have le4 := zrT (xs := ls) (n := 144) (by omega)
 rw [zeG]; unfold zbq; kd_p
 rw [zoT F]; kd_p
 unfold zcU; kd_p
 rw [el]; kd_p
 unfold zcT; kd_p
 rw [ec]; kd_p
 rw [zqC (p := fun c => !decide (c ∈ ps)) (by omega) (fun c _ => by
  kd_p
  rw [Lk42.nin_pts]; kd_p)]; kd_p
 unfold zcS; kd_p
 rw [zwg, ztz]; kd_p
 have zaD : ∀ x3 : Option D, (gEq (kn ps) (.str "frame") = .ok (.bl (zbo ps).isSome)) -> fin (zbC [some (.lst (ps.map ptD)), some (kD ps), some (.lst (ls.map ptD)), x3, none]) = .ok (.bl true) := fun x3 ef => by
  unfold zbC; kd_p
  rw [zxT]; kd_p
  rw [zoT (Fl.rev F)]; kd_p
  rw [ztz, ztz, zwf F]; kd_p
  rw [zxS]; kd_p
  unfold zcR; kd_p
  rw [ztz]; kd_p
  rw [ef]
  cases e : zbo ps with
  | some v =>
   obtain ⟨a, b, c, d, e2, ha, hb, hc', hd, g⟩ := zjH (ps := ps) (by rw [e]; simp)
   rw [show (some v).isSome = true from rfl]; kd_p
   rw [show gIx (kD ps) (.int 1) = .ok (zo8 a b c d) from by unfold kD; rw [e2]; rfl]; kd_p
   rw [zjJ F ha hb hc' hd rfl rfl rfl rfl g]; kd_p
  | none =>
   rw [show (none : Option D).isSome = false from rfl]; kd_p
   unfold zcQ; kd_p
   unfold zcP; kd_p
   by_cases hcol : Col ps
   ·have k1 : kn ps = .str "line" := by unfold kn; rw [e]; simp only [if_pos hcol]
    rw [ztz, k1]; kd_p
    rw [show gEq (.str "line") (.str "fan") = .ok (.bl false) from rfl]; kd_p
    unfold zbB; kd_p
    rw [zjc (Fs.of F), decide_eq_true hcol]; kd_p
    rw [zjc (Fs.of F), decide_eq_true hcol, ztz, k1]; kd_p
    rw [show gEq (.str "line") (.str "line") = .ok (.bl true) from rfl]; kd_p
    exact zo0 F e nl hl _ _ _
   ·have k2 : kn ps = .str "fan" := by unfold kn; rw [e]; simp only [if_neg hcol]
    obtain ⟨n, hn, cn⟩ := zoR F e hcol
    have mem : n ∈ zoS ps := xbm.mpr ⟨zaw.mpr ⟨by omega, hn⟩, decide_eq_true cn⟩
    obtain ⟨k, r, ef'⟩ : ∃ k r, zoS ps = k :: r := by
     cases h : zoS ps with
     | nil => rw [h] at mem; cases mem
     | cons k r => exact ⟨k, r, rfl⟩
    have kin : k ∈ zoS ps := by rw [ef']; exact xab
    obtain ⟨k1, k3⟩ := xbm.mp kin
    have k3 := of_decide_eq_true k3
    have kd : kD ps = .tup [.str "fan", .int (k : Int)] := by unfold kD; rw [e]; simp only [if_neg hcol, ef']; rfl
    have Fk := (Fs.of F).sub (xdr ps k)
    rw [ztz, k2]; kd_p
    rw [show gEq (.str "fan") (.str "fan") = .ok (.bl true) from rfl]; kd_p
    rw [kd]
    have w : eOp zb2 (eSl (zac 0) zbT (zbU (eOp gIx (zac 1) (eC (.int 1))))) (eSl (zac 0) (zbU (eOp zb2 (eOp gIx (zac 1) (eC (.int 1))) (eC (.int 1)))) zbT) [some (.lst (ps.map ptD)), some (.tup [.str "fan", .int (k : Int)]), some (.lst (ls.map ptD)), x3, some (.lst (ps.map ptD))] = .ok (.lst ((ps.eraseIdx k).map ptD)) := by
     rw [zeA, LmL.eSl_to _ _ _ (ps.map ptD) k rfl rfl, LmL.eSl_from _ _ _ (ps.map ptD) (k + 1) rfl rfl, ziw, Lk42.gAdd_ll (by rw [xbj, xcs, xae]; omega), <- List.map_take, <- List.map_drop, <- xcn, xcl]
    rw [zeA] at w
    rw [w]; kd_p
    unfold zbB; kd_p
    rw [zjc Fk, decide_eq_true k3]; kd_p
    rw [zjc (Fs.of F), decide_eq_false hcol]
    rw [show gIx (.tup [.str "fan", .int (k : Int)]) (.int 0) = .ok (.str "fan") from rfl]; kd_p
    rw [show gEq (.str "fan") (.str "line") = .ok (.bl false) from rfl]; kd_p
    exact zo0 F e nl hl _ _ _
 have kf : gEq (kn ps) (.str "frame") = .ok (.bl (zbo ps).isSome) := by
  unfold kn
  cases zbo ps with
  | some v => rfl
  | none => simp only; split <;> rfl
 rw [kf]
 cases e : zbo ps with
 | some v =>
  obtain ⟨c, c1, c2⟩ := ztx F (by rw [e]; simp) nl hl hc
  have : (cs.filter fun c => !decide (c ∈ ps)).isEmpty = false := by
   cases h : cs.filter fun c => !decide (c ∈ ps) with
   | cons _ _ => rfl
   | nil => exact absurd (List.filter_eq_nil_iff.mp h c c1) (by rw [decide_eq_false c2]; simp)
  rw [this, show (some v).isSome = true from rfl]; kd_p
  exact zaD _ kf
 | none =>
  have : (cs.filter fun c => !decide (c ∈ ps)) = [] := List.filter_eq_nil_iff.mpr fun c hc1 => by
   obtain ⟨i, j, h1, h2, rfl⟩ := zcK.mp ((hc c).mp hc1)
   have m := zwd F e ((hl _).mp (zaF (ps := ls) (k := i) (by omega))) ((hl _).mp (zaF h2)) (ztt nl h1 h2)
   rw [decide_eq_true m]; simp
  rw [this, show (none : Option D).isSome = false from rfl, show (!([] : List P3).isEmpty) = false from rfl]; kd_p
  exact zaD _ kf
theorem law_ok (ns : List Int) (hl : ns.length <= 63) : zeq [.lst (ns.map .int)] = .ok (.bl true) := by
 rw [zi6]; unfold zep; kd_p
 rw [xae, ziG _ _ (by decide) (by decide)]; kd_p
 obtain ⟨n, hn⟩ : ∃ n : Nat, max 1 (min 3 ((ns.length : Int) / 2)) = (n : Int) := ⟨(max 1 (min 3 ((ns.length : Int) / 2))).toNat, by omega⟩
 have hn4 : n <= 4 := by omega
 rw [hn, zgQ _ (zcM (by omega) (by omega)), xb6]; kd_p
 have turn : ∀ d ∈ zgj 0 n, ∀ U, (∃ a b, U = [some (.lst (ns.map .int)), a, b]) -> ∃ U', (zcq (U.set 1 (some d)) = .ok (.nx U') \/ zcq (U.set 1 (some d)) = .ok (.ct U')) /\ ∃ a b, U' = [some (.lst (ns.map .int)), a, b] := by
  rintro d hd U ⟨x1, x2, rfl⟩
  obtain ⟨j, hj, rfl⟩ := xav.mp hd
  have hj := xaz.mp hj
  rw [Int.zero_add]
  obtain ⟨ps, ep, h1, h2, h3, h4⟩ := zqv (Lk44.cell ns (2 * j)) (Lk44.cell ns (2 * j + 1))
  have F : Fl ps := ⟨h1, h2, h3, h4⟩
  have F5 : Fl (ps.take 5) := ((Fs.of F).sub (List.take_sublist _ _)).fl (by rw [xbj]; omega)
  unfold zcq; kd_p
  rw [zas 2 (j : Int) (by decide) (zal (n := 4) (B.of (k := 12) (by omega)) (by decide))]; kd_p
  rw [show (2 : Int) * (j : Int) + 1 = ((2 * j + 1 : Nat) : Int) by omega, show (2 : Int) * (j : Int) = ((2 * j : Nat) : Int) by omega, Lk44.cell_ok, Lk44.cell_ok]; kd_p
  rw [ep]; kd_p
  unfold ze2; kd_p
  rw [zlr F]; kd_p
  rw [LmL.eSl_to _ _ _ (ps.map ptD) 5 rfl rfl, <- List.map_take]; kd_p
  rw [zlr F5]; kd_p
  exact ⟨_, .inl rfl, _, _, rfl⟩
 obtain ⟨U', e, a, b, rfl⟩ := zk0 (i := 1) (fb := zcq) _ _ turn [some (.lst (ns.map .int)), none, none] ⟨_, _, rfl⟩
 rw [e]; kd_p
 unfold zgd; kd_p
end Lk15
end
section
namespace Kx
open L2 DL Mir
local macro_rules | `(tactic| walk_at "o3") => `(tactic| (first | exact Or.inl rfl | exact Or.inr (Or.inl rfl) | exact Or.inr (Or.inr rfl)))
local macro_rules | `(tactic| walk_at "o2") => `(tactic| (first | exact Or.inl rfl | exact Or.inr rfl))
local macro_rules | `(tactic| walk_at "o4") => `(tactic| (first | exact .inl rfl | exact .inr rfl | assumption))
local macro_rules | `(tactic| walk_at "C") => `(tactic| first | assumption | exact XC.lc (by assumption) _ _ _ _ _ _)
local macro_rules | `(tactic| walk_at "H") => `(tactic| first | assumption | exact XC.calm (by walk_at "C") | rfl)
local macro_rules | `(tactic| walk_at "F") => `(tactic| first | exact znr | exact zsI | exact zxq | exact zve | exact zxs | exact zkf | exact zvh (by walk_at "C") | exact zxr (by walk_at "C") | exact zxE (by walk_at "C") | exact zvS (by walk_at "C"))
local macro_rules | `(tactic| walk_at "E") => `(tactic| first | ((with_reducible refine @zuJ _ _ _ _ _ ?_ ?_ ?_ ?_); rfl; (first | exact Or.inl rfl | exact Or.inr (Or.inl rfl) | exact Or.inr (Or.inr rfl)); decide; decide) | ((with_reducible refine @zaI _ _ _ _ _ _ ?_ ?_ ?_); walk_at "E"; walk_at "E"; rfl) | ((with_reducible refine @zgF _ _ _ _ _)) | ((with_reducible refine @zbS _ _)) | ((with_reducible refine @zuR _ _ _ _ _ _ _ ?_ ?_ ?_); walk_at "E"; walk_at "E"; (intro _ _ ; rfl)) | ((with_reducible refine @zsx _ _ _ _ _ _ _ _ _ _ (by walk_at "C") ?_ ?_ ?_ ?_ ?_ ?_); walk_at "H"; walk_at "E"; rfl; decide; rfl; rfl) | ((with_reducible refine @zu9 _ _ _ _ _ _ _ ?_ ?_); walk_at "E"; walk_at "E") | ((with_reducible refine @zu7 _ _ _ _ _ _ _ ?_ ?_); walk_at "E"; walk_at "E") | ((with_reducible refine @zcd _ _ _ _ _ _ _ _ _ ?_ ?_ ?_ ?_); walk_at "F"; walk_at "E"; walk_at "E"; (first | exact zaz _ (by decide) (by decide) | rfl)) | ((with_reducible refine @zva _ _ _ _ _ _ _ ?_ ?_); walk_at "E"; walk_at "E") | ((with_reducible refine @zvk _ _ _ _ _ _ _ ?_ ?_ ?_ ?_ ?_); walk_at "H"; walk_at "E"; rfl; rfl; rfl) | ((with_reducible refine @zuU _ _ _ _ _ ?_); walk_at "E") | ((with_reducible refine @zuP _ _ _ _ _ _ ?_); walk_at "E") | ((with_reducible refine @zu8 _ _ _ _ _ _ _ ?_ ?_); walk_at "E"; walk_at "E") | ((with_reducible refine @zuK _ _ _ _ _)) | ((with_reducible refine @DF.val _ _ _ _ ?_); walk_at "E") | ((with_reducible refine @zuQ _ _ _ _ _ ?_); walk_at "E") | ((with_reducible refine @zni _ _ _ _ _ _ _ ?_ ?_ ?_ ?_); walk_at "H"; walk_at "E"; rfl; rfl) | ((with_reducible refine @zns _ _ _ _ _ _ _ _ _ ?_ ?_ ?_ ?_); walk_at "F"; walk_at "E"; walk_at "E"; (first | exact zaz _ (by decide) (by decide) | rfl)) | ((with_reducible refine @zxx _ _ _ _ _ _ _ _ _ _ ?_ ?_ ?_); walk_at "E"; walk_at "E"; walk_at "E") | ((with_reducible refine @zsN _ _)) | ((with_reducible refine @zsO _ _ _ _ ?_); walk_at "E") | ((with_reducible refine @zsH _ _ _ _ _ _ _ ?_ ?_); walk_at "E"; walk_at "E") | ((with_reducible refine @zm6 _ _ _ _ _)) | ((with_reducible refine @zft _ _ _ _ _ ?_); walk_at "E") | ((with_reducible refine @zm9 _ _ _ _ _ ?_); walk_at "E") | ((with_reducible refine @zvm _ _ _ _ _ _ _ ?_ ?_ ?_ ?_ ?_); walk_at "H"; walk_at "E"; rfl; rfl; rfl) | ((with_reducible refine @zvd _ _ _ _ _ ?_); walk_at "E") | ((with_reducible refine @DW.dt _ _ _ _ ?_); walk_at "E") | ((with_reducible refine @znj _ _ _ _ _ _ _ _ ?_ ?_ ?_ ?_ ?_); walk_at "H"; walk_at "E"; rfl; rfl; rfl) | ((with_reducible refine @zqi _ _ _ _ _ _ _ ?_ ?_ ?_ ?_ ?_); walk_at "H"; walk_at "E"; rfl; rfl; rfl) | ((with_reducible refine @zm8 _ _ _ _ _ ?_); walk_at "E") | ((with_reducible refine @zj8 _ _ _ _)) | ((with_reducible refine @znb _ _ _ _ _ _ _ _ ?_ ?_); walk_at "E"; walk_at "E") | ((with_reducible refine @zvb _ _ _ _ _ _ _ ?_ ?_); walk_at "E"; walk_at "E") | ((with_reducible refine @zvc _ _ _ _ _ _ _ ?_ ?_); walk_at "E"; walk_at "E") | ((with_reducible refine @zs2 _ _ _ _ _ _ _ _ _ _ ?_ ?_ ?_ ?_ ?_); walk_at "H"; walk_at "E"; rfl; rfl; rfl) | ((with_reducible refine @zna _ _ _ _ _ _ _ _ ?_ ?_); walk_at "E"; walk_at "E") | ((with_reducible refine @de_k _ _ _ _ _ ?_ ?_ ?_); walk_at "H"; rfl; decide) | ((with_reducible refine @zok _ _ _ (by walk_at "C") ?_ ?_ _ _ _ _ _ _ ?_ ?_ ?_ ?_ ?_ ?_ ?_); walk_at "H"; walk_at "H"; walk_at "E"; rfl; rfl; rfl; rfl; rfl; rfl) | ((with_reducible refine @zlY _ _ _ (by walk_at "C") ?_ ?_ _ _ _ _ _ _ ?_ ?_ ?_ ?_ ?_ ?_ ?_); walk_at "H"; walk_at "H"; walk_at "E"; rfl; rfl; rfl; rfl; rfl; rfl) | ((with_reducible refine @zvN _ _ _ _ _ _ _ _ _ ?_); walk_at "E") | ((with_reducible refine @zvq _ _ _ _ _ _ _ ?_ ?_ ?_ ?_ ?_ ?_); walk_at "H"; walk_at "H"; walk_at "E"; rfl; rfl; rfl) | ((with_reducible refine @zvp _ _ _ _ _ _ _ ?_ ?_ ?_ ?_ ?_ ?_); walk_at "H"; walk_at "H"; walk_at "E"; rfl; rfl; rfl) | ((with_reducible refine @zgG _ _ _ _ ?_ ?_); walk_at "E"; (intro _ ; rfl)) | ((with_reducible refine @znc _ _ _ _ _ _ ?_); walk_at "E") | ((refine @zgF _ _ _ _ _)) | ((refine @zcd _ _ _ _ _ _ _ _ _ ?_ ?_ ?_ ?_); walk_at "F"; walk_at "E"; walk_at "E"; (first | exact zaz _ (by decide) (by decide) | rfl)) | ((refine @zm6 _ _ _ _ _)) | ((refine @zft _ _ _ _ _ ?_); walk_at "E") | ((refine @zm9 _ _ _ _ _ ?_); walk_at "E") | ((refine @DW.dt _ _ _ _ ?_); walk_at "E") | ((refine @zm8 _ _ _ _ _ ?_); walk_at "E") | ((refine @znb _ _ _ _ _ _ _ _ ?_ ?_); walk_at "E"; walk_at "E") | ((refine @zna _ _ _ _ _ _ _ _ ?_ ?_); walk_at "E"; walk_at "E") | ((refine @zgG _ _ _ _ ?_ ?_); walk_at "E"; (intro _ ; rfl)))
local macro_rules | `(tactic| walk_at "GS") => `(tactic| first | exact @zr0 _ | ((refine @zpc _ _ _ _ _ ?_ ?_ ?_); ((refine @zmr _ _ _ _ ?_ ?_ ?_ ?_); assumption; rfl; (first | exact Or.inl rfl | exact Or.inr rfl); (first | exact .inl rfl | exact .inr rfl | assumption)); walk_at "GS"; rfl))
local macro_rules | `(tactic| walk_at "G") => `(tactic| first | ((with_reducible refine @zsy _ _ _ _ ?_ ?_ ?_ ?_); assumption; rfl; (first | exact Or.inl rfl | exact Or.inr rfl); (first | exact .inl rfl | exact .inr rfl | assumption)) | ((with_reducible refine @zuT _ _ _ _ _ _ ?_ ?_ ?_ ?_ ?_); walk_at "H"; walk_at "GS"; rfl; rfl; rfl))
local macro_rules | `(tactic| walk_at "s3") => `(tactic| exact @zfy _ _ _ _ _ _ _ _ (by walk_at "E"))
local macro_rules | `(tactic| kst_p) => `(tactic| exact @znk _ _ _ _ _ _ _ _ _ (by assumption) (by walk_at "E") (by rfl) (by walk_at "o2") (by rfl) (by walk_at "o4"))
local macro_rules | `(tactic| walk_at "s9") => `(tactic| exact @zuZ _ _ _ _ _ _ _ _ _ _ (by walk_at "E") (by walk_at "G") (by rfl) (by rfl) (by rfl) (by rfl))
local macro_rules | `(tactic| walk_at "s5") => `(tactic| exact @zuW _ _ _ _ _ _ _ _ _ _ _ (by assumption) (by walk_at "E") (by rfl) (by rfl) (by walk_at "o2") (by rfl) (by walk_at "o4"))
local macro_rules | `(tactic| walk_at "s1") => `(tactic| exact @zqY _ _ _ _ _ _ _ _ _ _ (by assumption) (by walk_at "E") (by rfl) (by rfl) (by walk_at "o2") (by rfl) (by walk_at "o4"))
local macro_rules | `(tactic| walk_at "s7") => `(tactic| exact @zu1 _ _ _ _ _ _ _ _ _ _ _ _ (by walk_at "E") (by rfl) (by rfl) (by walk_at "o3") (by decide) (by decide) (by rfl) (by rfl) (by rfl) (by rfl) (by rfl) (by rfl))
local macro_rules | `(tactic| walk_at "sb") => `(tactic| exact @zvP _ _ _ _ _ _ _ _ _ _ _ _ _ (by walk_at "E") (by walk_at "E") (by rfl) (by rfl) (by walk_at "o3") (by decide) (by decide) (by intro _ ; rfl) (by rfl) (by rfl) (by rfl))
local macro_rules | `(tactic| walk_at "s4") => `(tactic| exact @zsD _ _ _ _ _ _ _ (by walk_at "E") (by rfl))
local macro_rules | `(tactic| kd_p1) => `(tactic| exact (@zam _ _ _ _ _ _ _ (by walk_at "s3")))
local macro_rules | `(tactic| walk_at "I3") => `(tactic| exact (@zcj _ _ _ _ _ _ _ _ _ _ _ _ (by walk_at "E") (by kd_p1) (@zaC _ _ _ _)))
set_option maxHeartbeats 4000000
variable {P : Program} {w : World} {K : xFg} {mg : Str -> Option Value} {base : Heap} {f : Addr} {fd : FuncData} {k : Nat}
local macro_rules | `(tactic| kst_p1) => `(tactic| exact ⟨rfl, rfl, rfl, by decide +kernel, rfl, by decide +kernel, by decide +kernel⟩)
local macro_rules | `(tactic| walk_at "b0") => `(tactic| exact fun _ _ _ _ _ _ us hl => match us, hl with | [], _ => rfl)
local macro_rules | `(tactic| kst_p2) => `(tactic| exact fun _ _ _ _ _ _ us hl => match us, hl with | [_], _ => rfl)
local macro_rules | `(tactic| kcj_m) => `(tactic| exact fun _ _ _ _ _ _ us hl => match us, hl with | [_, _], _ => rfl)
local macro_rules | `(tactic| walk_at "b3") => `(tactic| exact fun _ _ _ _ _ _ us hl => match us, hl with | [_, _, _], _ => rfl)
local macro_rules | `(tactic| walk_at "b4") => `(tactic| exact fun _ _ _ _ _ _ us hl => match us, hl with | [_, _, _, _], _ => rfl)
local macro_rules | `(tactic| walk_at "b5") => `(tactic| exact fun _ _ _ _ _ _ us hl => match us, hl with | [_, _, _, _, _], _ => rfl)
def top (i : Nat) : Stmt := PySem.Challenge.pw_chalkline_k15_whole_new_places_or_none.main.body.getD i (.Pass ⟨0, 0, 0, 0⟩)
theorem zjK (F : FA K mg "_law_mix" (top 28) ["_law_cell", "_law_k"] f fd) : zaA P w K mg base (k + 1) "_law_mix" zaB := F.ok (own' := []) (N := ["_law_cell", "_law_k", "_law_number"]) (by kst_p1) rfl rfl fun _ _ _ _ _ _ C L nd => (@zab _ _ _ _ _ _ _ _ _ _ (@zcj _ _ _ _ _ _ _ _ _ _ _ _ (@zcd _ _ _ _ _ _ _ _ _ (@zve _) (by walk_at "E") (by walk_at "E") (by first | exact zaz _ (by decide) (by decide) | rfl)) (by kd_p1) (@zaC _ _ _ _)) (@zab _ _ _ _ _ _ _ _ _ _ (by kst_p) (@zab _ _ _ _ _ _ _ _ _ _ (by kst_p) (by kd_p1))))
theorem zjL (F : FA K mg "_law_low" (top 29) ["_law_some"] f fd) (q1 : mg "abs" = none) (q0 : mg "tuple" = none) : zaA P w K mg base (k + 1) "_law_low" zaO := F.ok (own' := []) (N := ["_law_some", "_law_by", "_law_number", "_law_rest", "_law_ends"]) (by kst_p1) rfl rfl fun _ _ _ _ _ _ C L nd => (@zab _ _ _ _ _ _ _ _ _ _ (by kst_p) (@zab _ _ _ _ _ _ _ _ _ _ (@zc4 _ _ _ _ _ _ _ _ _ _ _ _ L C.calm (by walk_at "E") (by walk_at "G") (@zab _ _ _ _ _ _ _ _ _ _ (by kst_p) (@zam _ _ _ _ _ _ _ (@zkc _ _ _ _ _ _ _ _ _ L (by walk_at "E") (@zam _ _ _ _ _ _ _ (by walk_at "s9"))))) (by rfl) (by intro _ ; rfl)) (@zab _ _ _ _ _ _ _ _ _ _ (@zdS _ _ _ _ _ _ _ _ _ _ _ _ _ _ _ _ _ _ _ _ 4 C.calm nd (LC.of (k := 1) (NY := ["_law_number", "_law_some", "_law_by", "?_law_number", "_law_rest", "_law_ends"]) (N := ["_law_some", "_law_by", "_law_number", "_law_rest", "_law_ends"]) (sc0 := (zaf (top 29))) rfl rfl (by decide +kernel)) rfl (by walk_at "E") (fun _ _ _ _ nd2 => ⟨(by walk_at "G"), (@zey _ _ _ _ (by walk_at "E")), (by walk_at "E")⟩) (by rfl) (by rfl) (by rfl) (by rfl) (by intro _ ; rfl)) (@zab _ _ _ _ _ _ _ _ _ _ (@zcj _ _ _ _ _ _ _ _ _ _ _ _ (@zcd _ _ _ _ _ _ _ _ _ (@znr _) (by walk_at "E") (@zgF _ _ _ _ _) (by first | exact zaz _ (by decide) (by decide) | rfl)) (@zam _ _ _ _ _ _ _ (by kst_p)) (@zaC _ _ _ _)) (@zam _ _ _ _ _ _ _ (@zfy _ _ _ _ _ _ _ _ (@zpT _ _ _ _ _ _ _ q0 (@zaI _ _ _ _ _ _ (@DF.val _ _ _ _ (@zhl _ _ _ _ _ _ _ _ _ _ _ _ _ _ _ C.calm (LC.of (k := 1) (NY := ["_law_number", "_law_some", "_law_by", "?_law_number", "_law_rest", "_law_ends"]) (N := ["_law_some", "_law_by", "_law_number", "_law_rest", "_law_ends"]) (sc0 := (zaf (top 29))) rfl rfl (by decide +kernel)) rfl (by walk_at "E") (fun _ _ _ _ nd2 => ⟨(by walk_at "G"), (@zc3 _ _), (by walk_at "E")⟩) (by intro _ ; rfl))) (@zbS _ _) (by rfl)) (by rfl) (by rfl) (by rfl))))))))
theorem zje (F : FA K mg "_law_spot" (top 32) ["_law_cell", "_law_k"] f fd) (q2 : mg "range" = none) (q0 : zaA P w K mg base k "_law_mix" zaB) (q1 : zaA P w K mg base k "_law_low" zaO) : zaA P w K mg base (k + 1) "_law_spot" zbm := F.ok (own' := []) (N := ["_law_cell", "_law_k", "_law_way", "_law_some", "_law_j", "_law_number"]) (by kst_p1) rfl rfl fun _ _ _ _ _ _ C L nd => (@zab _ _ _ _ _ _ _ _ _ _ (by kst_p) (@zab _ _ _ _ _ _ _ _ _ _ (by walk_at "s5") (@zab _ _ _ _ _ _ _ _ _ _ (@zc4 _ _ _ _ _ _ _ _ _ _ _ _ L C.calm (by walk_at "E") (by walk_at "G") (@zab _ _ _ _ _ _ _ _ _ _ (by walk_at "s1") (@zam _ _ _ _ _ _ _ (by walk_at "s7"))) (by rfl) (by intro _ ; rfl)) (@zab _ _ _ _ _ _ _ _ _ _ (@zcj _ _ _ _ _ _ _ _ _ _ _ _ (by walk_at "E") (@zam _ _ _ _ _ _ _ (by walk_at "sb")) (@zaC _ _ _ _)) (@zab _ _ _ _ _ _ _ _ _ _ (@zcj _ _ _ _ _ _ _ _ _ _ _ _ (by walk_at "E") (@zab _ _ _ _ _ _ _ _ _ _ (by walk_at "sb") (@zhm _ _ _ _ _ _ _ _ 3 (by rfl) (by rfl) (@zaC _ _ _ _))) (@zhm _ _ _ _ _ _ _ _ 3 (by rfl) (by rfl) (@zaC _ _ _ _))) (by kd_p1))))))
theorem zgv (F : FA K mg "_law_on_two" (top 33) ["_law_one", "_law_two", "_law_s", "_law_t"] f fd) (q1 : mg "zip" = none) (q0 : zaA P w K mg base k "_law_low" zaO) : zaA P w K mg base (k + 1) "_law_on_two" zbu := F.ok (own' := []) (N := ["_law_one", "_law_two", "_law_s", "_law_t", "_law_some"]) (by kst_p1) rfl rfl fun _ _ _ _ _ _ C L nd => (@zab _ _ _ _ _ _ _ _ _ _ (@zdS _ _ _ _ _ _ _ _ _ _ _ _ _ _ _ _ _ _ _ _ 4 C.calm nd (LC.of (k := 2) (NY := ["_law_a", "_law_b", "_law_one", "_law_two", "_law_s", "_law_t", "_law_some"]) (N := ["_law_one", "_law_two", "_law_s", "_law_t", "_law_some"]) (sc0 := (zaf (top 33))) rfl rfl (by decide +kernel)) rfl (by walk_at "E") (fun _ _ _ _ nd2 => ⟨(by walk_at "G"), (@zc3 _ _), (by walk_at "E")⟩) (by rfl) (by rfl) (by rfl) (by rfl) (by intro _ ; rfl)) (@zab _ _ _ _ _ _ _ _ _ _ (by walk_at "I3") (by kd_p1)))
theorem zhP (F : FA K mg "_law_floor" (top 34) ["_law_cell", "_law_how"] f fd) (q3 : mg "range" = none) (q2 : zaA P w K mg base k "_law_mix" zaB) (q1 : zaA P w K mg base k "_law_spot" zbm) (q0 : zaA P w K mg base k "_law_on_two" zbu) : zaA P w K mg base (k + 1) "_law_floor" zbY := F.ok (own' := []) (N := ["_law_cell", "_law_how", "_law_many", "_law_way", "_law_off", "_law_spots", "_law_found", "_law_k", "_law_one"]) (by kst_p1) rfl rfl fun _ _ _ _ _ _ C L nd => (@zab _ _ _ _ _ _ _ _ _ _ (by kst_p) (@zab _ _ _ _ _ _ _ _ _ _ (by kst_p) (@zab _ _ _ _ _ _ _ _ _ _ (by kst_p) (@zab _ _ _ _ _ _ _ _ _ _ (@zdS _ _ _ _ _ _ _ _ _ _ _ _ _ _ _ _ _ _ _ _ 5 C.calm nd (LC.of (k := 1) (NY := ["_law_k", "_law_cell", "_law_how", "_law_many", "_law_way", "_law_off", "_law_spots", "_law_found", "?_law_k", "_law_one"]) (N := ["_law_cell", "_law_how", "_law_many", "_law_way", "_law_off", "_law_spots", "_law_found", "_law_k", "_law_one"]) (sc0 := (zaf (top 34))) rfl rfl (by decide +kernel)) rfl (by walk_at "E") (fun _ _ _ _ nd2 => ⟨(by walk_at "G"), (@zc3 _ _), (by walk_at "E")⟩) (by rfl) (by rfl) (by rfl) (by rfl) (by intro _ ; rfl)) (@zab _ _ _ _ _ _ _ _ _ _ (by walk_at "s5") (@zab _ _ _ _ _ _ _ _ _ _ (@zc4 _ _ _ _ _ _ _ _ _ _ _ _ L C.calm (by walk_at "E") (by walk_at "G") (@zab _ _ _ _ _ _ _ _ _ _ (by walk_at "s1") (@zab _ _ _ _ _ _ _ _ _ _ (@zcj _ _ _ _ _ _ _ _ _ _ _ _ (@DW.dt _ _ _ _ (@znb _ _ _ _ _ _ _ _ (@DW.dt _ _ _ _ (@zna _ _ _ _ _ _ _ _ (@zcd _ _ _ _ _ _ _ _ _ (@znr _) (by walk_at "E") (@zgF _ _ _ _ _) (by first | exact zaz _ (by decide) (by decide) | rfl)) (by walk_at "E"))) (by walk_at "E"))) (@zam _ _ _ _ _ _ _ (by walk_at "s1")) (@zaC _ _ _ _)) (@zam _ _ _ _ _ _ _ (@zcj _ _ _ _ _ _ _ _ _ _ _ _ (by walk_at "E") (@zam _ _ _ _ _ _ _ (by walk_at "s7")) (@zaC _ _ _ _))))) (by rfl) (by intro _ ; rfl)) (@zhm _ _ _ _ _ _ _ _ 6 (by rfl) (by rfl) (by kd_p1))))))))
theorem zgi (F : FA K mg "_law_cell_at" (top 27) ["_law_script", "_law_k"] f fd) (q0 : mg "len" = none) : zaA P w K mg base (k + 1) "_law_cell_at" zaK := F.ok (own' := []) (N := ["_law_script", "_law_k"]) (by kst_p1) rfl rfl fun _ _ _ _ _ _ C L nd => (@zab _ _ _ _ _ _ _ _ _ _ (@zcj _ _ _ _ _ _ _ _ _ _ _ _ (@zcd _ _ _ _ _ _ _ _ _ (@znr _) (by walk_at "E") (by walk_at "E") (by first | exact zaz _ (by decide) (by decide) | rfl)) (by kd_p1) (@zaC _ _ _ _)) (by kd_p1))
theorem zjM (F : FA K mg "is_whole" (top 6) ["thing"] f fd) (q0 : mg "isinstance" = none) (q2 : mg "int" = none) (q1 : mg "bool" = none) : zaA P w K mg base (k + 1) "is_whole" zbL := F.ok (own' := []) (N := ["thing"]) (by kst_p1) rfl rfl fun _ _ _ _ _ _ C L nd => (@zam _ _ _ _ _ _ _ (@zfy _ _ _ _ _ _ _ _ (@znd _ _ _ _ _ _ _ _ (@zkh _ _ _ _ _ _ _ q0 (@zaI _ _ _ _ _ _ (by walk_at "E") (@zaI _ _ _ _ _ _ (@zpL _ _ _ _ _ q2 zvi (by rfl) (by decide) (by decide)) (@zbS _ _) (by rfl)) (by rfl)) (by rfl) (by rfl) (by rfl)) (@znc _ _ _ _ _ _ (@zuO _ _ _ _ _ (@zkh _ _ _ _ _ _ _ q0 (@zaI _ _ _ _ _ _ (by walk_at "E") (@zaI _ _ _ _ _ _ (@zpL _ _ _ _ _ q1 zsK (by rfl) (by decide) (by decide)) (@zbS _ _) (by rfl)) (by rfl)) (by rfl) (by rfl) (by rfl)))))))
theorem zgw (F : FA K mg "makes_place" (top 8) ["three"] f fd) (q1 : mg "all" = none) (q0 : zaA P w K mg base k "is_whole" zbL) : zaA P w K mg base (k + 1) "makes_place" zbh := F.ok (own' := []) (N := ["three"]) (by kst_p1) rfl rfl fun _ _ _ _ _ _ C L nd => (@zam _ _ _ _ _ _ _ (@zfy _ _ _ _ _ _ _ _ (@znd _ _ _ _ _ _ _ _ (@znu _ _ _ _ _ _ _ C.calm q1 (@zaI _ _ _ _ _ _ (@DF.val _ _ _ _ (@zhl _ _ _ _ _ _ _ _ _ _ _ _ _ _ _ C.calm (LC.of (k := 1) (NY := ["thing", "three"]) (N := ["three"]) (sc0 := (zaf (top 8))) rfl rfl (by decide +kernel)) rfl (by walk_at "E") (fun _ _ _ _ nd2 => ⟨(by walk_at "G"), (@zc3 _ _), (by walk_at "E")⟩) (by intro _ ; rfl))) (@zbS _ _) (by rfl)) (by rfl) (by rfl) (by rfl)) (by walk_at "E"))))
theorem zma (F : FA K mg "divisor" (top 10) ["one", "other"] f fd) (q0 : mg "abs" = none) : zaA P w K mg base (k + 1) "divisor" zbW := F.ok (own' := []) (N := ["one", "other", "rest"]) (by kst_p1) rfl rfl fun _ _ _ _ _ _ C L nd => (@zab _ _ _ _ _ _ _ _ _ _ (by kst_p) (@zab _ _ _ _ _ _ _ _ _ _ (by kst_p) (@zab _ _ _ _ _ _ _ _ _ _ (@zkc _ _ _ _ _ _ _ _ _ L (by walk_at "E") (@zab _ _ _ _ _ _ _ _ _ _ (by kst_p) (@zab _ _ _ _ _ _ _ _ _ _ (by kst_p) (@zam _ _ _ _ _ _ _ (by kst_p))))) (by kd_p1))))
theorem zmb (F : FA K mg "in_form" (top 9) ["numbers"] f fd) (q0 : zaA P w K mg base k "divisor" zbW) : zaA P w K mg base (k + 1) "in_form" zbt := F.ok (own' := []) (N := ["numbers", "part", "last"]) (by kst_p1) rfl rfl fun _ _ _ _ _ _ C L nd => (@zab _ _ _ _ _ _ _ _ _ _ (by kst_p) (@zab _ _ _ _ _ _ _ _ _ _ (@znk _ _ _ _ _ _ _ _ 2 nd (@zuR _ _ _ _ _ _ _ (@DF.val _ _ _ _ (@zhl _ _ _ _ _ _ _ _ _ _ _ _ _ _ _ C.calm (LC.of (k := 1) (NY := ["number", "numbers", "part", "last"]) (N := ["numbers", "part", "last"]) (sc0 := (zaf (top 9))) rfl rfl (by decide +kernel)) rfl (by walk_at "E") (fun _ _ _ _ nd2 => ⟨(by walk_at "G"), (@zey _ _ _ _ (by walk_at "E")), (by walk_at "E")⟩) (by intro _ ; rfl))) (by walk_at "E") (by intro _ _ ; rfl)) (by rfl) (by walk_at "o2") (by rfl) (by walk_at "o4")) (@zab _ _ _ _ _ _ _ _ _ _ (@zcj _ _ _ _ _ _ _ _ _ _ _ _ (@zcd _ _ _ _ _ _ _ _ _ (@znr _) (by walk_at "E") (@zgF _ _ _ _ _) (by first | exact zaz _ (by decide) (by decide) | rfl)) (@zam _ _ _ _ _ _ _ (by kst_p)) (@zaC _ _ _ _)) (by kd_p1))))
theorem zjN (F : FA K mg "is_place" (top 7) ["thing"] f fd) (q1 : mg "isinstance" = none) (q3 : mg "tuple" = none) (q4 : mg "len" = none) (q0 : zaA P w K mg base k "makes_place" zbh) (q2 : zaA P w K mg base k "in_form" zbt) : zaA P w K mg base (k + 1) "is_place" zbM := F.ok (own' := []) (N := ["thing"]) (by kst_p1) rfl rfl fun _ _ _ _ _ _ C L nd => (@zab _ _ _ _ _ _ _ _ _ _ (@zcj _ _ _ _ _ _ _ _ _ _ _ _ (@DW.dt _ _ _ _ (@znb _ _ _ _ _ _ _ _ (@zft _ _ _ _ _ (@zgG _ _ _ _ (@zkh _ _ _ _ _ _ _ q1 (@zaI _ _ _ _ _ _ (by walk_at "E") (@zaI _ _ _ _ _ _ (@zpL _ _ _ _ _ q3 zkg (by rfl) (by decide) (by decide)) (@zbS _ _) (by rfl)) (by rfl)) (by rfl) (by rfl) (by rfl)) (by intro _ ; rfl))) (by walk_at "E"))) (by kd_p1) (@zaC _ _ _ _)) (@zab _ _ _ _ _ _ _ _ _ _ (by walk_at "I3") (by kd_p1)))
theorem zjO (F : FA K mg "is_floor" (top 19) ["thing"] f fd) (q1 : mg "isinstance" = none) (q3 : mg "list" = none) (q4 : mg "len" = none) (q5 : mg "all" = none) (q6 : mg "set" = none) (q0 : ∃ u v, mg "MOST_PEGS" = some u /\ RelV v u /\ ∀ G, Rep K mg G zcC v) (q2 : zaA P w K mg base k "is_place" zbM) : zaA P w K mg base (k + 1) "is_floor" zcm := F.ok (own' := []) (N := ["thing"]) (by kst_p1) rfl rfl fun _ _ _ _ _ _ C L nd => (@zab _ _ _ _ _ _ _ _ _ _ (@zcj _ _ _ _ _ _ _ _ _ _ _ _ (@DW.dt _ _ _ _ (@znb _ _ _ _ _ _ _ _ (@zft _ _ _ _ _ (@zgG _ _ _ _ (@zkh _ _ _ _ _ _ _ q1 (@zaI _ _ _ _ _ _ (by walk_at "E") (@zaI _ _ _ _ _ _ (@zpL _ _ _ _ _ q3 zsL (by rfl) (by decide) (by decide)) (@zbS _ _) (by rfl)) (by rfl)) (by rfl) (by rfl) (by rfl)) (by intro _ ; rfl))) (@zm9 _ _ _ _ _ (@zft _ _ _ _ _ (@znt _ _ _ _ _ _ _ _ _ _ _ _ _ (@zsI _) (@zsI _) (@zgF _ _ _ _ _) (by walk_at "E") (by walk_at "E") (by with_unfolding_all rfl)))))) (by kd_p1) (@zaC _ _ _ _)) (@zab _ _ _ _ _ _ _ _ _ _ (@zcj _ _ _ _ _ _ _ _ _ _ _ _ (@zft _ _ _ _ _ (@zgG _ _ _ _ (@znu _ _ _ _ _ _ _ C.calm q5 (@zaI _ _ _ _ _ _ (@DF.val _ _ _ _ (@zhl _ _ _ _ _ _ _ _ _ _ _ _ _ _ _ C.calm (LC.of (k := 1) (NY := ["member", "thing"]) (N := ["thing"]) (sc0 := (zaf (top 19))) rfl rfl (by decide +kernel)) rfl (by walk_at "E") (fun _ _ _ _ nd2 => ⟨(by walk_at "G"), (@zc3 _ _), (by walk_at "E")⟩) (by intro _ ; rfl))) (@zbS _ _) (by rfl)) (by rfl) (by rfl) (by rfl)) (by intro _ ; rfl))) (by kd_p1) (@zaC _ _ _ _)) (by kd_p1)))
theorem zmc (F : FA K mg "look_at" (top 20) ["floor"] f fd) (q0 : zaA P w K mg base k "is_floor" zcm) : zaA P w K mg base (k + 1) "look_at" zc9 := F.ok (own' := []) (N := ["floor"]) (by kst_p1) rfl rfl fun _ _ _ _ _ _ C L nd => (@zam _ _ _ _ _ _ _ (@zcj _ _ _ _ _ _ _ _ _ _ _ _ (by walk_at "E") (@zam _ _ _ _ _ _ _ (@zqX _ _ _ _ _ _)) (@zaC _ _ _ _)))
theorem zqD (F : FA K mg "cross" (top 13) ["one", "other"] f fd) : zaA P w K mg base (k + 1) "cross" zeF := F.ok (own' := []) (N := ["one", "other", "x", "y", "z"]) (by kst_p1) rfl rfl fun _ _ _ _ _ _ C L nd => (@zab _ _ _ _ _ _ _ _ _ _ (by kst_p) (@zab _ _ _ _ _ _ _ _ _ _ (by kst_p) (@zab _ _ _ _ _ _ _ _ _ _ (by kst_p) (by kd_p1))))
theorem zgx (F : FA K mg "between_two" (top 15) ["one", "other"] f fd) (q0 : zaA P w K mg base k "in_form" zbt) (q1 : zaA P w K mg base k "cross" zeF) : zaA P w K mg base (k + 1) "between_two" zaN := F.ok (own' := []) (N := ["one", "other"]) (by kst_p1) rfl rfl fun _ _ _ _ _ _ C L nd => (@zab _ _ _ _ _ _ _ _ _ _ (@zcj _ _ _ _ _ _ _ _ _ _ _ _ (by walk_at "E") (@zam _ _ _ _ _ _ _ (@zqX _ _ _ _ _ _)) (@zaC _ _ _ _)) (by kd_p1))
theorem zmd (F : FA K mg "through" (top 14) ["one", "other"] f fd) (q0 : zaA P w K mg base k "between_two" zaN) : zaA P w K mg base (k + 1) "through" zao := F.ok (own' := []) (N := ["one", "other"]) (by kst_p1) rfl rfl fun _ _ _ _ _ _ C L nd => (by kd_p1)
theorem zwi (F : FA K mg "dot" (top 12) ["one", "other"] f fd) : zaA P w K mg base (k + 1) "dot" zl1 := F.ok (own' := []) (N := ["one", "other"]) (by kst_p1) rfl rfl fun _ _ _ _ _ _ C L nd => (by kd_p1)
theorem ztB (F : FA K mg "lies" (top 11) ["place", "line"] f fd) (q0 : zaA P w K mg base k "dot" zl1) : zaA P w K mg base (k + 1) "lies" za6 := F.ok (own' := []) (N := ["place", "line"]) (by kst_p1) rfl rfl fun _ _ _ _ _ _ C L nd => (by kd_p1)
theorem zjf (F : FA K mg "fourth_of" (top 22) ["floor", "a", "b", "c"] f fd) (q1 : mg "range" = none) (q3 : mg "len" = none) (q4 : mg "any" = none) (q0 : zaA P w K mg base k "through" zao) (q2 : zaA P w K mg base k "lies" za6) : zaA P w K mg base (k + 1) "fourth_of" zbX := F.ok (own' := []) (N := ["floor", "a", "b", "c", "sides", "d"]) (by kst_p1) rfl rfl fun _ _ _ _ _ _ C L nd => (@zab _ _ _ _ _ _ _ _ _ _ (by kst_p) (@zab _ _ _ _ _ _ _ _ _ _ (@zc4 _ _ _ _ _ _ _ _ _ _ _ _ L C.calm (by walk_at "E") (by walk_at "G") (@zam _ _ _ _ _ _ _ (@zcj _ _ _ _ _ _ _ _ _ _ _ _ (@zft _ _ _ _ _ (@zgG _ _ _ _ (@zvt _ _ _ _ _ _ _ C.calm q4 (@zaI _ _ _ _ _ _ (@DF.val _ _ _ _ (@zhl _ _ _ _ _ _ _ _ _ _ _ _ _ _ _ C.calm (LC.of (k := 1) (NY := ["side", "floor", "a", "b", "c", "sides", "d"]) (N := ["floor", "a", "b", "c", "sides", "d"]) (sc0 := (zaf (top 22))) rfl rfl (by decide +kernel)) rfl (by walk_at "E") (fun _ _ _ _ nd2 => ⟨(by walk_at "G"), (@zc3 _ _), (by walk_at "E")⟩) (by intro _ ; rfl))) (@zbS _ _) (by rfl)) (by rfl) (by rfl) (by rfl)) (by intro _ ; rfl))) (by kd_p1) (@zaC _ _ _ _))) (by rfl) (by intro _ ; rfl)) (by kd_p1)))
theorem zjP (F : FA K mg "frame_of" (top 21) ["floor"] f fd) (q3 : mg "range" = none) (q5 : mg "len" = none) (q1 : zaA P w K mg base k "look_at" zc9) (q2 : zaA P w K mg base k "through" zao) (q4 : zaA P w K mg base k "lies" za6) (q0 : zaA P w K mg base k "fourth_of" zbX) : zaA P w K mg base (k + 1) "frame_of" zbl := F.ok (own' := []) (N := ["floor", "a", "b", "side", "c", "d"]) (by kst_p1) rfl rfl fun _ _ _ _ _ _ C L nd => (@zab _ _ _ _ _ _ _ _ _ _ (by walk_at "s4") (@zab _ _ _ _ _ _ _ _ _ _ (@zc4 _ _ _ _ _ _ _ _ _ _ _ _ L C.calm (by walk_at "E") (by walk_at "G") (@zam _ _ _ _ _ _ _ (@zc4 _ _ _ _ _ _ _ _ _ _ _ _ L C.calm (by walk_at "E") (by walk_at "G") (@zab _ _ _ _ _ _ _ _ _ _ (by kst_p) (@zam _ _ _ _ _ _ _ (@zc4 _ _ _ _ _ _ _ _ _ _ _ _ L C.calm (by walk_at "E") (by walk_at "G") (@zam _ _ _ _ _ _ _ (@zcj _ _ _ _ _ _ _ _ _ _ _ _ (by walk_at "E") (@zab _ _ _ _ _ _ _ _ _ _ (by kst_p) (@zam _ _ _ _ _ _ _ (@zcj _ _ _ _ _ _ _ _ _ _ _ _ (@zcd _ _ _ _ _ _ _ _ _ (@zkf _) (by walk_at "E") (@zj8 _ _ _ _) (by first | exact zaz _ (by decide) (by decide) | rfl)) (by kd_p1) (@zaC _ _ _ _)))) (@zaC _ _ _ _))) (by rfl) (by intro _ ; rfl)))) (by rfl) (by intro _ ; rfl))) (by rfl) (by intro _ ; rfl)) (by kd_p1)))
theorem zo1 (F : FA K mg "on_one" (top 16) ["places"] f fd) (q2 : mg "len" = none) (q3 : mg "all" = none) (q0 : zaA P w K mg base k "through" zao) (q1 : zaA P w K mg base k "lies" za6) : zaA P w K mg base (k + 1) "on_one" zaY := F.ok (own' := []) (N := ["places", "others", "line"]) (by kst_p1) rfl rfl fun _ _ _ _ _ _ C L nd => (@zab _ _ _ _ _ _ _ _ _ _ (@zdS _ _ _ _ _ _ _ _ _ _ _ _ _ _ _ _ _ _ _ _ 1 C.calm nd (LC.of (k := 1) (NY := ["place", "places", "others", "line"]) (N := ["places", "others", "line"]) (sc0 := (zaf (top 16))) rfl rfl (by decide +kernel)) rfl (by walk_at "E") (fun _ _ _ _ nd2 => ⟨(by walk_at "G"), (@zey _ _ _ _ (by walk_at "E")), (by walk_at "E")⟩) (by rfl) (by rfl) (by rfl) (by rfl) (by intro _ ; rfl)) (@zab _ _ _ _ _ _ _ _ _ _ (by walk_at "I3") (@zab _ _ _ _ _ _ _ _ _ _ (by kst_p) (@zam _ _ _ _ _ _ _ (@zfy _ _ _ _ _ _ _ _ (@znu _ _ _ _ _ _ _ C.calm q3 (@zaI _ _ _ _ _ _ (@DF.val _ _ _ _ (@zhl _ _ _ _ _ _ _ _ _ _ _ _ _ _ _ C.calm (LC.of (k := 1) (NY := ["place", "places", "others", "line"]) (N := ["places", "others", "line"]) (sc0 := (zaf (top 16))) rfl rfl (by decide +kernel)) rfl (by walk_at "E") (fun _ _ _ _ nd2 => ⟨(by walk_at "G"), (@zc3 _ _), (by walk_at "E")⟩) (by intro _ ; rfl))) (@zbS _ _) (by rfl)) (by rfl) (by rfl) (by rfl)))))))
theorem zme (F : FA K mg "odd_peg" (top 24) ["floor"] f fd) (q2 : mg "min" = none) (q1 : mg "range" = none) (q3 : mg "len" = none) (q0 : zaA P w K mg base k "on_one" zaY) : zaA P w K mg base (k + 1) "odd_peg" zda := F.ok (own' := []) (N := ["floor"]) (by kst_p1) rfl rfl fun _ _ _ _ _ _ C L nd => (@zam _ _ _ _ _ _ _ (@zfy _ _ _ _ _ _ _ _ (@zs4 _ _ _ _ _ _ _ C.calm q2 (@zaI _ _ _ _ _ _ (@DF.val _ _ _ _ (@zhl _ _ _ _ _ _ _ _ _ _ _ _ _ _ _ C.calm (LC.of (k := 1) (NY := ["k", "floor"]) (N := ["floor"]) (sc0 := (zaf (top 24))) rfl rfl (by decide +kernel)) rfl (by walk_at "E") (fun _ _ _ _ nd2 => ⟨(by walk_at "G"), (@zey _ _ _ _ (by walk_at "E")), (by walk_at "E")⟩) (by intro _ ; rfl))) (@zbS _ _) (by rfl)) (by rfl) (by rfl) (by rfl))))
theorem zmf (F : FA K mg "kind_of" (top 23) ["floor"] f fd) (q0 : zaA P w K mg base k "frame_of" zbl) (q2 : zaA P w K mg base k "on_one" zaY) (q1 : zaA P w K mg base k "odd_peg" zda) : zaA P w K mg base (k + 1) "kind_of" zcn := F.ok (own' := []) (N := ["floor", "frame"]) (by kst_p1) rfl rfl fun _ _ _ _ _ _ C L nd => (@zab _ _ _ _ _ _ _ _ _ _ (by kst_p) (@zab _ _ _ _ _ _ _ _ _ _ (@zcj _ _ _ _ _ _ _ _ _ _ _ _ (@zcd _ _ _ _ _ _ _ _ _ (@zkf _) (by walk_at "E") (@zj8 _ _ _ _) (by first | exact zaz _ (by decide) (by decide) | rfl)) (by kd_p1) (@zaC _ _ _ _)) (@zab _ _ _ _ _ _ _ _ _ _ (by walk_at "I3") (by kd_p1))))
theorem zhQ (F : FA K mg "_law_cross" (top 30) ["_law_one", "_law_two"] f fd) : zaA P w K mg base (k + 1) "_law_cross" zaZ := F.ok (own' := []) (N := ["_law_one", "_law_two", "_law_x", "_law_y"]) (by kst_p1) rfl rfl fun _ _ _ _ _ _ C L nd => (@zab _ _ _ _ _ _ _ _ _ _ (by kst_p) (@zab _ _ _ _ _ _ _ _ _ _ (by kst_p) (by kd_p1)))
theorem zhR (F : FA K mg "_law_meets" (top 35) ["_law_some"] f fd) (q2 : mg "range" = none) (q4 : mg "len" = none) (q3 : mg "list" = none) (q0 : zaA P w K mg base k "_law_cross" zaZ) (q1 : zaA P w K mg base k "_law_low" zaO) : zaA P w K mg base (k + 1) "_law_meets" zbn := F.ok (own' := []) (N := ["_law_some", "_law_found", "_law_k", "_law_other", "_law_numbers"]) (by kst_p1) rfl rfl fun _ _ _ _ _ _ C L nd => (@zqo _ _ _ _ 1 _ _ _ _ _ _ nd (@zlg _ _ _ _ _ _ _ (@zrP _ _ _ _ _ _ _ _ _ _ _ L C.calm (by walk_at "E") (by walk_at "G") (@zhB _ _ _ _ _ (@zrP _ _ _ _ _ _ _ _ _ _ _ L C.calm (by walk_at "E") (by walk_at "G") (@zlg _ _ _ _ _ _ _ (@zv7 _ _ _ _ 4 _ _ _ _ nd (by walk_at "E") (by rfl) (by rfl) (by walk_at "o2") (by rfl) (by walk_at "o4")) (@zhB _ _ _ _ _ (@zxK _ _ _ _ _ _ _ _ _ _ (by walk_at "E") (@zhB _ _ _ _ _ (@zv8 _ _ _ _ _ 1 _ _ _ _ _ _ C (by walk_at "E") (@zuK _ _ _ _ _) (by rfl) (by walk_at "o3") (by decide) (by decide) (by rfl))) (@ztf _ _ _)))) (by rfl) (by intro _ ; rfl))) (by rfl) (by intro _ ; rfl)) (@zhB _ _ _ _ _ (@zti _ _ _ _ _ 1 _ _ C.calm q3 (by rfl) (by rfl) (by walk_at "o3") (by decide) (by decide) (by rfl) (by rfl)))) (by rfl) (by walk_at "o2") (by rfl) (by walk_at "o4"))
theorem zjQ (F : FA K mg "_law_det" (top 31) ["_law_one", "_law_two", "_law_three"] f fd) (q0 : zaA P w K mg base k "_law_cross" zaZ) : zaA P w K mg base (k + 1) "_law_det" zde := F.ok (own' := []) (N := ["_law_one", "_law_two", "_law_three", "_law_some"]) (by kst_p1) rfl rfl fun _ _ _ _ _ _ C L nd => (@zab _ _ _ _ _ _ _ _ _ _ (by kst_p) (by kd_p1))
theorem zjg (F : FA K mg "_law_flat" (top 36) ["_law_places"] f fd) (q0 : zaA P w K mg base k "_law_det" zde) : zaA P w K mg base (k + 1) "_law_flat" zbb := F.ok (own' := []) (N := ["_law_places", "_law_place"]) (by kst_p1) rfl rfl fun _ _ _ _ _ _ C L nd => (@zab _ _ _ _ _ _ _ _ _ _ (@zc4 _ _ _ _ _ _ _ _ _ _ _ _ L C.calm (by walk_at "E") (by walk_at "G") (@zam _ _ _ _ _ _ _ (by walk_at "I3")) (by rfl) (by intro _ ; rfl)) (by kd_p1))
theorem ze8 (F : FA K mg "_law_is_frame" (top 37) ["_law_floor_here", "_law_four"] f fd) (q2 : mg "len" = none) (q1 : mg "range" = none) (q0 : zaA P w K mg base k "_law_flat" zbb) : zaA P w K mg base (k + 1) "_law_is_frame" zaE := F.ok (own' := []) (N := ["_law_floor_here", "_law_four", "_law_some"]) (by kst_p1) rfl rfl fun _ _ _ _ _ _ C L nd => (@zab _ _ _ _ _ _ _ _ _ _ (@zqY _ _ _ _ _ _ _ _ _ 2 nd (@DF.val _ _ _ _ (@zhl _ _ _ _ _ _ _ _ _ _ _ _ _ _ _ C.calm (LC.of (k := 1) (NY := ["_law_peg", "_law_floor_here", "_law_four", "_law_some"]) (N := ["_law_floor_here", "_law_four", "_law_some"]) (sc0 := (zaf (top 37))) rfl rfl (by decide +kernel)) rfl (by walk_at "E") (fun _ _ _ _ nd2 => ⟨(by walk_at "G"), (@zc3 _ _), (by walk_at "E")⟩) (by intro _ ; rfl))) (by rfl) (by rfl) (by walk_at "o2") (by rfl) (by walk_at "o4")) (@zam _ _ _ _ _ _ _ (@zfy _ _ _ _ _ _ _ _ (@znd _ _ _ _ _ _ _ _ (by walk_at "E") (@znc _ _ _ _ _ _ (@zns _ _ _ _ _ _ _ _ _ (@zvh _ _ _ C) (@DF.val _ _ _ _ (@zhl _ _ _ _ _ _ _ _ _ _ _ _ _ _ _ C.calm (LC.of (k := 1) (NY := ["_law_k", "_law_floor_here", "_law_four", "_law_some"]) (N := ["_law_floor_here", "_law_four", "_law_some"]) (sc0 := (zaf (top 37))) rfl rfl (by decide +kernel)) rfl (by walk_at "E") (fun _ _ _ _ nd2 => ⟨(by walk_at "G"), (@zey _ _ _ _ (by walk_at "E")), (by walk_at "E")⟩) (by intro _ ; rfl))) (by walk_at "E") (by first | exact zaz _ (by decide) (by decide) | rfl)))))))
theorem zqE (F : FA K mg "comes" (top 25) ["floor"] f fd) {q1 : Addr} (q2 : mg "Endless" = some (.ref q1)) (q3 : PySem.W.excIn K q1 [.type "ValueError", .type "Exception", .type "BaseException", .type "object"] "ValueError.__new__" = true) (q4 : zo3 K mg "Endless" q1) (q7 : mg "range" = none) (q8 : mg "len" = none) (q6 : mg "sorted" = none) (q9 : mg "set" = none) (q0 : zaA P w K mg base k "frame_of" zbl) (q5 : zaA P w K mg base k "through" zao) : zaA P w K mg base (k + 1) "comes" zco := F.ok (own' := []) (N := ["floor", "lines", "j", "i"]) (by kst_p1) rfl rfl fun _ _ _ _ _ _ C L nd => (@zab _ _ _ _ _ _ _ _ _ _ (@zcj _ _ _ _ _ _ _ _ _ _ _ _ (@zcd _ _ _ _ _ _ _ _ _ (@zkf _) (by walk_at "E") (@zj8 _ _ _ _) (by first | exact zaz _ (by decide) (by decide) | rfl)) (@zam _ _ _ _ _ _ _ (@znA _ _ _ _ _ _ _ _ _ _ _ _ _ _ _ _ _ _ _ _ _ _ _ _ _ _ q3 q4 (by rfl) (by decide))) (@zaC _ _ _ _)) (@zab _ _ _ _ _ _ _ _ _ _ (by walk_at "s5") (@zab _ _ _ _ _ _ _ _ _ _ (@zc4 _ _ _ _ _ _ _ _ _ _ _ _ L C.calm (by walk_at "E") (by walk_at "G") (@zam _ _ _ _ _ _ _ (@zc4 _ _ _ _ _ _ _ _ _ _ _ _ L C.calm (by walk_at "E") (by walk_at "G") (@zam _ _ _ _ _ _ _ (by walk_at "s7")) (by rfl) (by intro _ ; rfl))) (by rfl) (by intro _ ; rfl)) (@zhm _ _ _ _ _ _ _ _ 1 (by rfl) (by rfl) (by kd_p1)))))
theorem zhS (F : FA K mg "_law_right" (top 38) ["_law_floor_here"] f fd) (q4 : mg "sorted" = none) (q3 : zaA P w K mg base k "kind_of" zcn) (q1 : zaA P w K mg base k "_law_meets" zbn) (q0 : zaA P w K mg base k "_law_is_frame" zaE) (q2 : zaA P w K mg base k "_law_flat" zbb) (q5 : zaA P w K mg base k "comes" zco) : zaA P w K mg base (k + 1) "_law_right" zaR := F.ok (own' := []) (N := ["_law_floor_here", "_law_told", "_law_lines", "_law_more", "_law_rest"]) (by kst_p1) rfl rfl fun _ _ _ _ _ _ C L nd => (@zab _ _ _ _ _ _ _ _ _ _ (by kst_p) (@zab _ _ _ _ _ _ _ _ _ _ (by kst_p) (@zab _ _ _ _ _ _ _ _ _ _ (@zdS _ _ _ _ _ _ _ _ _ _ _ _ _ _ _ _ _ _ _ _ 3 C.calm nd (LC.of (k := 1) (NY := ["_law_place", "_law_floor_here", "_law_told", "_law_lines", "_law_more", "_law_rest"]) (N := ["_law_floor_here", "_law_told", "_law_lines", "_law_more", "_law_rest"]) (sc0 := (zaf (top 38))) rfl rfl (by decide +kernel)) rfl (by walk_at "E") (fun _ _ _ _ nd2 => ⟨(by walk_at "G"), (@zey _ _ _ _ (by walk_at "E")), (by walk_at "E")⟩) (by rfl) (by rfl) (by rfl) (by rfl) (by intro _ ; rfl)) (@zab _ _ _ _ _ _ _ _ _ _ (by walk_at "I3") (@zab _ _ _ _ _ _ _ _ _ _ (by walk_at "I3") (@zab _ _ _ _ _ _ _ _ _ _ (by walk_at "I3") (@zab _ _ _ _ _ _ _ _ _ _ (by kst_p) (@zab _ _ _ _ _ _ _ _ _ _ (@zcj _ _ _ _ _ _ _ _ _ _ _ _ (by walk_at "E") (@zam _ _ _ _ _ _ _ (by kst_p)) (@zaC _ _ _ _)) (@zab _ _ _ _ _ _ _ _ _ _ (by walk_at "I3") (by kd_p1))))))))))
abbrev zhT : Stmt := top 39
theorem zrU : zdK ["_law_script", "_law_k", "_law_floor_here"] ["_law_script"] (zaf zhT) := by kst_p1
theorem zwj (F : Fun K "law" "law" zhT f fd) (q3 : mg "range" = none) (q4 : mg "max" = none) (q5 : mg "min" = none) (q6 : mg "len" = none) (q1 : zaA P w K mg base k "_law_floor" zbY) (q0 : zaA P w K mg base k "_law_cell_at" zaK) (q2 : zaA P w K mg base k "_law_right" zaR) : zg3 P w K mg base (CXe P w) (k + 1) f fd ["_law_script"] (spD K mg zeq) := by
 refine zsP (own' := []) F zrU rfl rfl fun X E hX C L => ?_
 obtain ⟨cdv, A, outer, s, H, rfl⟩ := hX
 have nd := zrU.nd
 exact (@zab _ _ _ _ _ _ _ _ _ _ (@zc4 _ _ _ _ _ _ _ _ _ _ _ _ L C.calm (by walk_at "E") (by walk_at "G") (@zab _ _ _ _ _ _ _ _ _ _ (by kst_p) (@zam _ _ _ _ _ _ _ (by walk_at "I3"))) (by rfl) (by intro _ ; rfl)) (by kd_p1))
set_option maxHeartbeats 4000000 in
theorem all_mk {l : PySem.W.OpenLaw} {w : World} {K : xFg} {h : Heap} {mg : Str -> Option Value} {fa f30 : Addr} (X : K.In h) (G : h.Ns mainGlobals mg) (hfa : mg "law" = some (.ref fa))
  {od30 an30 : Option Addr} {sl30 : Array (Option Value)} {oc30 kV30 dc30 pm30 cd30 ct30 : Value}
  {C_ChalkError C_Same C_NoFloor C_Endless : Addr}
  (d0 : FD K "_law_mix" (top 28))
  (d1 : FD K "_law_low" (top 29))
  (d2 : FD K "_law_spot" (top 32))
  (d3 : FD K "_law_on_two" (top 33))
  (d4 : FD K "_law_floor" (top 34))
  (d5 : FD K "_law_cell_at" (top 27))
  (d6 : FD K "is_whole" (top 6))
  (d7 : FD K "makes_place" (top 8))
  (d8 : FD K "divisor" (top 10))
  (d9 : FD K "in_form" (top 9))
  (d10 : FD K "is_place" (top 7))
  (d11 : FD K "is_floor" (top 19))
  (d12 : FD K "look_at" (top 20))
  (d13 : FD K "cross" (top 13))
  (d14 : FD K "between_two" (top 15))
  (d15 : FD K "through" (top 14))
  (d16 : FD K "dot" (top 12))
  (d17 : FD K "lies" (top 11))
  (d18 : FD K "fourth_of" (top 22))
  (d19 : FD K "frame_of" (top 21))
  (d20 : FD K "on_one" (top 16))
  (d21 : FD K "odd_peg" (top 24))
  (d22 : FD K "kind_of" (top 23))
  (d23 : FD K "_law_cross" (top 30))
  (d24 : FD K "_law_meets" (top 35))
  (d25 : FD K "_law_det" (top 31))
  (d26 : FD K "_law_flat" (top 36))
  (d27 : FD K "_law_is_frame" (top 37))
  (d28 : FD K "comes" (top 25))
  (d29 : FD K "_law_right" (top 38))
  (a30 : PySem.W.nsIn K mainGlobals "law" = some (some (.ref f30))) (l30 : K.lookup f30 = some ⟨oc30, od30, .func (PySem.W.fnOf "law" "law" (zcY zhT) (zbx zhT) (zaf zhT) .none kV30 dc30 pm30 an30 cd30 ct30), sl30⟩) (c30 : PySem.W.codeIn K cd30 "law" = true) (k30 : PySem.W.keepIn K (.ref f30) = true)
  (z_abs : PySem.W.nsIn K mainGlobals "abs" = some none)
  (z_tuple : PySem.W.nsIn K mainGlobals "tuple" = some none)
  (z_range : PySem.W.nsIn K mainGlobals "range" = some none)
  (z_zip : PySem.W.nsIn K mainGlobals "zip" = some none)
  (z_len : PySem.W.nsIn K mainGlobals "len" = some none)
  (z_isinstance : PySem.W.nsIn K mainGlobals "isinstance" = some none)
  (z_int : PySem.W.nsIn K mainGlobals "int" = some none)
  (z_bool : PySem.W.nsIn K mainGlobals "bool" = some none)
  (z_all : PySem.W.nsIn K mainGlobals "all" = some none)
  (z_list : PySem.W.nsIn K mainGlobals "list" = some none)
  (z_set : PySem.W.nsIn K mainGlobals "set" = some none)
  (z_any : PySem.W.nsIn K mainGlobals "any" = some none)
  (z_min : PySem.W.nsIn K mainGlobals "min" = some none)
  (z_sorted : PySem.W.nsIn K mainGlobals "sorted" = some none)
  (z_max : PySem.W.nsIn K mainGlobals "max" = some none)
  (e_ChalkError : PySem.W.nsIn K mainGlobals "ChalkError" = some (some (.ref C_ChalkError)))
  (e_Same : PySem.W.nsIn K mainGlobals "Same" = some (some (.ref C_Same)))
  (e_NoFloor : PySem.W.nsIn K mainGlobals "NoFloor" = some (some (.ref C_NoFloor)))
  (e_Endless : PySem.W.nsIn K mainGlobals "Endless" = some (some (.ref C_Endless)))
  (y_Endless : PySem.W.excIn K C_Endless [.type "ValueError", .type "Exception", .type "BaseException", .type "object"] "ValueError.__new__" = true)
  (xga_Endless : PySem.W.findIn K (.ref C_Endless) "__getattribute__" = some (some (.builtin "BaseException.__getattribute__")))
  (xgh_Endless : PySem.W.findIn K (.ref C_Endless) "__getattr__" = some none)
  (xbs_Endless : PySem.W.mroIn K C_Endless (.type "BaseException") = some true)
  (xob_Endless : PySem.W.mroIn K C_Endless (.type "object") = some true)
  (xca_Endless : PySem.W.findIn K (.ref C_Endless) "__class__" = some (some (.builtin "object.__class__")))
  (xvv_Endless : PySem.W.kitOne K (.ref C_Endless) (.type "ValueError") = some true)
  (t_Endless_ChalkError : PySem.W.kitOne K (.ref C_Endless) (.ref C_ChalkError) = some true)
  (u_Endless_ChalkError : PySem.W.exmOne K (.ref C_Endless) (.ref C_ChalkError) = some true)
  (v_NoPlace : PySem.W.nsIn K mainGlobals "NoPlace" = some none)
  (t_Endless_Same : PySem.W.kitOne K (.ref C_Endless) (.ref C_Same) = some false)
  (t_Endless_NoFloor : PySem.W.kitOne K (.ref C_Endless) (.ref C_NoFloor) = some false)
  (t_Endless_Endless : PySem.W.kitOne K (.ref C_Endless) (.ref C_Endless) = some true)
  (u_Endless_Endless : PySem.W.exmOne K (.ref C_Endless) (.ref C_Endless) = some true)
  (v_NoDeed : PySem.W.nsIn K mainGlobals "NoDeed" = some none)
  (v_NoText : PySem.W.nsIn K mainGlobals "NoText" = some none)
  (v_NoName : PySem.W.nsIn K mainGlobals "NoName" = some none)
  (v_TooMany : PySem.W.nsIn K mainGlobals "TooMany" = some none)
  (v_NoChange : PySem.W.nsIn K mainGlobals "NoChange" = some none)
  (v_NoFrame : PySem.W.nsIn K mainGlobals "NoFrame" = some none)
  (v_NoValue : PySem.W.nsIn K mainGlobals "NoValue" = some none)
  (v_Unlike : PySem.W.nsIn K mainGlobals "Unlike" = some none)
  (v_NoRatio : PySem.W.nsIn K mainGlobals "NoRatio" = some none)
  (v_NoBow : PySem.W.nsIn K mainGlobals "NoBow" = some none)
  (v_NoRow : PySem.W.nsIn K mainGlobals "NoRow" = some none)
  (xcg : PySem.W.specialIn K (.builtin "object.__class__") "__get__" = some (some (.builtin "getset_descriptor.__get__"))) (xct : PySem.W.takesIn K (.builtin "object.__class__") = some true)
  {t_MOST_PEGS : Tok} (q_MOST_PEGS : PySem.W.nsIn K mainGlobals "MOST_PEGS" = some (some (.int 12 t_MOST_PEGS)))
  (hlaw : ∀ ns : List Int, ns.length <= 63 -> zeq [.lst (ns.map .int)] = .ok (.bl true))
  : ∃ fd : FuncData, (∀ (s : Shared) (v : Value), BindsTo s fd ⟨[v], []⟩ [("_law_script", v)]) /\ ∀ base : Heap, K.In base -> base.Ns mainGlobals mg -> zg3 l.prog w K mg base (CXe l.prog w) 9 fa fd ["_law_script"] (zpV K) := by
 have e := hfa.symm.trans (xcc X G a30)
 cases e
 obtain ⟨f0, v0, F0⟩ := d0.go X G ["_law_cell", "_law_k"] (by kcj_m)
 obtain ⟨f1, v1, F1⟩ := d1.go X G ["_law_some"] (by kst_p2)
 obtain ⟨f2, v2, F2⟩ := d2.go X G ["_law_cell", "_law_k"] (by kcj_m)
 obtain ⟨f3, v3, F3⟩ := d3.go X G ["_law_one", "_law_two", "_law_s", "_law_t"] (by walk_at "b4")
 obtain ⟨f4, v4, F4⟩ := d4.go X G ["_law_cell", "_law_how"] (by kcj_m)
 obtain ⟨f5, v5, F5⟩ := d5.go X G ["_law_script", "_law_k"] (by kcj_m)
 obtain ⟨f6, v6, F6⟩ := d6.go X G ["thing"] (by kst_p2)
 obtain ⟨f7, v7, F7⟩ := d7.go X G ["three"] (by kst_p2)
 obtain ⟨f8, v8, F8⟩ := d8.go X G ["one", "other"] (by kcj_m)
 obtain ⟨f9, v9, F9⟩ := d9.go X G ["numbers"] (by kst_p2)
 obtain ⟨f10, v10, F10⟩ := d10.go X G ["thing"] (by kst_p2)
 obtain ⟨f11, v11, F11⟩ := d11.go X G ["thing"] (by kst_p2)
 obtain ⟨f12, v12, F12⟩ := d12.go X G ["floor"] (by kst_p2)
 obtain ⟨f13, v13, F13⟩ := d13.go X G ["one", "other"] (by kcj_m)
 obtain ⟨f14, v14, F14⟩ := d14.go X G ["one", "other"] (by kcj_m)
 obtain ⟨f15, v15, F15⟩ := d15.go X G ["one", "other"] (by kcj_m)
 obtain ⟨f16, v16, F16⟩ := d16.go X G ["one", "other"] (by kcj_m)
 obtain ⟨f17, v17, F17⟩ := d17.go X G ["place", "line"] (by kcj_m)
 obtain ⟨f18, v18, F18⟩ := d18.go X G ["floor", "a", "b", "c"] (by walk_at "b4")
 obtain ⟨f19, v19, F19⟩ := d19.go X G ["floor"] (by kst_p2)
 obtain ⟨f20, v20, F20⟩ := d20.go X G ["places"] (by kst_p2)
 obtain ⟨f21, v21, F21⟩ := d21.go X G ["floor"] (by kst_p2)
 obtain ⟨f22, v22, F22⟩ := d22.go X G ["floor"] (by kst_p2)
 obtain ⟨f23, v23, F23⟩ := d23.go X G ["_law_one", "_law_two"] (by kcj_m)
 obtain ⟨f24, v24, F24⟩ := d24.go X G ["_law_some"] (by kst_p2)
 obtain ⟨f25, v25, F25⟩ := d25.go X G ["_law_one", "_law_two", "_law_three"] (by walk_at "b3")
 obtain ⟨f26, v26, F26⟩ := d26.go X G ["_law_places"] (by kst_p2)
 obtain ⟨f27, v27, F27⟩ := d27.go X G ["_law_floor_here", "_law_four"] (by kcj_m)
 obtain ⟨f28, v28, F28⟩ := d28.go X G ["floor"] (by kst_p2)
 obtain ⟨f29, v29, F29⟩ := d29.go X G ["_law_floor_here"] (by kst_p2)
 have F30 := zqL (st := zhT) l30 c30 k30
 have m30 := xcc X G a30
 have n_abs := xao X G z_abs
 have n_tuple := xao X G z_tuple
 have n_range := xao X G z_range
 have n_zip := xao X G z_zip
 have n_len := xao X G z_len
 have n_isinstance := xao X G z_isinstance
 have n_int := xao X G z_int
 have n_bool := xao X G z_bool
 have n_all := xao X G z_all
 have n_list := xao X G z_list
 have n_set := xao X G z_set
 have n_any := xao X G z_any
 have n_min := xao X G z_min
 have n_sorted := xao X G z_sorted
 have n_max := xao X G z_max
 have c_ChalkError := xcc X G e_ChalkError
 have c_Same := xcc X G e_Same
 have c_NoFloor := xcc X G e_NoFloor
 have c_Endless := xcc X G e_Endless
 have nv_NoPlace := xao X G v_NoPlace
 have nv_NoDeed := xao X G v_NoDeed
 have nv_NoText := xao X G v_NoText
 have nv_NoName := xao X G v_NoName
 have nv_TooMany := xao X G v_TooMany
 have nv_NoChange := xao X G v_NoChange
 have nv_NoFrame := xao X G v_NoFrame
 have nv_NoValue := xao X G v_NoValue
 have nv_Unlike := xao X G v_Unlike
 have nv_NoRatio := xao X G v_NoRatio
 have nv_NoBow := xao X G v_NoBow
 have nv_NoRow := xao X G v_NoRow
 have x_Endless : zo3 K mg "Endless" C_Endless := zo3.mk' c_Endless ⟨by (obtain ⟨_, hc, _⟩ := PySem.W.kw_along xga_Endless; rw [hc]; rfl), xga_Endless, xgh_Endless, xbs_Endless, xob_Endless, xca_Endless, xcg, xct⟩ xvv_Endless (zvy (zaM.of (b := true) c_ChalkError t_Endless_ChalkError (fun _ => u_Endless_ChalkError)) (zaM.no nv_NoPlace) (zaM.of (b := false) c_Same t_Endless_Same (fun z => nomatch z)) (zaM.of (b := false) c_NoFloor t_Endless_NoFloor (fun z => nomatch z)) (zaM.of (b := true) c_Endless t_Endless_Endless (fun _ => u_Endless_Endless)) (zaM.no nv_NoDeed) (zaM.no nv_NoText) (zaM.no nv_NoName) (zaM.no nv_TooMany) (zaM.no nv_NoChange) (zaM.no nv_NoFrame) (zaM.no nv_NoValue) (zaM.no nv_Unlike) (zaM.no nv_NoRatio) (zaM.no nv_NoBow) (zaM.no nv_NoRow))
 refine ⟨PySem.W.fnOf "law" "law" (zcY zhT) (zbx zhT) (zaf zhT) .none kV30 dc30 pm30 an30 cd30 ct30, fun s v => .of_eq rfl, fun base _ _ => ?_⟩
 have k_MOST_PEGS_is : ∃ u v, mg "MOST_PEGS" = some u /\ RelV v u /\ ∀ G, Rep K mg G zcC v := ⟨_, .int 12, xcc X G q_MOST_PEGS, ⟨_, rfl⟩, fun _ => rfl⟩
 have G0 : zaA l.prog w K mg base 1 "_law_mix" zaB := zjK (k := 0) F0
 have G1 : zaA l.prog w K mg base 1 "_law_low" zaO := zjL (k := 0) F1 n_abs n_tuple
 have G2 := zje (k := 1) F2 n_range G0 G1
 have G3 := zgv (k := 1) F3 n_zip G1
 have G4 := zhP (k := 2) F4 n_range (G0.mono (by decide : 1 <= 2)) G2 G3
 have G5 : zaA l.prog w K mg base 1 "_law_cell_at" zaK := zgi (k := 0) F5 n_len
 have G6 : zaA l.prog w K mg base 1 "is_whole" zbL := zjM (k := 0) F6 n_isinstance n_int n_bool
 have G7 := zgw (k := 1) F7 n_all G6
 have G8 : zaA l.prog w K mg base 1 "divisor" zbW := zma (k := 0) F8 n_abs
 have G9 := zmb (k := 1) F9 G8
 have G10 := zjN (k := 2) F10 n_isinstance n_tuple n_len G7 G9
 have G11 := zjO (k := 3) F11 n_isinstance n_list n_len n_all n_set k_MOST_PEGS_is G10
 have G12 := zmc (k := 4) F12 G11
 have G13 : zaA l.prog w K mg base 1 "cross" zeF := zqD (k := 0) F13
 have G14 := zgx (k := 2) F14 G9 (G13.mono (by decide : 1 <= 2))
 have G15 := zmd (k := 3) F15 G14
 have G16 : zaA l.prog w K mg base 1 "dot" zl1 := zwi (k := 0) F16
 have G17 := ztB (k := 1) F17 G16
 have G18 := zjf (k := 4) F18 n_range n_len n_any G15 (G17.mono (by decide : 2 <= 4))
 have G19 := zjP (k := 5) F19 n_range n_len G12 (G15.mono (by decide : 4 <= 5)) (G17.mono (by decide : 2 <= 5)) G18
 have G20 := zo1 (k := 4) F20 n_len n_all G15 (G17.mono (by decide : 2 <= 4))
 have G21 := zme (k := 5) F21 n_min n_range n_len G20
 have G22 := zmf (k := 6) F22 G19 (G20.mono (by decide : 5 <= 6)) G21
 have G23 : zaA l.prog w K mg base 1 "_law_cross" zaZ := zhQ (k := 0) F23
 have G24 := zhR (k := 1) F24 n_range n_len n_list G23 G1
 have G25 := zjQ (k := 1) F25 G23
 have G26 := zjg (k := 2) F26 G25
 have G27 := ze8 (k := 3) F27 n_len n_range G26
 have G28 := zqE (k := 6) F28 c_Endless y_Endless x_Endless n_range n_len n_sorted n_set G19 (G15.mono (by decide : 4 <= 6))
 have G29 := zhS (k := 7) F29 n_sorted G22 (G24.mono (by decide : 2 <= 7)) (G27.mono (by decide : 4 <= 7)) (G26.mono (by decide : 3 <= 7)) G28
 exact zvz (zwj (P := l.prog) (w := w) (base := base) (k := 8) F30 n_range n_max n_min n_len (G4.mono (by decide : 3 <= 8)) (G5.mono (by decide : 1 <= 8)) G29) hlaw
end Kx
def PySem.W.Fast.tw5593830838139350945 := 0
def PySem.W.Fast.tw7648309012394613699 := 0
def PySem.W.Fast.tw541064656750348677 := 0
def PySem.W.Fast.tw4948459678348056104 := 0
def PySem.W.Fast.tw17147681966048374826 := 0
def PySem.W.Fast.tw1175575618693895823 := 0
def PySem.W.Fast.tw980577016293558608 := 0
def PySem.W.Fast.tw2279412157564207760 := 0
def PySem.W.Fast.tw15701794456919240434 := 0
def PySem.W.Fast.tw18425185222528779122 := 0
def PySem.W.Fast.tw11514280521645852693 := 0
def PySem.W.Fast.tw1165241888264648245 := 0
def PySem.W.Fast.tw4779789832958037878 := 0
def PySem.W.Fast.tw7047255341711331416 := 0
def PySem.W.Fast.tw15855260747439596250 := 0
def PySem.W.Fast.tw14532040917448409275 := 0
def PySem.W.Fast.tw4997066140654996351 := 0
open PySem.W PyProof.Rows
local macro_rules | `(tactic| walk_at "FD") => `(tactic| (refine' DL.FD.mk' ?a ?l ?c ?k; (case a => k_is); (case l => k_is); (case c => k_is); (case k => k_is)))
set_option maxRecDepth 100000 in
set_option maxHeartbeats 0 in
theorem PySem.Challenge.cw_chalkline_k15_whole_new_places_or_none_holds : PySem.Challenge.rw_chalkline_k15_whole_new_places_or_none.Holds := by
 w_on; o_law; k_head; (case hw => w_witness2)
 k_fill
 refine DL.walkD (l := PySem.Challenge.rw_chalkline_k15_whole_new_places_or_none) 9 ⟨rfl, by decide, by decide⟩ rfl rfl (fun w h Y => PySem.W.kIn_of Y) ?F
 case F =>
  intro w mg fa h KX G hmg
  refine' Kx.all_mk KX G hmg ?d0 ?d1 ?d2 ?d3 ?d4 ?d5 ?d6 ?d7 ?d8 ?d9 ?d10 ?d11 ?d12 ?d13 ?d14 ?d15 ?d16 ?d17 ?d18 ?d19 ?d20 ?d21 ?d22 ?d23 ?d24 ?d25 ?d26 ?d27 ?d28 ?d29 ?a30 ?l30 ?c30 ?k30 ?z_abs ?z_tuple ?z_range ?z_zip ?z_len ?z_isinstance ?z_int ?z_bool ?z_all ?z_list ?z_set ?z_any ?z_min ?z_sorted ?z_max ?e_ChalkError ?e_Same ?e_NoFloor ?e_Endless ?y_Endless ?xga_Endless ?xgh_Endless ?xbs_Endless ?xob_Endless ?xca_Endless ?xvv_Endless ?t_Endless_ChalkError ?u_Endless_ChalkError ?v_NoPlace ?t_Endless_Same ?t_Endless_NoFloor ?t_Endless_Endless ?u_Endless_Endless ?v_NoDeed ?v_NoText ?v_NoName ?v_TooMany ?v_NoChange ?v_NoFrame ?v_NoValue ?v_Unlike ?v_NoRatio ?v_NoBow ?v_NoRow ?xcg ?xct ?q_MOST_PEGS ?hlaw
  (case d0 | d1 | d2 | d3 | d4 | d5 | d6 | d7 | d8 | d9 | d10 | d11 | d12 | d13 | d14 | d15 | d16 | d17 | d18 | d19 | d20 | d21 | d22 | d23 | d24 | d25 | d26 | d27 | d28 | d29 => walk_at "FD")
  (case a30 | l30 | c30 | k30 | z_abs | z_tuple | z_range | z_zip | z_len | z_isinstance | z_int | z_bool | z_all | z_list | z_set | z_any | z_min | z_sorted | z_max | e_ChalkError | e_Same | e_NoFloor | e_Endless => k_is)
  (case y_Endless => k_exc)
  (case xga_Endless | xgh_Endless | xbs_Endless | xob_Endless | xca_Endless => k_is)
  (case xvv_Endless | t_Endless_ChalkError => kit_is)
  (case u_Endless_ChalkError => kts_exm)
  (case v_NoPlace => k_is)
  (case t_Endless_Same | t_Endless_NoFloor | t_Endless_Endless => kit_is)
  (case u_Endless_Endless => kts_exm)
  (case v_NoDeed | v_NoText | v_NoName | v_TooMany | v_NoChange | v_NoFrame | v_NoValue | v_Unlike | v_NoRatio | v_NoBow | v_NoRow | xcg | xct | q_MOST_PEGS => k_is)
  (case hlaw => exact Lk15.law_ok)
end