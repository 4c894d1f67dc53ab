import PyProof.Rows.All
import Wide.All
import OpenK.AllK
import Wide.FinOn
import Lean
import PyProof.EqAt
import PyProof.EqKinds
import PyProof.TupleCall
import PyProof.NeKinds
import KE.KTryMore
import PyProof.NsDelKeeps
import PySem.SetTable
import PyProof.StrLawsChain
import PyProof.StrBlockL
import KE.KIntText
import PyProof.DictTable
import PyProof.SliceStr2
import PyProof.MeetsStr
import PyProof.StrWalks
import PyProof.TupleKey
import PyProof.SetKind
import PyProof.Rows.SetFrom
import PyProof.ZipIter
import PyProof.Rows.ZipGen
import PyProof.LayNew
import PyProof.ExcInit
import PyProof.ExcClass3
import PyProof.EnumFor
import PyProof.EnumMake
import PyProof.EnumStmt
import PyProof.Rows.StrNews
import PySem.Challenge.RW_chalkline_k78_met_again
set_option Elab.async false
set_option linter.all false
set_option maxRecDepth 100000
set_option maxHeartbeats 1000000
section
open PySem PyProof.Rows
abbrev xFg := PySem.W.Frag
abbrev xaa := @Heap.get?_push_of_some
abbrev xab := @Heap.lt_size
abbrev xad := @List.length_map
abbrev xae := @List.mem_cons
abbrev xaf := @List.mem_cons_of_mem
abbrev xag := @Nat.le_refl
abbrev xah := @List.getElem?_eq_some_iff
abbrev xai := @Nat.lt_of_lt_of_le
abbrev xaj := @PySem.W.mg_none_of
abbrev xak := @List.size_toArray
abbrev xal := @List.mem_cons_self
abbrev xam := @List.getElem?_set_ne
abbrev xan := @Nat.ne_of_lt
abbrev xao := @List.getElem?_eq_getElem
abbrev xap := @Prod.ext
abbrev xaq := @List.not_mem_nil
abbrev xar := @List.length_cons
abbrev xas := @Array.length_toList
abbrev xau := @Bool.false_ne_true
abbrev xav := @Heap.get?_push_size
abbrev xaw := @Array.getD_eq_getD_getElem?
abbrev xax := @Array.getElem?_toList
abbrev xay := @Ne.symm
abbrev xaz := @List.map_cons
abbrev xa0 := @Bool.and_eq_true
abbrev xa1 := @List.all_eq_true
abbrev xa2 := @Int.mul_eq_zero
abbrev xa3 := @Nat.le_trans
abbrev xa4 := @List.getElem?_set_self
abbrev xa5 := @List.length_take
abbrev xa6 := @List.filterMap_cons_some
abbrev xa7 := @List.mem_range
abbrev xa8 := @Array.getElem?_eq_some_iff
abbrev xa9 := @List.mem_append_right
abbrev xba := @Classical.byContradiction
abbrev xbb := @Option.isSome_iff_exists
abbrev xbc := @List.filterMap_cons_none
abbrev xbd := @List.mem_append
abbrev xbe := @List.mem_of_getElem?
abbrev xbf := @List.mem_map
abbrev xbg := @Array.getElem?_eq_getElem
abbrev xbh := @List.mem_singleton
abbrev xbi := @List.lookup_cons
abbrev xbj := @Heap.get?_update_other
abbrev xbk := @List.getElem_of_mem
abbrev xbl := @List.mem_filterMap
abbrev xbm := @Nat.lt_irrefl
abbrev xbn := @Heap.size_push
abbrev xbo := @Nat.zero_add
abbrev xbp := @PySem.W.mg_of
abbrev xbq := @List.length_drop
abbrev xbr := @List.length_append
abbrev xbt := @Nat.lt_of_le_of_lt
abbrev xbu := @Heap.get?_update_self
abbrev xbv := @List.mem_filter
abbrev xbw := @Int.mul_zero
abbrev xbx := @Int.emod_nonneg
abbrev xby := @List.mem_of_mem_take
abbrev xbz := @List.getElem?_map
abbrev xb0 := @Option.map_eq_some_iff
abbrev xb1 := @Int.emod_lt_of_pos
abbrev xb2 := @List.map_append
abbrev xb3 := @Heap.get?_push_at
abbrev xb4 := @List.getElem?_append_left
abbrev xb5 := @Nat.ne_of_gt
abbrev xb6 := @List.getElem_mem
abbrev xb7 := @List.map_map
abbrev xb8 := @List.exists_of_findSome?_eq_some
abbrev xb9 := @Int.natAbs_natCast
abbrev xcb := @List.getElem?_toArray
abbrev xcc := @Nat.le_add_right
abbrev xcd := @List.getElem?_append_right
abbrev xcf := @List.map_take
abbrev xch := @List.findSome?_eq_none_iff
abbrev xci := @Nat.zero_le
abbrev xcj := @List.filterMap_cons
abbrev xck := @Heap.get?_update_ne
abbrev xcl := @List.append_nil
abbrev xcm := @List.nodup_cons
abbrev xcn := @Bool.eq_iff_iff
abbrev xco := @Int.eq_of_mul_eq_mul_left
abbrev xcp := @List.pairwise_iff_getElem
abbrev xcq := @Nat.le_of_lt
abbrev xcr := @Int.natAbs_mul
abbrev xcs := @Nat.mod_lt
abbrev xcu := @List.getElem?_replicate
abbrev xcv := @Nat.eq_zero_of_zero_dvd
abbrev xcw := @List.getElem?_cons_succ
abbrev xcx := @Array.toList_filterMap
abbrev xcy := @Bool.not_true
abbrev xcz := @Nat.gcd_dvd_left
abbrev xc0 := @Nat.lt_succ_self
abbrev xc1 := @List.filter_cons
abbrev xc2 := @List.length_replicate
abbrev xc3 := @Int.natAbs_dvd_natAbs
abbrev xc4 := @List.of_mem_zip
abbrev xc5 := @Int.zero_sub
abbrev xc6 := @Int.mul_comm
abbrev xc7 := @Heap.get?_push_cases
abbrev xc8 := @List.length_zip
abbrev xc9 := @List.mem_of_mem_drop
abbrev xda := @List.toList_toArray
abbrev xdb := @Bool.not_false
end
open PySem
section
namespace L2
open PySem.Spec PyProof.Rows
abbrev Key := Sum Int Str
def ztN : Key -> Value -> Bool
 | .inl k, v => Value.isInt k v
 | .inr x, v => Value.isStrOf x v
def keyH (w : World) : Key -> Int
 | .inl k => hashInt k
 | .inr x => hashStr w x
theorem za2 : ∀ {k : Key} {v : Value}, ztN k v = true -> (∃ i t, k = Sum.inl i /\ v = Value.int i t) \/ (∃ x t, k = Sum.inr x /\ v = Value.str x t)
 | .inl i, v, h => by
  obtain ⟨t, e⟩ := Value.isInt_shape (k := i) (v := v) h
  exact .inl ⟨i, t, rfl, e⟩
 | .inr x, v, h => by
  obtain ⟨t, e⟩ := Value.isStrOf_shape (x := x) (v := v) h
  exact .inr ⟨x, t, rfl, e⟩
theorem ztO (a b : Int) : decide ((Sum.inl a : Key) = Sum.inl b) = (a == b) := by
 by_cases e : a = b
 ·subst e; simp
 ·have h : ¬ (Sum.inl a : Key) = Sum.inl b := fun q => e (Sum.inl.inj q)
  rw [decide_eq_false h]
  exact (beq_eq_false_iff_ne.mpr e).symm
theorem ztP (a b : Str) : decide ((Sum.inr a : Key) = Sum.inr b) = decide (a = b) := by
 by_cases e : a = b
 ·subst e; simp
 ·have h : ¬ (Sum.inr a : Key) = Sum.inr b := fun q => e (Sum.inr.inj q)
  rw [decide_eq_false h, decide_eq_false e]
theorem ztQ (a : Int) (b : Str) : decide ((Sum.inl a : Key) = Sum.inr b) = false := decide_eq_false (fun q => nomatch q)
theorem ztR (a : Str) (b : Int) : decide ((Sum.inr a : Key) = Sum.inl b) = false := decide_eq_false (fun q => nomatch q)
def zm6 (prog : Program) (w : World) : PySem.KeyKind prog w Key where
 is := ztN
 hash := keyH w
 inj := fun v a b ha hb => by
  rcases za2 ha with ⟨i, t, rfl, rfl⟩ | ⟨x, t, rfl, rfl⟩
  ·rcases za2 hb with ⟨j, u, rfl, e⟩ | ⟨y, u, rfl, e⟩
   ·injection e with e1 _; rw [e1]
   ·exact nomatch e
  ·rcases za2 hb with ⟨j, u, rfl, e⟩ | ⟨y, u, rfl, e⟩
   ·exact nomatch e
   ·injection e with e1 _; rw [e1]
 byValue := fun k v h => by
  rcases za2 h with ⟨i, t, rfl, rfl⟩ | ⟨x, t, rfl, rfl⟩ <;> rfl
 pyHash := fun hv h => by
  rcases za2 hv with ⟨i, t, rfl, rfl⟩ | ⟨x, t, rfl, rfl⟩
  ·exact wpAny_pyHash_int h
  ·exact wpAny_pyHash_str h
 eqBool := fun hu hv h => by
  rcases za2 hu with ⟨i, t, rfl, rfl⟩ | ⟨x, t, rfl, rfl⟩
  ·rcases za2 hv with ⟨j, u, rfl, rfl⟩ | ⟨y, u, rfl, rfl⟩
   ·rw [ztO] at h; exact wpAny_eqBool_int h
   ·rw [ztQ] at h; exact SeqAt.EqAt.int_str i t y u _ _ _ _ h
  ·rcases za2 hv with ⟨j, u, rfl, rfl⟩ | ⟨y, u, rfl, rfl⟩
   ·rw [ztR] at h; exact SeqAt.EqAt.str_int x t j u _ _ _ _ h
   ·rw [ztP] at h; exact wpAny_eqBool_str h
 «strs» := fun k x t v h => by
  rcases za2 h with ⟨i, u, rfl, e⟩ | ⟨y, u, rfl, e⟩
  ·exact nomatch e
  ·injection e with e1 _
   subst e1
   cases v <;> rfl
end L2
namespace L2
open PySem.Spec PyProof.Rows
inductive V where
 | non | bl (b : Bool) | int (i : Int) | str (x : Str) | byt (b : Array UInt8) | flt (b : UInt64) | ref (a : Addr) | ty (n : String)
 deriving DecidableEq
def zbg : V -> Value -> Prop
 | .non, u => u = Value.none
 | .bl b, u => u = Value.bool b
 | .int i, u => ∃ t, u = Value.int i t
 | .str x, u => ∃ t, u = Value.str x t
 | .byt b, u => ∃ t, u = Value.bytes b t
 | .flt b, u => ∃ t, u = Value.float b t
 | .ref a, u => u = Value.ref a
 | .ty n, u => u = Value.type n
abbrev zbi : List V -> List Value -> Prop := Paired zbg
theorem zbi.length {xs : List V} {us : List Value} (r : zbi xs us) : xs.length = us.length := Paired.length r
theorem zbi.get : ∀ {xs : List V} {us : List Value} {i : Nat} {x : V}, zbi xs us -> xs[i]? = some x -> ∃ u, us[i]? = some u /\ zbg x u
 | _, _, _, _, .nil, e => by simp at e
 | _, _, 0, _, .cons r _, e => by simp at e; subst e; exact ⟨_, rfl, r⟩
 | _, _, i + 1, x, .cons _ t, e => by
  obtain ⟨u, h1, h2⟩ := zbi.get (i := i) (x := x) t (by simpa using e)
  exact ⟨u, by simpa using h1, h2⟩
theorem zbi.append : ∀ {xs ys : List V} {us ws : List Value}, zbi xs us -> zbi ys ws -> zbi (xs ++ ys) (us ++ ws)
 | _, _, _, _, .nil, s => s
 | _, _, _, _, .cons r t, s => .cons r (zbi.append t s)
theorem zbi.take : ∀ {xs : List V} {us : List Value} (n : Nat), zbi xs us -> zbi (xs.take n) (us.take n)
 | _, _, 0, _ => .nil
 | _, _, _ + 1, .nil => .nil
 | _, _, n + 1, .cons r t => .cons r (zbi.take n t)
theorem zbi.drop : ∀ {xs : List V} {us : List Value} (n : Nat), zbi xs us -> zbi (xs.drop n) (us.drop n)
 | _, _, 0, r => r
 | _, _, _ + 1, .nil => .nil
 | _, _, n + 1, .cons _ t => zbi.drop n t
def ztH : Option V -> Option Value -> Prop
 | some v, some u => zbg v u
 | none, none => True
 | _, _ => False
def KV {κ : Type} : List (κ × V) -> List (κ × Value) -> Prop := Paired fun (p : κ × V) (q : κ × Value) => p.1 = q.1 /\ zbg p.2 q.2
def kV : Key -> V
 | .inl i => .int i
 | .inr x => .str x
inductive HO where
 | lst (xs : List V)
 | tup (xs : List V)
 | dK (kvs : List (Key × V)) | dT (kvs : List (List Key × V))
 | set (S : Int -> Bool) (n : Nat)
 | ins (C dx : Addr) (fs : List (Str × V))
 | own (x : Addr)
 | xd (fs : List (Str × V))
 | met (f x : Addr)
 | rng (lo hi : Int)
 | frz (o : Obj) (u : HO)
 | tbl (ps : Array Value)
 | ext (φ : Heap -> Prop)
abbrev Hp := Addr -> Option HO
def upd (H : Hp) (a : Addr) (o : HO) : Hp := fun b => if b = a then some o else H b
theorem zan {H : Hp} {a : Addr} {o : HO} : upd H a o a = some o := by unfold upd; rw [if_pos rfl]
theorem zak {H : Hp} {a b : Addr} {o : HO} (h : b ≠ a) : upd H a o b = H b := by unfold upd; rw [if_neg h]
theorem zam {H : Hp} {a b : Addr} {o : HO} (h : H a = some o) (h' : H b = none) : a ≠ b := by
 intro e; subst e; rw [h] at h'; cases h'
section
variable (P : Program) (w : World)
def zcr (H : Hp) (h : Heap) (a : Addr) : HO -> Prop
 | .lst xs => xs.length <= sizeLine /\ ∃ (its : List Value) (n : Nat), zbi xs its /\ h.get? a = some { cls := .type "list", data := .seq its.toArray n }
 | .tup xs => xs.length <= sizeLine /\ ∃ its : List Value, zbi xs its /\ IsTup h a its.toArray
 | .dK kvs => kvs.length <= sizeLine /\ (a == sysModules) = false /\ ∃ vs, KV kvs vs /\ h.DictOf (zm6 P w) a vs
 | .dT kvs => kvs.length <= sizeLine /\ (a == sysModules) = false /\ ∃ xs : List (List Key × Addr × Value),
   Paired (fun (p : List Key × V) (q : List Key × Addr × Value) => p.1 = q.1 /\ H q.2.1 = some (.tup (p.1.map kV)) /\ zbg p.2 q.2.2) kvs xs /\
   ∃ o es ep, h.get? a = some o /\ o.ExactDict /\ o.data = .dict es ep /\ es.toList = xs.map (entryOfKey (tupleKind (zm6 P w))) /\ (xs.map (·.1)).Nodup
 | .set S n => h.SetOf (intKind P w) a S n
 | .ins C dx fs => H dx = some (.own a) /\ fs.length <= 1000 /\ dx ≠ a /\ h.get? a = some (PySem.W.instObj C dx) /\
   ∃ mA, h.Ns1 dx mA /\ (∀ f, ztH (fs.lookup f) (mA f)) /\ PySem.Within mA (fs.map (·.1))
 | .own _ => ∃ o, h.get? a = some o
 | .xd fs => ∃ mA, h.Ns1 a mA /\ ∀ f, ztH (fs.lookup f) (mA f)
 | .rng lo hi => ∃ t u v, h.get? a = some { cls := .type "range", data := .fields #[.int lo t, .int hi u, .int 1 v] }
 | .frz o u => h.get? a = some o /\ zcr H h a u
 | .tbl ps => h.get? a = some { cls := .none, data := .fields ps }
 | .met f x => h.get? a = some (PySem.W.methodObj (.ref f) (.ref x))
 | .ext φ => φ h /\ (∃ o, h.get? a = some o) /\ ∀ h1 h2 : Heap, φ h1 -> (∀ o, h1.get? a = some o -> h2.get? a = some o) -> φ h2
def HOk (H : Hp) (h : Heap) : Prop := ∀ a o, H a = some o -> zcr P w H h a o
end
section
variable {P : Program} {w : World} {H H' : Hp} {h h' : Heap} {a : Addr} {o : HO}
theorem zcr.lt (x : zcr P w H h a o) : a < h.objs.size := by
 cases o with
 | lst xs => obtain ⟨_, _, _, _, e⟩ := x; exact xab e
 | tup xs => obtain ⟨_, _, _, p⟩ := x; exact p.lt
 | dK kvs => obtain ⟨_, _, _, _, o, _, _, e, _⟩ := x; exact xab e
 | dT kvs => obtain ⟨_, _, _, _, o, _, _, e, _⟩ := x; exact xab e
 | set S n => obtain ⟨o, _, _, _, e, _⟩ := x; exact xab e
 | ins C dx fs => obtain ⟨_, _, _, e, _⟩ := x; exact xab e
 | own y => obtain ⟨_, e⟩ := x; exact xab e
 | xd fs => obtain ⟨_, ⟨_, _, _, e, _⟩, _⟩ := x; exact xab e
 | rng lo hi => obtain ⟨_, _, _, e⟩ := x; exact xab e
 | frz ob u => obtain ⟨e, _⟩ := x; exact xab e
 | tbl ps => exact xab (show h.get? a = some _ from x)
 | met f y => exact xab (show h.get? a = some _ from x)
 | ext φ => obtain ⟨_, ⟨_, e⟩, _⟩ := x; exact xab e
theorem Paired.mapP {α β : Type} {F G : α -> β -> Prop} : ∀ {l₁ : List α} {l₂ : List β}, Paired F l₁ l₂ -> (∀ a b, F a b -> G a b) -> Paired G l₁ l₂
 | _, _, .nil, _ => .nil
 | _, _, .cons r t, f => .cons (f _ _ r) (Paired.mapP t f)
theorem zcr.stay (x : zcr P w H h a o) (k : ∀ b u, (b = a \/ H b = some (.own a)) -> h.get? b = some u -> h'.get? b = some u)
  (ho : ∀ b, H b = some (.own a) -> H' b = some (.own a)) (ht : ∀ b xs, H b = some (.tup xs) -> H' b = some (.tup xs)) : zcr P w H' h' a o := by
 induction o with
 | lst xs => obtain ⟨z, its, n, r, e⟩ := x; exact ⟨z, its, n, r, k _ _ (.inl rfl) e⟩
 | tup xs => obtain ⟨z, its, r, ob, e, c⟩ := x; exact ⟨z, its, r, ob, k _ _ (.inl rfl) e, c⟩
 | dK kvs => obtain ⟨z, y, vs, r, ob, es, ep, e, c⟩ := x; exact ⟨z, y, vs, r, ob, es, ep, k _ _ (.inl rfl) e, c⟩
 | dT kvs =>
  obtain ⟨z, y, xs, r, ob, es, ep, e, c⟩ := x
  exact ⟨z, y, xs, Paired.mapP r fun p q z => ⟨z.1, ht _ _ z.2.1, z.2.2⟩, ob, es, ep, k _ _ (.inl rfl) e, c⟩
 | set S n => obtain ⟨ob, es, ep, t, e, c⟩ := x; exact ⟨ob, es, ep, t, k _ _ (.inl rfl) e, c⟩
 | ins C dx fs =>
  obtain ⟨d, z, ne, e, mA, ⟨od, es, ep, e2, c⟩, r⟩ := x
  exact ⟨ho _ d, z, ne, k _ _ (.inl rfl) e, mA, ⟨od, es, ep, k _ _ (.inr d) e2, c⟩, r⟩
 | own y => obtain ⟨ob, e⟩ := x; exact ⟨ob, k _ _ (.inl rfl) e⟩
 | xd fs => obtain ⟨mA, ⟨od, es, ep, e, c⟩, r⟩ := x; exact ⟨mA, ⟨od, es, ep, k _ _ (.inl rfl) e, c⟩, r⟩
 | rng lo hi => obtain ⟨t, u, v, e⟩ := x; exact ⟨t, u, v, k _ _ (.inl rfl) e⟩
 | frz ob u ih => obtain ⟨e, q⟩ := x; exact ⟨k _ _ (.inl rfl) e, ih q⟩
 | tbl ps =>
  have e : h.get? a = some { cls := .none, data := .fields ps } := x
  show h'.get? a = some { cls := .none, data := .fields ps }
  exact k a _ (.inl rfl) e
 | met f y =>
  have e : h.get? a = some (PySem.W.methodObj (.ref f) (.ref y)) := x
  show h'.get? a = some (PySem.W.methodObj (.ref f) (.ref y))
  exact k a _ (.inl rfl) e
 | ext φ => obtain ⟨p, ⟨o, e⟩, st⟩ := x; exact ⟨st _ _ p fun o q => k _ _ (.inl rfl) q, ⟨o, k _ _ (.inl rfl) e⟩, st⟩
theorem HOk.lt (x : HOk P w H h) (e : H a = some o) : a < h.objs.size := (x a o e).lt
theorem HOk.fresh (x : HOk P w H h) (e : h.objs.size <= a) : H a = none := by
 cases q : H a with
 | none => rfl
 | some u => exact absurd (xai (x.lt q) e) (xbm _)
theorem HOk.kept (x : HOk P w H h) (k : ∀ b u, h.get? b = some u -> h'.get? b = some u) : HOk P w H h' := fun a o e =>
 (x a o e).stay (fun b u _ q => k b u q) (fun _ q => q) fun _ _ q => q
theorem HOk.laid (x : HOk P w H h) (k : ∀ b u, h.get? b = some u -> h'.get? b = some u) (hp : h.objs.size <= a) (new : zcr P w (upd H a o) h' a o) : HOk P w (upd H a o) h' := fun b u e => by
 have hn := x.fresh hp
 by_cases hb : b = a
 ·subst hb; rw [zan] at e; cases e; exact new
 ·rw [zak hb] at e
  exact (x b u e).stay (fun c v _ q => k c v q) (fun c q => by rw [zak (zam q hn)]; exact q) fun c xs q => by rw [zak (zam q hn)]; exact q
end
def Rd (H : Hp) (a : Addr) (u : HO) : Prop := H a = some u \/ ∃ o, H a = some (.frz o u)
theorem Rd.ok {P : Program} {w : World} {H : Hp} {h : Heap} {a : Addr} {u : HO} (r : Rd H a u) (x : HOk P w H h) : zcr P w H h a u := by
 rcases r with r | ⟨o, r⟩
 ·exact x a u r
 ·obtain ⟨_, q⟩ := x a _ r
  exact q
def Mut : Option HO -> Prop
 | some (.lst _) => True
 | some (.dK _) => True
 | some (.dT _) => True
 | some (.set _ _) => True
 | some (.ins _ _ _) => True
 | some (.ext _) => True
 | _ => False
section
variable {P : Program} {w : World} {H : Hp} {h h' : Heap} {x e : Addr} {o' : HO}
theorem HOk.write (ok : HOk P w H h) (mu : Mut (H x)) (he : e = x \/ H e = some (.own x)) (k : ∀ b u, b ≠ e -> h.get? b = some u -> h'.get? b = some u) (heo : ∃ u, h'.get? e = some u)
  (new : zcr P w (upd H x o') h' x o') : HOk P w (upd H x o') h' := fun b u q => by
 have nown : ∀ c y, H c = some (.own y) -> c ≠ x := fun c y r z => by subst z; rw [r] at mu; exact mu
 have ntup : ∀ c xs, H c = some (.tup xs) -> c ≠ x := fun c xs r z => by subst z; rw [r] at mu; exact mu
 by_cases hb : b = x
 ·subst hb; rw [zan] at q; cases q; exact new
 ·rw [zak hb] at q
  by_cases hbe : b = e
  ·have q' : H b = some (.own x) := by
    rcases he with z | z
    ·exact absurd (hbe.trans z) hb
    ·rw [hbe]; exact z
   rw [q] at q'; cases q'
   obtain ⟨v, hv⟩ := heo
   exact ⟨v, by rw [hbe]; exact hv⟩
  ·refine (ok b u q).stay (fun c v hc r => k c v ?_ r) (fun c r => by rw [zak (nown c b r)]; exact r) fun c xs r => by rw [zak (ntup c xs r)]; exact r
   rcases hc with rfl | hc
   ·exact hbe
   ·rintro rfl
    rcases he with z | z
    ·exact nown c b hc z
    ·rw [hc] at z; cases z; exact hb rfl
end
structure Un (fs ex : List Addr) (H H' : Hp) (h h' : Heap) : Prop where
 keep : ∀ b o, h.get? b = some o -> H b = none -> b ∉ fs -> b ∉ ex -> h'.get? b = some o
 slot : ∀ b o, h.get? b = some o -> H b = none -> b ∈ fs -> b ∉ ex -> ∃ sl, h'.get? b = some { o with slots := sl }
 free : ∀ b o, h.get? b = some o -> H b = none -> b ∉ ex -> H' b = none
 there : ∀ b o, h.get? b = some o -> b ∉ ex -> ∃ o', h'.get? b = some o'
 tups : ∀ b xs, H b = some (.tup xs) -> H' b = some (.tup xs)
 frzs : ∀ b o u, H b = some (.frz o u) -> H' b = some (.frz o u)
 tbls : ∀ b ps, H b = some (.tbl ps) -> ∃ more, H' b = some (.tbl (ps ++ more))
section
variable {fs fs' ex ex' : List Addr} {H H1 H2 : Hp} {h h1 h2 h' : Heap} {a x e : Addr} {o : HO}
theorem Un.any (u : Un fs ex H H1 h h1) {b : Addr} {ob : Obj} (q : h.get? b = some ob) (n : H b = none) (hx : b ∉ ex) : ∃ sl, h1.get? b = some { ob with slots := sl } := by
 by_cases hb : b ∈ fs
 ·exact u.slot b ob q n hb hx
 ·exact ⟨ob.slots, u.keep b ob q n hb hx⟩
theorem Un.kept (k : ∀ b u, h.get? b = some u -> h'.get? b = some u) : Un fs ex H H h h' :=
 ⟨fun b ob q _ _ _ => k b ob q, fun b ob q _ _ _ => ⟨ob.slots, k b ob q⟩, fun _ _ _ n _ => n, fun b ob q _ => ⟨ob, k b ob q⟩, fun _ _ q => q, fun _ _ _ q => q, fun _ ps q => ⟨#[], by rw [q]; simp⟩⟩
theorem Un.refl : Un fs ex H H h h := Un.kept fun _ _ q => q
theorem Un.laid (k : ∀ b u, h.get? b = some u -> h'.get? b = some u) (hp : h.objs.size <= a) (hn : H a = none) : Un fs ex H (upd H a o) h h' where
 keep := fun b u q _ _ _ => k b u q
 slot := fun b u q _ _ _ => ⟨u.slots, k b u q⟩
 free := fun b u q n _ => by rw [zak (xan (xai (xab q) hp))]; exact n
 there := fun b u q _ => ⟨u, k b u q⟩
 tups := fun b xs q => by rw [zak (zam q hn)]; exact q
 frzs := fun b u xs q => by rw [zak (zam q hn)]; exact q
 tbls := fun b ps q => ⟨#[], by rw [zak (zam q hn), q]; simp⟩
theorem Un.write (mu : Mut (H x)) (he : e = x \/ H e = some (.own x)) (k : ∀ b u, b ≠ e -> h.get? b = some u -> h'.get? b = some u) (heo : ∃ u, h'.get? e = some u) : Un fs ex H (upd H x o) h h' := by
 have hx : ∀ b, H b = none -> b ≠ x := fun b n z => by subst z; rw [n] at mu; exact mu
 have hb : ∀ b, H b = none -> b ≠ e := fun b n z => by
  subst z
  rcases he with r | r
  ·exact hx b n r
  ·rw [n] at r; cases r
 have hm : ∀ b u, H b = some u -> ¬ Mut (some u) -> b ≠ x := fun b u q nm z => by subst z; rw [q] at mu; exact nm mu
 refine ⟨fun b u q n _ _ => k b u (hb b n) q, fun b u q n _ _ => ⟨u.slots, k b u (hb b n) q⟩, fun b u q n _ => by rw [zak (hx b n)]; exact n, fun b u q _ => ?_,
  fun b xs q => by rw [zak (hm b _ q fun z => z)]; exact q, fun b u xs q => by rw [zak (hm b _ q fun z => z)]; exact q, fun b ps q => ⟨#[], by rw [zak (hm b _ q fun z => z), q]; simp⟩⟩
 by_cases hbe : b = e
 ·subst hbe; exact heo
 ·exact ⟨u, k b u hbe q⟩
end
def trk (h : Heap) (H : Hp) : List Addr := (List.range h.objs.size).filter fun a => (H a).isSome
def zpx (h : Heap) (H : Hp) : Heap := PySem.W.hideAll h (trk h H)
theorem zm7 (h : Heap) (H : Hp) : (zpx h H).objs.size = h.objs.size := PySem.W.hideAll_size _ _
theorem zpy {h : Heap} {H : Hp} {b : Addr} {o : Obj} (e : h.get? b = some o) (n : H b = none) : (zpx h H).get? b = some o :=
 PySem.W.hideAll_get _ e fun hm => by
  have q : (H b).isSome = true := (xbv.mp hm).2
  rw [n] at q; simp at q
theorem zr8 {h : Heap} {H : Hp} {b : Addr} {o : Obj} (e : (zpx h H).get? b = some o) : h.get? b = some o /\ H b = none := by
 have e' : h.get? b = some o := PySem.W.of_hideAll (trk h H) e
 refine ⟨e', ?_⟩
 cases q : H b with
 | none => rfl
 | some x =>
  have hm : b ∈ trk h H := xbv.mpr ⟨xa7.mpr (xab e'), by simp [q]⟩
  have z : (zpx h H).get? b = none := PySem.W.hideAll_none (trk h H) hm
  rw [z] at e; cases e
def zr9 (g h : Heap) (L : Addr) : List (Addr × Obj) := (List.range h.objs.size).filterMap fun a => if a = L \/ (g.get? a).isSome = true then none else (h.get? a).map fun o => (a, o)
def zbR (g h : Heap) (L d : Addr) : List (Addr × Obj) := (zr9 g h L).filter fun p => decide (p.1 ≠ d)
end L2
namespace L2
open PySem.Spec PyProof.Rows
structure Mod (K : xFg) (mg : Str -> Option Value) (base : Heap) : Prop where
 kin : K.In base
 glob : base.Ns mainGlobals mg
 blt : ∃ mb, base.Ns builtinsNs mb /\ ∀ x : Str, x ≠ "__name__" -> mb x = bootBuiltins x
 nolimit : base.NoLimit
structure Cx where
 prog : Program
 w : World
 K : xFg
 mg : Str -> Option Value
 base : Heap
 A : Around
 N : List Str
 s₀ : Shared
 H₀ : Hp
 env : Env
 outer : List Env
 stack : List Env
 ex : List Addr
 fn : Str -> Bool
 calm : Bool
 pn : List (Addr × Obj)
 xe : Value -> Shared -> Prop
def frs (l : List Env) : List Addr := l.filterMap (·.frame)
abbrev Cx.fs (X : Cx) : List Addr := frs X.outer
def Vis (sc : Scope) (x : Str) : Prop := sc.names.lookup x = some .local \/ sc.names.lookup x = some .cell \/ sc.names.lookup x = some .free
def Loc (sc : Scope) (x : Str) : Prop := sc.names.lookup x = some .local \/ sc.names.lookup x = some .cell
def Look (env : Env) (h : Heap) (m : Str -> Option Value) (x : Str) (u : Value) : Prop :=
 (env.kindOf x = some .local /\ m x = some u) \/ ((env.kindOf x = some .cell \/ env.kindOf x = some .free) /\ ∃ c, env.cells.lookup x = some c /\ h.IsCell c (some u))
structure Cx.Ok (X : Cx) : Prop where
 mod : Mod X.K X.mg X.base
 kind : X.env.scope.kind = .function
 glob : X.env.globals = mainGlobals
 blt : X.env.builtins = builtinsNs
 above : X.s₀.heap.objs.size <= X.env.locals
 inj : ∀ x y c, X.env.cells.lookup x = some c -> X.env.cells.lookup y = some c -> x = y
 has : ∀ x, (X.env.kindOf x = some .cell \/ X.env.kindOf x = some .free) -> ∃ c, X.env.cells.lookup x = some c
 cab : ∀ x c, X.fn x = true -> X.env.cells.lookup x = some c -> X.s₀.heap.objs.size <= c
 hd : X.calm = true -> X.A.handled = none
 frames : X.A.frames = some X.stack
 stk : X.stack = X.outer \/ (X.stack = X.env :: X.outer /\ X.env.frame = some X.env.locals)
 exf : ∀ b ∈ X.ex, b ≠ X.env.locals /\ ∀ x c, X.env.cells.lookup x = some c -> c ≠ b
 bs : ∀ b o, X.base.get? b = some o -> X.s₀.heap.get? b = some o /\ X.H₀ b = none
 bsz : X.base.objs.size <= X.s₀.heap.objs.size
 noex : ∀ b o, X.base.get? b = some o -> b ∉ X.ex
 exfs : ∀ b ∈ X.ex, b ∉ X.fs
 funs : X.s₀.heap.FunFrames X.base X.outer
 frf : ∀ b ∈ X.fs, X.H₀ b = none
structure Inv (X : Cx) (pins : List (Addr × Obj)) (σ : List (Option V)) (H : Hp) (s : Shared) : Prop where
 ok : X.Ok
 os : s.os = X.s₀.os
 bare : AllBare s.gens
 base : Un X.fs X.ex X.H₀ H X.s₀.heap s.heap
 loc : ∃ m, s.heap.Ns X.env.locals m /\ ∀ (i : Nat) (x : Str) (v : V), X.N[i]? = some x -> σ[i]? = some (some v) -> Vis X.env.scope x -> ∃ u, zbg v u /\ Look X.env s.heap m x u
 cell : ∀ x c, X.env.cells.lookup x = some c -> ∃ v, s.heap.IsCell c v
 free : H X.env.locals = none
 freeC : ∀ x c, X.env.cells.lookup x = some c -> H c = none
 pin : ∀ p ∈ X.pn ++ pins, s.heap.get? p.1 = some p.2 /\ H p.1 = none /\ p.1 ≠ X.env.locals /\ p.1 ∉ X.fs /\ ∀ v, p.2.data ≠ .cell v
 hok : HOk X.prog X.w H s.heap
 len : σ.length = X.N.length
section
variable {X : Cx} {pins : List (Addr × Obj)} {σ : List (Option V)} {H H' : Hp} {s : Shared} {h' : Heap}
theorem Cx.Ok.nofr (ok : X.Ok) {b : Addr} {o : Obj} (e : X.base.get? b = some o) : b ∉ X.fs := fun hb => by
 have := (ok.funs.mem hb).1
 rw [e] at this; cases this
theorem Inv.bs (I : Inv X pins σ H s) : ∀ b o, X.base.get? b = some o -> s.heap.get? b = some o /\ H b = none := fun b o e =>
 ⟨I.base.keep b o (I.ok.bs b o e).1 (I.ok.bs b o e).2 (I.ok.nofr e) (I.ok.noex b o e), I.base.free b o (I.ok.bs b o e).1 (I.ok.bs b o e).2 (I.ok.noex b o e)⟩
theorem Inv.bk (I : Inv X pins σ H s) : ∀ b o, X.base.get? b = some o -> s.heap.get? b = some o := fun b o e => (I.bs b o e).1
theorem Inv.mod (I : Inv X pins σ H s) : Mod X.K X.mg X.base := I.ok.mod
theorem Inv.kIn (I : Inv X pins σ H s) : X.K.In s.heap := I.ok.mod.kin.keeps I.bk
theorem Inv.fr (I : Inv X pins σ H s) : ∃ m, Fr X.base X.env.locals s.heap m :=
 let ⟨m, hn, _⟩ := I.loc
 ⟨m, hn, I.bk, xa3 I.ok.bsz I.ok.above⟩
theorem Inv.lt (I : Inv X pins σ H s) : X.env.locals < s.heap.objs.size := let ⟨_, hn, _⟩ := I.loc; hn.lt
theorem Inv.sz (I : Inv X pins σ H s) : X.s₀.heap.objs.size <= s.heap.objs.size := xa3 I.ok.above (xcq I.lt)
theorem Inv.nofs (I : Inv X pins σ H s) {a : Addr} (h : s.heap.objs.size <= a) : a ∉ X.fs := fun hb => by
 obtain ⟨_, o, ho, _⟩ := I.ok.funs.mem hb
 exact absurd (xai (xab ho) (xa3 I.sz h)) (xbm _)
theorem Inv.cne (I : Inv X pins σ H s) : ∀ x c, X.env.cells.lookup x = some c -> c ≠ X.env.locals := fun x c e z => by
 obtain ⟨v, o, ho, hd⟩ := I.cell x c e
 obtain ⟨m, ⟨o', es, ep, ho', hd', _⟩, _⟩ := I.loc
 rw [z, ho'] at ho; cases ho; rw [hd'] at hd; cases hd
theorem Inv.funs (I : Inv X pins σ H s) : s.heap.FunFrames X.base X.outer := by
 have all : ∀ (l : List Env), (∀ b ∈ frs l, b ∈ X.fs) -> X.s₀.heap.FunFrames X.base l -> s.heap.FunFrames X.base l := by
  intro l
  induction l with
  | nil => intro _ _; trivial
  | cons env r ih =>
   intro hs hl
   obtain ⟨hk, ⟨L, o, hf, hn, ho, hd⟩, hr⟩ := hl
   have hL : L ∈ X.fs := hs L (by unfold frs; rw [xcj, hf]; exact xal)
   obtain ⟨sl, e⟩ := I.base.slot L o ho (I.ok.frf L hL) hL fun z => I.ok.exfs L z hL
   exact ⟨hk, ⟨L, _, hf, hn, e, hd⟩, ih (fun b hb => hs b (by unfold frs; rw [xcj, hf]; exact xaf _ hb)) hr⟩
 exact all X.outer (fun _ hb => hb) I.ok.funs
theorem Inv.stack (I : Inv X pins σ H s) : s.heap.FunFrames X.base X.stack := by
 rcases I.ok.stk with e | ⟨e, hf⟩
 ·rw [e]; exact I.funs
 ·rw [e]
  obtain ⟨m, hn, _⟩ := I.loc
  refine .cons (by rw [I.ok.kind]; decide) hf hn ?_ I.funs
  exact Heap.get?_none_of_le (xa3 I.ok.bsz I.ok.above)
theorem Inv.stkSub (I : Inv X pins σ H s) : ∀ b ∈ frs X.stack, b ∈ X.env.locals :: X.fs := fun b hb => by
 rcases I.ok.stk with e | ⟨e, hf⟩
 ·rw [e] at hb; exact xaf _ hb
 ·rw [e] at hb
  unfold frs at hb
  rw [xcj, hf] at hb
  exact hb
theorem Inv.stkFree (I : Inv X pins σ H s) : ∀ b ∈ frs X.stack, H b = none := fun b hb => by
 rcases xae.mp (I.stkSub b hb) with e | hb
 ·rw [e]; exact I.free
 ·obtain ⟨_, o, ho, _⟩ := I.ok.funs.mem hb
  exact I.base.free b o ho (I.ok.frf b hb) fun z => I.ok.exfs b z hb
theorem Inv.step {g' : Array GenState} {t' : Nat} {d' : Drawn} {ch : List Addr} (I : Inv X pins σ H s)
  (hch : ∀ b ∈ ch, (b ∈ X.ex \/ X.s₀.heap.objs.size <= b) /\ b ≠ X.env.locals /\ (∀ x c, X.env.cells.lookup x = some c -> c ≠ b) /\ ∀ p ∈ X.pn ++ pins, p.1 ≠ b)
  (keep : ∀ b o, b ≠ X.env.locals -> b ∉ X.fs -> b ∉ ch -> s.heap.get? b = some o -> H b = none -> h'.get? b = some o)
  (slot : ∀ b o, b ≠ X.env.locals -> b ∈ X.fs -> b ∉ ch -> s.heap.get? b = some o -> H b = none -> ∃ sl, h'.get? b = some { o with slots := sl }) (free : ∀ b o, b ∉ ch -> s.heap.get? b = some o -> H b = none -> H' b = none)
  (there : ∀ b o, b ∉ ch -> s.heap.get? b = some o -> ∃ o', h'.get? b = some o')
  (tups : ∀ b xs, H b = some (.tup xs) -> H' b = some (.tup xs)) (frzs : ∀ b o u, H b = some (.frz o u) -> H' b = some (.frz o u)) (tbls : ∀ b ps, H b = some (.tbl ps) -> ∃ more, H' b = some (.tbl (ps ++ more)))
  (ns : ∀ m, s.heap.Ns X.env.locals m -> h'.Ns X.env.locals m) (hok : HOk X.prog X.w H' h') (hg : AllBare g') :
  Inv X pins σ H' { s with heap := h', gens := g', drawn := d', toks := t' } := by
 have neL : ∀ b o, X.s₀.heap.get? b = some o -> b ≠ X.env.locals := fun b o e => xan (xai (xab e) I.ok.above)
 have neC : ∀ b o, X.s₀.heap.get? b = some o -> b ∉ X.ex -> b ∉ ch := fun b o e hx hb => by
  rcases (hch b hb).1 with z | z
  ·exact hx z
  ·exact absurd (xai (xab e) z) (xbm _)
 have cellK : ∀ x c, X.env.cells.lookup x = some c -> ∀ v, s.heap.IsCell c v -> h'.IsCell c v := fun x c e v ⟨o, ho, hd⟩ => by
  have nch : c ∉ ch := fun z => (hch c z).2.2.1 x c e rfl
  by_cases hc : c ∈ X.fs
  ·obtain ⟨sl, q⟩ := slot c o (I.cne x c e) hc nch ho (I.freeC x c e)
   exact ⟨_, q, hd⟩
  ·exact ⟨o, keep c o (I.cne x c e) hc nch ho (I.freeC x c e), hd⟩
 refine ⟨I.ok, I.os, hg, ⟨fun b o e n hb hx => ?_, fun b o e n hb hx => ?_, fun b o e n hx => ?_, fun b o e hx => ?_, fun b xs e => tups b xs (I.base.tups b xs e), fun b o xs e => frzs b o xs (I.base.frzs b o xs e), fun b ps e => ?_⟩, ?_, fun x c e => ?_, ?_, fun x c e => ?_, fun p hp => ?_, hok, I.len⟩
 ·exact keep b o (neL b o e) hb (neC b o e hx) (I.base.keep b o e n hb hx) (I.base.free b o e n hx)
 ·obtain ⟨sl, e1⟩ := I.base.slot b o e n hb hx
  obtain ⟨sl', e2⟩ := slot b _ (neL b o e) hb (neC b o e hx) e1 (I.base.free b o e n hx)
  exact ⟨sl', e2⟩
 ·obtain ⟨o', e1⟩ := I.base.there b o e hx
  exact free b o' (neC b o e hx) e1 (I.base.free b o e n hx)
 ·obtain ⟨o', e1⟩ := I.base.there b o e hx
  exact there b o' (neC b o e hx) e1
 ·obtain ⟨m1, e1⟩ := I.base.tbls b ps e
  obtain ⟨m2, e2⟩ := tbls b _ e1
  exact ⟨m1 ++ m2, by rw [e2, Array.append_assoc]⟩
 ·obtain ⟨m, hn, hl⟩ := I.loc
  refine ⟨m, ns m hn, fun i x v e1 e2 e3 => ?_⟩
  obtain ⟨u, r, l⟩ := hl i x v e1 e2 e3
  refine ⟨u, r, ?_⟩
  rcases l with l | ⟨k, c, e, z⟩
  ·exact .inl l
  ·exact .inr ⟨k, c, e, cellK x c e _ z⟩
 ·obtain ⟨v, z⟩ := I.cell x c e
  exact ⟨v, cellK x c e v z⟩
 ·obtain ⟨m, ⟨o, _, _, ho, _⟩, _⟩ := I.loc
  exact free _ o (fun z => (hch _ z).2.1 rfl) ho I.free
 ·obtain ⟨v, o, ho, hd⟩ := I.cell x c e
  exact free c o (fun z => (hch c z).2.2.1 x c e rfl) ho (I.freeC x c e)
 ·obtain ⟨e, n, ne, nf, d⟩ := I.pin p hp
  have nch : p.1 ∉ ch := fun z => (hch p.1 z).2.2.2 p hp rfl
  exact ⟨keep p.1 p.2 ne nf nch e n, free p.1 p.2 nch e n, ne, nf, d⟩
theorem Inv.un {t' : Nat} (I : Inv X pins σ H s) (u : Un X.fs [] H H' s.heap h') (hok : HOk X.prog X.w H' h') : Inv X pins σ H' { s with heap := h', toks := t' } := by
 obtain ⟨m, ⟨o, es, ep, ho, r⟩, _⟩ := id I.loc
 obtain ⟨sl, hL⟩ := u.any ho I.free (by simp)
 exact I.step (g' := s.gens) (d' := s.drawn) (ch := []) (fun _ z => nomatch z) (fun b o _ hb _ e n => u.keep b o e n hb (by simp)) (fun b o _ hb _ e n => u.slot b o e n hb (by simp)) (fun b o _ e n => u.free b o e n (by simp)) (fun b o _ e => u.there b o e (by simp)) u.tups u.frzs u.tbls (fun m' hm => by
  obtain ⟨o', es', ep', ho', r'⟩ := hm
  rw [ho] at ho'; cases ho'
  exact ⟨_, es', ep', hL, r'⟩) hok I.bare
theorem Inv.call {g' : Array GenState} {t' : Nat} {d' : Drawn} {ch : List Addr} (I : Inv X pins σ H s) (u : Un (frs X.stack) ch H H' s.heap h') (hok : HOk X.prog X.w H' h') (hg : AllBare g')
  (hch : ∀ b ∈ ch, (b ∈ X.ex \/ X.s₀.heap.objs.size <= b) /\ b ≠ X.env.locals /\ (∀ x c, X.env.cells.lookup x = some c -> c ≠ b) /\ ∀ p ∈ X.pn ++ pins, p.1 ≠ b) :
  Inv X pins σ H' { s with heap := h', gens := g', drawn := d', toks := t' } := by
 obtain ⟨m, ⟨o, es, ep, ho, r⟩, _⟩ := id I.loc
 obtain ⟨sl, hL⟩ := u.any ho I.free fun z => (hch _ z).2.1 rfl
 exact I.step (ch := ch) hch (fun b o hL hb hc e n => u.keep b o e n (fun z => (xae.mp (I.stkSub b z)).elim hL hb) hc) (fun b o _ _ hc e n => u.any e n hc) (fun b o hc e n => u.free b o e n hc) (fun b o hc e => u.there b o e hc) u.tups u.frzs u.tbls (fun m' hm => by
  obtain ⟨o', es', ep', ho', r'⟩ := hm
  rw [ho] at ho'; cases ho'
  exact ⟨_, es', ep', hL, r'⟩) hok hg
theorem Inv.turned {t' : Nat} {it : Addr} (I : Inv X pins σ H s) (k : ∀ b o, b ≠ it -> s.heap.get? b = some o -> h'.get? b = some o) (hn : H it = none) (hL : it ≠ X.env.locals)
  (h1 : it ∈ X.ex \/ X.s₀.heap.objs.size <= it) (h2 : ∀ x c, X.env.cells.lookup x = some c -> c ≠ it) (h3 : ∀ p ∈ X.pn ++ pins, p.1 ≠ it) : Inv X pins σ H { s with heap := h', toks := t' } := by
 have nit : ∀ b u, H b = some u -> b ≠ it := fun b u e z => by rw [z, hn] at e; cases e
 refine I.step (g' := s.gens) (d' := s.drawn) (ch := [it]) (fun b hb => ?_) (fun b o _ _ hc e _ => k b o (fun z => hc (by simp [z])) e) (fun b o _ _ hc e _ => ⟨o.slots, k b o (fun z => hc (by simp [z])) e⟩) (fun _ _ _ _ n => n)
  (fun b o hc e => ⟨o, k b o (fun z => hc (by simp [z])) e⟩) (fun _ _ e => e) (fun _ _ _ e => e) (fun b ps e => ⟨#[], by rw [e]; simp⟩) (fun m hm => ?_) (fun b u e => ?_) I.bare
 ·have e : b = it := by simpa using hb
  subst e
  exact ⟨h1, hL, h2, h3⟩
 ·obtain ⟨o, es, ep, ho, r⟩ := hm
  exact ⟨o, es, ep, k _ o (xay hL) ho, r⟩
 ·refine (I.hok b u e).stay (fun c v hc q => k c v ?_ q) (fun _ q => q) fun _ _ q => q
  rcases hc with z | z
  ·rw [z]; exact nit b u e
  ·exact nit c _ z
theorem Inv.tok (I : Inv X pins σ H s) (t : Nat) : Inv X pins σ H { s with toks := t } := I.un (h' := s.heap) (t' := t) Un.refl I.hok
theorem Inv.kept {t' : Nat} (I : Inv X pins σ H s) (k : ∀ b u, s.heap.get? b = some u -> h'.get? b = some u) : Inv X pins σ H { s with heap := h', toks := t' } := I.un (Un.kept k) (I.hok.kept k)
theorem Inv.laid {a : Addr} {o : HO} {t' : Nat} (I : Inv X pins σ H s) (k : ∀ b u, s.heap.get? b = some u -> h'.get? b = some u) (hp : s.heap.objs.size <= a) (new : zcr X.prog X.w (upd H a o) h' a o) :
  Inv X pins σ (upd H a o) { s with heap := h', toks := t' } := I.un (Un.laid k hp (I.hok.fresh hp)) (I.hok.laid k hp new)
theorem Inv.write {x e : Addr} {o : HO} {t' : Nat} (I : Inv X pins σ H s) (mu : Mut (H x)) (he : e = x \/ H e = some (.own x)) (k : ∀ b u, b ≠ e -> s.heap.get? b = some u -> h'.get? b = some u) (heo : ∃ u, h'.get? e = some u)
  (new : zcr X.prog X.w (upd H x o) h' x o) : Inv X pins σ (upd H x o) { s with heap := h', toks := t' } := I.un (Un.write mu he k heo) (I.hok.write mu he k heo new)
theorem Inv.weak {σ' : List (Option V)} (I : Inv X pins σ H s) (hl : σ'.length = σ.length) (w : ∀ (i : Nat) v, σ'[i]? = some (some v) -> σ[i]? = some (some v)) : Inv X pins σ' H s :=
 ⟨I.ok, I.os, I.bare, I.base, let ⟨m, hn, hl'⟩ := I.loc; ⟨m, hn, fun i x v e1 e2 e3 => hl' i x v e1 (w i v e2) e3⟩, I.cell, I.free, I.freeC, I.pin, I.hok, hl.trans I.len⟩
theorem Inv.pins_of {pins' : List (Addr × Obj)} (I : Inv X pins σ H s) (h : ∀ p ∈ pins', s.heap.get? p.1 = some p.2 /\ H p.1 = none /\ p.1 ≠ X.env.locals /\ p.1 ∉ X.fs /\ ∀ v, p.2.data ≠ .cell v) : Inv X pins' σ H s :=
 ⟨I.ok, I.os, I.bare, I.base, I.loc, I.cell, I.free, I.freeC, fun p hp => (xbd.mp hp).elim (fun z => I.pin p (List.mem_append_left _ z)) (h p), I.hok, I.len⟩
theorem zii {N : List Str} (hN : N.Nodup) {i j : Nat} {x : Str} (a : N[i]? = some x) (b : N[j]? = some x) : i = j := by
 obtain ⟨h1, e1⟩ := xah.mp a
 obtain ⟨h2, e2⟩ := xah.mp b
 exact (List.getElem_inj hN).mp (e1.trans e2.symm)
theorem zm8 {M : Model} {A : Around} {E : Value -> Shared -> Prop} {i : Nat} {x : Str} {v : V} {u : Value} {Q : Unit -> Shared -> Prop} (I : Inv X pins σ H s) (hN : X.N.Nodup) (hi : X.N[i]? = some x) (hx : Loc X.env.scope x) (r : zbg v u)
  (h : ∀ s', Inv X pins (σ.set i (some v)) H s' -> (∃ a, Heap.SameBut a s.heap s'.heap /\ (a = X.env.locals \/ X.env.cells.lookup x = some a)) -> Q () s') (hf : X.fn x = true \/ X.env.scope.names.lookup x = some .local := by first | exact .inl rfl | exact .inr rfl | assumption) : wpAny M A (storeName X.env x u) Q E s := by
 obtain ⟨m, hn, hl⟩ := id I.loc
 have hcls : (X.env.scope.kind == .class || (X.env.scope.kind == .module && X.env.locals != X.env.globals)) = false := by rw [I.ok.kind]; rfl
 have hiσ : i < σ.length := by rw [I.len]; exact (xah.mp hi).1
 have cne := I.cne
 have tracked : ∀ {a : Addr} {h' : Heap}, (∃ o, s.heap.get? a = some o /\ H a = none) -> Heap.SameBut a s.heap h' -> HOk X.prog X.w H h' := fun {a h'} ha hs b ob e => by
  obtain ⟨_, _, hfree⟩ := ha
  refine (I.hok b ob e).stay (fun c w' hc q => (hs.2 c ?_).trans q) (fun _ q => q) fun _ _ q => q
  rintro rfl
  rcases hc with rfl | hc
  ·rw [hfree] at e; cases e
  ·rw [hfree] at hc; cases hc
 rcases hx with hk | hk
 ·refine wpAny_storeName_local hk hn (fun h' hn' hs => ?_) hcls
  obtain ⟨oL, _, _, hoL, _⟩ := id hn
  refine h _ ⟨I.ok, I.os, I.bare, ⟨fun b o e n hb hx => ?_, fun b o e n hb hx => ?_, I.base.free, fun b o e hx => ?_, I.base.tups, I.base.frzs, I.base.tbls⟩, ⟨_, hn', fun j y v' e1 e2 e3 => ?_⟩, fun y c e => ?_, I.free, I.freeC, fun p hp => ?_, tracked ⟨oL, hoL, I.free⟩ hs, by simpa using I.len⟩ ⟨_, hs, .inl rfl⟩
  ·exact (hs.2 b (xan (xai (xab e) I.ok.above))).trans (I.base.keep b o e n hb hx)
  ·obtain ⟨sl, e1⟩ := I.base.slot b o e n hb hx
   exact ⟨sl, (hs.2 b (xan (xai (xab e) I.ok.above))).trans e1⟩
  ·obtain ⟨o', e1⟩ := I.base.there b o e hx
   exact ⟨o', (hs.2 b (xan (xai (xab e) I.ok.above))).trans e1⟩
  ·by_cases hj : j = i
   ·subst hj
    rw [hi] at e1; cases e1
    rw [xa4 hiσ] at e2
    cases e2
    exact ⟨u, r, .inl ⟨hk, by simp⟩⟩
   ·rw [xam (xay hj)] at e2
    obtain ⟨u', r', q⟩ := hl j y v' e1 e2 e3
    refine ⟨u', r', ?_⟩
    rcases q with ⟨k, e⟩ | ⟨k, c, e, z⟩
    ·refine .inl ⟨k, ?_⟩
     have : y ≠ x := fun e => hj (zii hN e1 (e ▸ hi))
     simp [this, e]
    ·exact .inr ⟨k, c, e, z.sameBut hs (cne y c e)⟩
  ·obtain ⟨w', z⟩ := I.cell y c e
   exact ⟨w', z.sameBut hs (cne y c e)⟩
  ·obtain ⟨e, n, ne, nf, d⟩ := I.pin p hp
   exact ⟨(hs.2 p.1 ne).trans e, n, ne, nf, d⟩
 ·have hfn : X.fn x = true := by
   rcases hf with z | z
   ·exact z
   ·rw [z] at hk; cases hk
  obtain ⟨c, hc⟩ := I.ok.has x (.inl hk)
  obtain ⟨w', z⟩ := I.cell x c hc
  refine wpAny_storeName_cell I.ok.kind hk hc z (fun h' hc' hs => ?_)
  obtain ⟨oc, hoc, hocd⟩ := id z
  refine h { s with heap := h' } ⟨I.ok, I.os, I.bare, ⟨fun b o e n hb hx => ?_, fun b o e n hb hx => ?_, I.base.free, fun b o e hx => ?_, I.base.tups, I.base.frzs, I.base.tbls⟩, ⟨m, hn.sameBut hs (xay (cne x c hc)), fun j y v' e1 e2 e3 => ?_⟩, fun y c' e => ?_, I.free, I.freeC, fun p hp => ?_, tracked ⟨oc, hoc, I.freeC x c hc⟩ hs, by simpa using I.len⟩ ⟨c, hs, .inr hc⟩
  ·exact (hs.2 b (xan (xai (xab e) (I.ok.cab x c hfn hc)))).trans (I.base.keep b o e n hb hx)
  ·obtain ⟨sl, e1⟩ := I.base.slot b o e n hb hx
   exact ⟨sl, (hs.2 b (xan (xai (xab e) (I.ok.cab x c hfn hc)))).trans e1⟩
  ·obtain ⟨o', e1⟩ := I.base.there b o e hx
   exact ⟨o', (hs.2 b (xan (xai (xab e) (I.ok.cab x c hfn hc)))).trans e1⟩
  ·by_cases hj : j = i
   ·subst hj
    rw [hi] at e1; cases e1
    rw [xa4 hiσ] at e2
    cases e2
    exact ⟨u, r, .inr ⟨.inl hk, c, hc, hc'⟩⟩
   ·rw [xam (xay hj)] at e2
    obtain ⟨u', r', q⟩ := hl j y v' e1 e2 e3
    refine ⟨u', r', ?_⟩
    rcases q with q | ⟨k, c', e, z'⟩
    ·exact .inl q
    ·refine .inr ⟨k, c', e, z'.sameBut hs ?_⟩
     rintro rfl
     exact hj (zii hN e1 (I.ok.inj _ _ _ e hc ▸ hi))
  ·by_cases hcc : c' = c
   ·subst hcc; exact ⟨_, hc'⟩
   ·obtain ⟨w2, z2⟩ := I.cell y c' e
    exact ⟨w2, z2.sameBut hs hcc⟩
  ·obtain ⟨e, n, ne, nf, d⟩ := I.pin p hp
   refine ⟨(hs.2 p.1 ?_).trans e, n, ne, nf, d⟩
   intro q
   rw [q, hoc] at e
   have q' : oc = p.2 := Option.some.inj e
   exact d w' (by rw [<- q']; exact hocd)
theorem zeb {M : Model} {A : Around} {E : Value -> Shared -> Prop} {i : Nat} {x : Str} {v : V} {u : Value} {Q : Unit -> Shared -> Prop} (I : Inv X pins σ H s) (hN : X.N.Nodup) (hi : X.N[i]? = some x) (hx : Loc X.env.scope x) (r : zbg v u)
  (h : ∀ s', Inv X pins (σ.set i (some v)) H s' -> Q () s') (hf : X.fn x = true \/ X.env.scope.names.lookup x = some .local := by first | exact .inl rfl | exact .inr rfl | assumption) : wpAny M A (storeName X.env x u) Q E s :=
 zm8 I hN hi hx r (fun s' I' _ => h s' I') hf
theorem Inv.call' {s' : Shared} {ch : List Addr} (I : Inv X pins σ H s) (ho : s'.os = s.os) (u : Un (frs X.stack) ch H H' s.heap s'.heap) (hok : HOk X.prog X.w H' s'.heap) (hg : AllBare s'.gens)
  (hch : ∀ b ∈ ch, (b ∈ X.ex \/ X.s₀.heap.objs.size <= b) /\ b ≠ X.env.locals /\ (∀ x c, X.env.cells.lookup x = some c -> c ≠ b) /\ ∀ p ∈ X.pn ++ pins, p.1 ≠ b) : Inv X pins σ H' s' := by
 obtain ⟨h', g', d', t', o'⟩ := s'
 have e : o' = s.os := ho
 subst e
 exact I.call (g' := g') (t' := t') (d' := d') u hok hg hch
end
abbrev XK := Value -> Option Addr -> Hp -> Prop
abbrev St := List (Option V)
abbrev VK := V -> Hp -> Prop
abbrev TE := St -> Hp -> VK -> Prop
abbrev TT := St -> Hp -> (Bool -> Hp -> Prop) -> Prop
abbrev TA := St -> Hp -> (List V -> Hp -> Prop) -> Prop
structure zm2 where
 nx : St -> Hp -> Prop
 rt : VK
 bk : St -> Hp -> Prop := fun _ _ => False
 ct : St -> Hp -> Prop := fun _ _ => False
abbrev TS := zm2 -> St -> Hp -> Prop
def EP (X : Cx) (pins : List (Addr × Obj)) (σ : St) (Q : VK) (u : Value) (s' : Shared) : Prop := ∃ v H', Inv X pins σ H' s' /\ zbg v u /\ Q v H'
def TP (X : Cx) (pins : List (Addr × Obj)) (σ : St) (Q : Bool -> Hp -> Prop) (b : Bool) (s' : Shared) : Prop := ∃ H', Inv X pins σ H' s' /\ Q b H'
def AP (X : Cx) (pins : List (Addr × Obj)) (σ : St) (Q : List V -> Hp -> Prop) (us : List Value) (s' : Shared) : Prop := ∃ vs H', Inv X pins σ H' s' /\ zbi vs us /\ Q vs H'
def SP (X : Cx) (pins : List (Addr × Obj)) (D : zm2) (f : Flow) (s' : Shared) : Prop :=
 match f with
 | .next => ∃ σ' H', Inv X pins σ' H' s' /\ D.nx σ' H'
 | .brk => ∃ σ' H', Inv X pins σ' H' s' /\ D.bk σ' H'
 | .cont => ∃ σ' H', Inv X pins σ' H' s' /\ D.ct σ' H'
 | .ret u => ∃ v σ' H', Inv X pins σ' H' s' /\ zbg v u /\ D.rt v H'
def PE (X : Cx) (e : Expr) (t : TE) : Prop :=
 ∀ (pins : List (Addr × Obj)) (s : Shared) (σ : St) (H : Hp) (Q : VK), Inv X pins σ H s -> t σ H Q -> wpAny (model X.prog X.w) X.A (eval e X.env) (EP X pins σ Q) X.xe s
def PT (X : Cx) (e : Expr) (t : TT) : Prop :=
 ∀ (pins : List (Addr × Obj)) (s : Shared) (σ : St) (H : Hp) (Q : Bool -> Hp -> Prop), Inv X pins σ H s -> t σ H Q -> wpAny (model X.prog X.w) X.A (isTrue e X.env (eval e X.env)) (TP X pins σ Q) X.xe s
def PW (X : Cx) (e : Expr) (t : TT) : Prop :=
 ∀ (whole : Sem Value) (pins : List (Addr × Obj)) (s : Shared) (σ : St) (H : Hp) (Q : Bool -> Hp -> Prop), Inv X pins σ H s -> t σ H Q -> wpAny (model X.prog X.w) X.A (isTrue e X.env whole) (TP X pins σ Q) X.xe s
def PA (X : Cx) (es : List Expr) (t : TA) : Prop :=
 ∀ (pos : Pos) (pins : List (Addr × Obj)) (s : Shared) (σ : St) (H : Hp) (Q : List V -> Hp -> Prop), Inv X pins σ H s -> t σ H Q -> wpAny (model X.prog X.w) X.A (spliced (backTo pos (starEach es X.env))) (AP X pins σ Q) X.xe s
def PS (X : Cx) (st : Stmt) (t : TS) : Prop :=
 ∀ (pins : List (Addr × Obj)) (s : Shared) (σ : St) (H : Hp) (D : zm2), Inv X pins σ H s -> t D σ H -> wpAny (model X.prog X.w) X.A (exec st X.env) (SP X pins D) X.xe s
def PSs (X : Cx) (st : List Stmt) (t : TS) : Prop :=
 ∀ (pins : List (Addr × Obj)) (s : Shared) (σ : St) (H : Hp) (D : zm2), Inv X pins σ H s -> t D σ H -> wpAny (model X.prog X.w) X.A (execs st X.env) (SP X pins D) X.xe s
theorem thn {α : Type} {t : Sem α} {Q Q' : α -> Shared -> Prop} {M : Model} {A : Around} {E : Value -> Shared -> Prop} {s : Shared} (h : wpAny M A t Q E s) (hQ : ∀ a s, Q a s -> Q' a s) : wpAny M A t Q' E s := wpAny_mono h hQ fun _ _ x => x
end L2
namespace L2
open PySem.Spec PyProof.Rows
section
variable {X : Cx}
theorem bin {a b : Expr} {ta tb : TE} (ha : PE X a ta) (hb : PE X b tb) {pins : List (Addr × Obj)} {s : Shared} {σ : St} {H : Hp} {R : V -> V -> Hp -> Prop} (I : Inv X pins σ H s) (h : ta σ H fun x H1 => tb σ H1 fun y H2 => R x y H2)
  {α : Type} {Q : α -> Shared -> Prop} {f : Value -> Value -> Sem α}
  (hf : ∀ v u s2 x y H2, Inv X pins σ H2 s2 -> zbg x v -> zbg y u -> R x y H2 -> wpAny (model X.prog X.w) X.A (f v u) Q X.xe s2) :
  wpAny (model X.prog X.w) X.A (eval a X.env) (fun v s₁ => wpAny (model X.prog X.w) X.A (eval b X.env) (fun u s₂ => wpAny (model X.prog X.w) X.A (f v u) Q X.xe s₂) X.xe s₁) X.xe s := by
 refine thn (ha pins s σ H _ I h) fun v s1 ⟨x, H1, I1, r1, q1⟩ => ?_
 refine thn (hb pins s1 σ H1 _ I1 q1) fun u s2 ⟨y, H2, I2, r2, q2⟩ => ?_
 exact hf v u s2 x y H2 I2 r1 r2 q2
def tVar (i : Nat) : TE := fun σ H Q => ∃ v, σ[i]? = some (some v) /\ Q v H
def tC (v : V) : TE := fun _ H Q => Q v H
theorem ztS {i : Nat} {x : Str} {pos : Pos} (hN : X.N[i]? = some x) (hv : Vis X.env.scope x) (hd : (x == ("__debug__" : Str)) = false := by decide) (hcd : (x == ("__classdict__" : Str)) = false := by decide) : PE X (.Name x pos) (tVar i) := by
 intro pins s σ H Q I h
 obtain ⟨v, e, h⟩ := h
 obtain ⟨m, hn, hl⟩ := I.loc
 obtain ⟨u, r, l⟩ := hl i x v hN e hv
 have fin : EP X pins σ Q u s := ⟨v, H, I, r, h⟩
 rcases l with ⟨hk, hm⟩ | ⟨hk, c, hc, hcell⟩
 ·exact wpAny_Name (wpAny_loadName_local I.ok.kind hk hn hm fin) hd
 ·rcases hk with hk | hk
  ·exact wpAny_Name (wpAny_loadName_cell I.ok.kind hk hc hcell fin) hd
  ·exact wpAny_Name (wpAny_loadName_free I.ok.kind hk hc hcell fin hcd) hd
theorem ztT {i j pos} : PE X (.Constant (.int i) j pos) (tC (.int i)) := fun _ _ _ H _ I h => wpAny_Constant_int ⟨.int i, H, I.tok _, ⟨_, rfl⟩, h⟩
theorem zwn {b j pos} : PE X (.Constant (.bool b) j pos) (tC (.bl b)) := fun _ _ _ H _ I h => Constant_bool ⟨.bl b, H, I, rfl, h⟩
theorem ztU {j pos} : PE X (.Constant .none j pos) (tC .non) := fun _ _ _ H _ I h => Constant_none ⟨.non, H, I, rfl, h⟩
theorem ztV {x j pos} : PE X (.Constant (.str x) j pos) (tC (.str x)) := fun _ _ _ H _ I h => Calls.Constant_str ⟨.str x, H, I.tok _, ⟨_, rfl⟩, h⟩
def Gl (X : Cx) (x : Str) : Prop := X.env.kindOf x = some .globalImplicit
theorem zfF {E : Value -> Shared -> Prop} {pins : List (Addr × Obj)} {s : Shared} {σ : St} {H : Hp} {x : Str} {u : Value} {pos : Pos} {Q : Value -> Shared -> Prop} (I : Inv X pins σ H s) (hg : Gl X x) (hm : X.mg x = some u) (h : Q u s)
  (hd : (x == ("__debug__" : Str)) = false := by decide) : wpAny (model X.prog X.w) X.A (eval (.Name x pos) X.env) Q E s :=
 Calls.Name_function_global I.ok.kind hg (Calls.loadGlobal_global (by rw [I.ok.glob]; exact I.mod.glob.keeps I.bk) hm h) hd
theorem zhK {E : Value -> Shared -> Prop} {pins : List (Addr × Obj)} {s : Shared} {σ : St} {H : Hp} {x : Str} {u : Value} {pos : Pos} {Q : Value -> Shared -> Prop} (I : Inv X pins σ H s) (hg : Gl X x) (hm : X.mg x = none) (hv : bootBuiltins x = some u) (h : Q u s)
  (hn : x ≠ "__name__" := by decide) (hd : (x == ("__debug__" : Str)) = false := by decide) : wpAny (model X.prog X.w) X.A (eval (.Name x pos) X.env) Q E s := by
 obtain ⟨mb, h1, h2⟩ := I.mod.blt
 exact Calls.Name_function_global I.ok.kind hg (Calls.loadGlobal_builtin (by rw [I.ok.glob]; exact I.mod.glob.keeps I.bk) hm (by rw [I.ok.blt]; exact h1.keeps I.bk) ((h2 x hn).trans hv) h) hd
theorem zsa {x : Str} {v : V} {u : Value} {pos : Pos} (hg : Gl X x) (hm : X.mg x = some u) (r : zbg v u) (hd : (x == ("__debug__" : Str)) = false := by decide) : PE X (.Name x pos) (tC v) :=
 fun _ _ _ H _ I h => zfF I hg hm ⟨v, H, I, r, h⟩ hd
theorem zsb {x : Str} {v : V} {u : Value} {pos : Pos} (hg : Gl X x) (hm : X.mg x = none) (hv : bootBuiltins x = some u) (r : zbg v u) (hn : x ≠ "__name__" := by decide) (hd : (x == ("__debug__" : Str)) = false := by decide) : PE X (.Name x pos) (tC v) :=
 fun _ _ _ H _ I h => zhK I hg hm hv ⟨v, H, I, r, h⟩ hn hd
variable {a b : Expr} {ta tb : TE} {pos : Pos}
def PC (X : Cx) (op : CmpOp) (a b : Expr) (t : TE) : Prop :=
 ∀ (pins : List (Addr × Obj)) (s : Shared) (σ : St) (H : Hp) (Q : VK), Inv X pins σ H s -> t σ H Q ->
  wpAny (model X.prog X.w) X.A (eval a X.env) (fun v s₁ => wpAny (model X.prog X.w) X.A (eval b X.env) (fun u s₂ => wpAny (model X.prog X.w) X.A (compareOp op v u) (EP X pins σ Q) X.xe s₂) X.xe s₁) X.xe s
theorem za3 (b : Expr) {op : CmpOp} (h : op ≠ .In) (h2 : op ≠ .NotIn) : behindInMarks op b = false := by
 have e1 : (op == CmpOp.In) = false := by cases op <;> first | rfl | exact absurd rfl h
 have e2 : (op == CmpOp.NotIn) = false := by cases op <;> first | rfl | exact absurd rfl h2
 cases b <;> simp [behindInMarks, e1, e2]
def tB (t : TE) : TT := fun σ H Q => t σ H fun x H1 => ∃ c, x = .bl c /\ Q c H1
theorem pt_cmp {op : CmpOp} {t : TE} (h : PC X op a b t) (h1 : behindInMarks op b = false := by first | exact za3 _ (by decide) (by decide) | rfl) : PT X (.Compare a [op] [b] pos) (tB t) := by
 intro pins s σ H Q I hw
 refine wpAny_isTrue_Compare1 (thn (h pins s σ H _ I hw) fun v s1 h1 => thn h1 fun u s2 h2 => thn h2 fun c s3 ⟨x, H1, I1, r1, q1⟩ => ?_) h1
 obtain ⟨d, rfl, q⟩ := q1
 cases r1
 exact wpAny_truthy_bool ⟨H1, I1, q⟩
theorem ztW {e : Expr} {t : TE} (h : PE X e t) (he : ∀ whole, isTrue e X.env whole = (do let v <- whole; standAt e.pos; holding [v] (truthy v)) := by intro _; rfl) : PT X e (tB t) := by
 intro pins s σ H Q I hw
 refine isTrue_plain (thn (h pins s σ H _ I hw) fun v s1 ⟨x, H1, I1, r1, q1⟩ => ?_) (he _)
 obtain ⟨d, rfl, q⟩ := q1
 cases r1
 exact wpAny_truthy_bool ⟨H1, I1, q⟩
variable {tA tB' : TT} {zbR : List Expr}
def tAnd (t u : TT) : TT := fun σ H Q => t σ H fun c H1 => if c = true then u σ H1 Q else Q false H1
def tOr (t u : TT) : TT := fun σ H Q => t σ H fun c H1 => if c = true then Q true H1 else u σ H1 Q
def tNot (t : TT) : TT := fun σ H Q => t σ H fun c H1 => Q (!c) H1
theorem zsc (ha : PT X a tA) : PW X (.BoolOp .And [a] pos) tA := by
 intro wh pins s σ H Q I h
 refine isTrue_and (thn (ha pins s σ H Q I h) fun c s1 e => ?_)
 cases c with
 | true => exact isTrue_and_nil e
 | false => exact e
theorem ztX (ha : PT X a tA) : PW X (.BoolOp .Or [a] pos) tA := by
 intro wh pins s σ H Q I h
 refine isTrue_or (thn (ha pins s σ H Q I h) fun c s1 e => ?_)
 cases c with
 | false => exact isTrue_or_nil e
 | true => exact e
theorem ztY (ha : PT X a tA) (hb : PW X (.BoolOp .And (b :: zbR) pos) tB') : PW X (.BoolOp .And (a :: b :: zbR) pos) (tAnd tA tB') := by
 intro wh pins s σ H Q I h
 refine isTrue_and (thn (ha pins s σ H _ I h) fun c s1 ⟨H1, I1, q1⟩ => ?_)
 cases c with
 | true => exact hb wh pins s1 σ H1 Q I1 q1
 | false => exact ⟨H1, I1, q1⟩
theorem zwo (ha : PT X a tA) (hb : PW X (.BoolOp .Or (b :: zbR) pos) tB') : PW X (.BoolOp .Or (a :: b :: zbR) pos) (tOr tA tB') := by
 intro wh pins s σ H Q I h
 refine isTrue_or (thn (ha pins s σ H _ I h) fun c s1 ⟨H1, I1, q1⟩ => ?_)
 cases c with
 | true => exact ⟨H1, I1, q1⟩
 | false => exact hb wh pins s1 σ H1 Q I1 q1
theorem ztZ (ha : PT X a tA) : PT X (.UnaryOp .Not a pos) (tNot tA) := by
 intro pins s σ H Q I h
 exact isTrue_not (ha pins s σ H (fun c H1 => Q (!c) H1) I h)
def zwp (ta tb : TE) : TE := fun σ H Q => ta σ H fun x H1 => ∃ c, x = .bl c /\ if c = true then tb σ H1 Q else Q (.bl false) H1
def tOrV (ta tb : TE) : TE := fun σ H Q => ta σ H fun x H1 => ∃ c, x = .bl c /\ if c = true then Q (.bl true) H1 else tb σ H1 Q
def zwq (ta : TE) : TE := fun σ H Q => ta σ H fun x H1 => ∃ c, x = .bl c /\ Q (.bl (!c)) H1
theorem zt0 {op} {t : TE} (h : PE X a t) : PE X (.BoolOp op [a] pos) t := fun pins s σ H Q I hw => BoolOp_one (h pins s σ H Q I hw)
theorem zt1 (ha : PE X a ta) (hb : PE X (.BoolOp .And (b :: zbR) pos) tb) : PE X (.BoolOp .And (a :: b :: zbR) pos) (zwp ta tb) := by
 intro pins s σ H Q I h
 refine BoolOp_and (thn (ha pins s σ H _ I h) fun v s1 ⟨x, H1, I1, r1, q1⟩ => ?_)
 obtain ⟨c, rfl, q1⟩ := q1
 cases r1
 refine wpAny_truthy_bool ?_
 cases c with
 | true => exact hb pins s1 σ H1 Q I1 q1
 | false => exact ⟨.bl false, H1, I1, rfl, q1⟩
theorem zwr (ha : PE X a ta) (hb : PE X (.BoolOp .Or (b :: zbR) pos) tb) : PE X (.BoolOp .Or (a :: b :: zbR) pos) (tOrV ta tb) := by
 intro pins s σ H Q I h
 refine BoolOp_or (thn (ha pins s σ H _ I h) fun v s1 ⟨x, H1, I1, r1, q1⟩ => ?_)
 obtain ⟨c, rfl, q1⟩ := q1
 cases r1
 refine wpAny_truthy_bool ?_
 cases c with
 | false => exact hb pins s1 σ H1 Q I1 q1
 | true => exact ⟨.bl true, H1, I1, rfl, q1⟩
theorem zt2 (ha : PE X a ta) : PE X (.UnaryOp .Not a pos) (zwq ta) := by
 intro pins s σ H Q I h
 refine UnaryOp_ (thn (ha pins s σ H _ I h) fun v s1 ⟨x, H1, I1, r1, q1⟩ => ?_)
 obtain ⟨c, rfl, q1⟩ := q1
 cases r1
 exact not_of (wpAny_truthy_bool ⟨.bl (!c), H1, I1, rfl, q1⟩)
end
end L2
namespace L2
open PySem.Spec PyProof.Rows
def SqL (K : xFg) (H : Hp) (a : Addr) (xs : List V) : Prop :=
 Rd H a (.lst xs) \/
  ∃ (o : Obj) (its : Array Value) (n : Nat), K.lookup a = some o /\ o.cls = .type "list" /\ o.dict = none /\ o.data = .seq its n /\ its.size <= sizeLine /\ zbi xs its.toList
def SqT (K : xFg) (H : Hp) (a : Addr) (xs : List V) : Prop :=
 Rd H a (.tup xs) \/
  ∃ (o : Obj) (its : Array Value) (n : Nat), K.lookup a = some o /\ o.cls = .type "tuple" /\ o.data = .seq its n /\ its.size <= sizeLine /\ zbi xs its.toList
def absV : Value -> Option V
 | .none => some .non
 | .bool b => some (.bl b)
 | .int i _ => some (.int i)
 | .str x _ => some (.str x)
 | .bytes b _ => some (.byt b)
 | .float b _ => some (.flt b)
 | .ref a => some (.ref a)
 | .type n => some (.ty n)
 | _ => none
theorem zbg.abs {x : V} {u : Value} (r : zbg x u) : absV u = some x := by
 cases x with
 | non => cases r; rfl
 | bl _ => cases r; rfl
 | int _ => obtain ⟨t, rfl⟩ := r; rfl
 | str _ => obtain ⟨t, rfl⟩ := r; rfl
 | byt _ => obtain ⟨t, rfl⟩ := r; rfl
 | flt _ => obtain ⟨t, rfl⟩ := r; rfl
 | ref _ => cases r; rfl
 | ty _ => cases r; rfl
theorem zbg.inj {x y : V} {u : Value} (r : zbg x u) (q : zbg y u) : x = y := Option.some.inj (r.abs.symm.trans q.abs)
theorem zbi.inj : ∀ {xs ys : List V} {us : List Value}, zbi xs us -> zbi ys us -> xs = ys
 | _, _, _, .nil, .nil => rfl
 | _, _, _, .cons r t, .cons r' t' => by rw [r.inj r', zbi.inj t t']
section
variable {X : Cx} {pins : List (Addr × Obj)} {σ : St} {H : Hp} {s : Shared} {a : Addr} {xs ys : List V}
theorem SqL.of {K : xFg} (h : H a = some (.lst xs)) : SqL K H a xs := .inl (.inl h)
theorem SqT.of {K : xFg} (h : H a = some (.tup xs)) : SqT K H a xs := .inl (.inl h)
theorem Inv.list (I : Inv X pins σ H s) (h : SqL X.K H a xs) : ∃ its : List Value, zbi xs its /\ PlainL s.heap a its.toArray /\ xs.length <= sizeLine := by
 rcases h with h | ⟨o, its, n, hk, hc, hd, hs, hz, r⟩
 ·obtain ⟨z, its, n, r, e⟩ := h.ok I.hok
  exact ⟨its, r, ⟨_, n, e, rfl, rfl, rfl⟩, z⟩
 ·refine ⟨its.toList, r, ⟨o, n, I.kIn a o hk, hc, hd, by simpa using hs⟩, ?_⟩
  have e := r.length
  simp only [xas] at e
  omega
theorem Inv.tuple (I : Inv X pins σ H s) (h : SqT X.K H a xs) : ∃ its : List Value, zbi xs its /\ IsTup s.heap a its.toArray /\ xs.length <= sizeLine := by
 rcases h with h | ⟨o, its, n, hk, hc, hs, hz, r⟩
 ·obtain ⟨z, its, r, p⟩ := h.ok I.hok
  exact ⟨its, r, p, z⟩
 ·refine ⟨its.toList, r, ⟨o, I.kIn a o hk, hc, n, by simpa using hs⟩, ?_⟩
  have e := r.length
  simp only [xas] at e
  omega
theorem Inv.list_inj (I : Inv X pins σ H s) (h : SqL X.K H a xs) (h' : SqL X.K H a ys) : xs = ys := by
 obtain ⟨its, r, ⟨o, n, e, _, _, d⟩, _⟩ := I.list h
 obtain ⟨its', r', ⟨o', n', e', _, _, d'⟩, _⟩ := I.list h'
 rw [e] at e'; cases e'
 rw [d] at d'
 injection d' with d1 _
 have : its = its' := by simpa using congrArg Array.toList d1
 subst this
 exact r.inj r'
theorem Inv.tuple_inj (I : Inv X pins σ H s) (h : SqT X.K H a xs) (h' : SqT X.K H a ys) : xs = ys := by
 obtain ⟨its, r, ⟨o, e, _, n, d⟩, _⟩ := I.tuple h
 obtain ⟨its', r', ⟨o', e', _, n', d'⟩, _⟩ := I.tuple h'
 rw [e] at e'; cases e'
 rw [d] at d'
 injection d' with d1 _
 have : its = its' := by simpa using congrArg Array.toList d1
 subst this
 exact r.inj r'
end
abbrev Cx.wish (X : Cx) (E : Value -> Shared -> Prop) : Cx := { X with xe := E }
abbrev Cx.nox (X : Cx) : Cx := X.wish fun _ _ => False
theorem Cx.Ok.wish {X : Cx} (ok : X.Ok) (E : Value -> Shared -> Prop) : (X.wish E).Ok :=
 ⟨ok.mod, ok.kind, ok.glob, ok.blt, ok.above, ok.inj, ok.has, ok.cab, ok.hd, ok.frames, ok.stk, ok.exf, ok.bs, ok.bsz, ok.noex, ok.exfs, ok.funs, ok.frf⟩
theorem Cx.Ok.unwish {X : Cx} {E : Value -> Shared -> Prop} (ok : (X.wish E).Ok) : X.Ok :=
 ⟨ok.mod, ok.kind, ok.glob, ok.blt, ok.above, ok.inj, ok.has, ok.cab, ok.hd, ok.frames, ok.stk, ok.exf, ok.bs, ok.bsz, ok.noex, ok.exfs, ok.funs, ok.frf⟩
section
variable {X : Cx} {pins : List (Addr × Obj)} {σ : St} {H : Hp} {s : Shared} {E : Value -> Shared -> Prop}
theorem Inv.wish (I : Inv X pins σ H s) (E : Value -> Shared -> Prop) : Inv (X.wish E) pins σ H s := ⟨I.ok.wish E, I.os, I.bare, I.base, I.loc, I.cell, I.free, I.freeC, I.pin, I.hok, I.len⟩
theorem Inv.unwish (I : Inv (X.wish E) pins σ H s) : Inv X pins σ H s := ⟨I.ok.unwish, I.os, I.bare, I.base, I.loc, I.cell, I.free, I.freeC, I.pin, I.hok, I.len⟩
end
section
variable {X : Cx} {st : Stmt} {zbR : List Stmt} {t u : TS} {e : Expr} {te : TE} {pos : Pos}
def zws : TS := fun D σ H => D.nx σ H
def tSeq (t u : TS) : TS := fun D σ H => t { D with nx := u D } σ H
theorem zsd : PSs X [] zws := fun _ _ σ H _ I h => wpAny_execs_nil ⟨σ, H, I, h⟩
theorem zpz (h1 : PS X st t) (h2 : PSs X zbR u) : PSs X (st :: zbR) (tSeq t u) := by
 intro pins s σ H D I h
 refine wpAny_execs_cons (thn (h1 pins s σ H { D with nx := u D } I h) fun f s1 q => ?_)
 cases f with
 | next =>
  obtain ⟨σ', H', I', q⟩ := q
  exact h2 pins s1 σ' H' D I' q
 | ret v => exact q
 | brk => exact q
 | cont => exact q
theorem zkj (h1 : PS X st t) : PSs X [st] t := by
 intro pins s σ H D I h
 refine wpAny_execs_cons (thn (h1 pins s σ H D I h) fun f s1 q => ?_)
 cases f with
 | next => exact wpAny_execs_nil q
 | ret v => exact q
 | brk => exact q
 | cont => exact q
theorem Inv.quiet {pins : List (Addr × Obj)} {σ : St} {H : Hp} {s : Shared} (I : Inv X pins σ H s) : interactive X.env = false := by simp [interactive, I.ok.kind]
def zwt (te : TE) : TS := fun D σ H => te σ H fun _ H1 => D.nx σ H1
theorem zm9 (he : PE X e te) (hs : swapsWith e none pos.line X.env = pure false := by rfl) : PS X (.Expr e pos) (zwt te) := by
 intro pins s σ H D I h
 exact wpAny_Expr_any (thn (he pins s σ H _ I h) fun v s1 ⟨x, H1, I1, r1, q1⟩ => ⟨σ, H1, I1, q1⟩) I.quiet hs
def tRet (te : TE) : TS := fun D σ H => te σ H D.rt
theorem zt3 (he : PE X e te) : PS X (.Return (some e) pos) (tRet te) := by
 intro pins s σ H D I h
 exact wpAny_Return_some (thn (he pins s σ H _ I h) fun v s1 ⟨x, H1, I1, r1, q1⟩ => ⟨x, σ, H1, I1, r1, q1⟩)
def tIfS (c : TT) (t u : TS) : TS := fun D σ H => c σ H fun b H1 => if b = true then t D σ H1 else u D σ H1
theorem zwu {c : Expr} {a b : List Stmt} {tc : TT} (hc : PT X c tc) (ha : PSs X a t) (hb : PSs X b u) : PS X (.If c a b pos) (tIfS tc t u) := by
 intro pins s σ H D I h
 refine wpAny_If (thn (hc pins s σ H _ I h) fun d s1 ⟨H1, I1, q1⟩ => ?_)
 cases d with
 | true => exact ha pins s1 σ H1 D I1 q1
 | false => exact hb pins s1 σ H1 D I1 q1
def zt4 : TS := fun _ _ _ => False
theorem zpA : PS X st zt4 := fun _ _ _ _ _ _ h => h.elim
end
abbrev TG := V -> St -> Hp -> (St -> Hp -> Prop) -> Prop
abbrev TGs := List V -> St -> Hp -> (St -> Hp -> Prop) -> Prop
def PG (X : Cx) (target : Expr) (t : TG) : Prop :=
 ∀ (pins : List (Addr × Obj)) (s : Shared) (σ : St) (H : Hp) (v : V) (u : Value) (Q : St -> Hp -> Prop), Inv X pins σ H s -> zbg v u -> t v σ H Q ->
  wpAny (model X.prog X.w) X.A (assign target X.env u) (fun _ s' => ∃ σ' H', Inv X pins σ' H' s' /\ Q σ' H') X.xe s
def PGs (X : Cx) (ts : List Expr) (t : TGs) : Prop :=
 ∀ (pins : List (Addr × Obj)) (s : Shared) (σ : St) (H : Hp) (vs : List V) (us : List Value) (Q : St -> Hp -> Prop), Inv X pins σ H s -> zbi vs us -> t vs σ H Q ->
  wpAny (model X.prog X.w) X.A (assignInOrder ((assignEach ts X.env).map (·.2)) us) (fun _ s' => ∃ σ' H', Inv X pins σ' H' s' /\ Q σ' H') X.xe s
abbrev TSet := V -> V -> V -> Hp -> (Hp -> Prop) -> Prop
section
variable {X : Cx} {pos : Pos}
def ziP (i : Nat) : TG := fun v σ H Q => Q (σ.set i (some v)) H
theorem zna {i : Nat} {x : Str} (hN : X.N.Nodup) (hi : X.N[i]? = some x) (hx : Loc X.env.scope x) (hf : X.fn x = true \/ X.env.scope.names.lookup x = some .local := by first | exact .inl rfl | exact .inr rfl | assumption) : PG X (.Name x pos) (ziP i) := by
 intro pins s σ H v u Q I r h
 exact wpAny_assign_Name (zeb I hN hi hx r (fun s' I' => ⟨_, H, I', h⟩) hf)
def gNil : TGs := fun vs σ H Q => vs = [] /\ Q σ H
def zt5 (t : TG) (u : TGs) : TGs := fun vs σ H Q => ∃ v r, vs = v :: r /\ t v σ H fun σ' H' => u r σ' H' Q
theorem zse : PGs X [] gNil := by
 intro pins s σ H vs us Q I r h
 obtain ⟨e, h⟩ := h
 subst e
 cases r
 exact assignInOrder_nil ⟨σ, H, I, h⟩
theorem zpB {e : Expr} {es : List Expr} {t : TG} {u : TGs} (h1 : PG X e t) (h2 : PGs X es u)
  (hs : (assignEach (e :: es) X.env).map (·.2) = assign e X.env :: (assignEach es X.env).map (·.2) := by rfl) : PGs X (e :: es) (zt5 t u) := by
 intro pins s σ H vs us Q I r h
 obtain ⟨v, vr, e1, h⟩ := h
 subst e1
 cases r with
 | cons r rr =>
  rw [hs]
  refine assignInOrder_cons (thn (h1 pins s σ H _ _ _ I r h) fun _ s1 ⟨σ1, H1, I1, q1⟩ => ?_)
  exact h2 pins s1 σ1 H1 _ _ Q I1 rr q1
def gTup (K : xFg) (n : Nat) (t : TGs) : TG := fun v σ H Q => ∃ a xs, v = .ref a /\ SqT K H a xs /\ xs.length = n /\ t xs σ H Q
theorem zt6 {es : List Expr} {k : Nat} {t : TGs} {n : Nat} (hc : X.calm = true) (h : PGs X es t)
  (hn : (assignEach es X.env).length = n := by rfl) (hst : (assignEach es X.env).findIdx? (·.1) = none := by rfl) : PG X (.Tuple es k pos) (gTup X.K n t) := by
 intro pins s σ H v u Q I r hw
 obtain ⟨a, xs, e1, hq, hl, hw⟩ := hw
 subst e1
 cases r
 obtain ⟨its, rv, ht, hz⟩ := I.tuple hq
 refine assign_Tuple_tuple (I.ok.hd hc) ht (by simp [hn, <- hl, rv.length]) hst fun h' hx => ?_
 have I1 : Inv X pins σ H { s with heap := h' } := I.kept (t' := s.toks) fun b o e => hx b o (xan (xab e)) e
 exact h pins _ σ H xs _ Q I1 (by simpa using rv) hw
def gSub (to ti : TE) (t : TSet) : TG := fun v σ H Q => to σ H fun o H1 => ti σ H1 fun i H2 => t o i v H2 fun H3 => Q σ H3
def zsf (te : TE) (g : TG) : TS := fun D σ H => te σ H fun x H1 => g x σ H1 D.nx
theorem zt7 {tg e : Expr} {te : TE} {g : TG} (he : PE X e te) (hg : PG X tg g) (hs : swapsWithSole [tg] e pos.line X.env = pure false := by rfl) (hw : swappedStores [tg] e X.env = pure none := by rfl)
  (h1 : (assignEach [tg] X.env).map (·.2) = [assign tg X.env] := by rfl) : PS X (.Assign [tg] e pos) (zsf te g) := by
 intro pins s σ H D I h
 refine wpAny_Assign_stores (thn (he pins s σ H _ I h) fun v s1 ⟨x, H1, I1, r1, q1⟩ => ?_) hs hw
 rw [h1]
 exact thn (hg pins s1 σ H1 x v _ I1 r1 q1) fun _ s2 q => q
theorem zkS {i : Nat} {x : Str} {e : Expr} {te : TE} {pos' : Pos} (hN : X.N.Nodup) (hi : X.N[i]? = some x) (hx : Loc X.env.scope x) (he : PE X e te) (hs : swapsWith e (some (.Name x pos')) pos.line X.env = pure false := by rfl) (hf : X.fn x = true \/ X.env.scope.names.lookup x = some .local := by first | exact .inl rfl | exact .inr rfl | assumption) :
  PS X (.Assign [.Name x pos'] e pos) (zsf te (ziP i)) := by
 intro pins s σ H D I h
 refine wpAny_Assign_Name (thn (he pins s σ H _ I h) fun v s1 ⟨y, H1, I1, r1, q1⟩ => ?_) hs
 exact zeb I1 hN hi hx r1 (fun s2 I2 => ⟨_, H1, I2, q1⟩) hf
def tPar (i j : Nat) (ta : TA) : TS := fun D σ H => ta σ H fun vs H1 => ∃ v w, vs = [v, w] /\ D.nx ((σ.set i (some v)).set j (some w)) H1
theorem zt8 {i j : Nat} {x y : Str} {a b : Expr} {ta : TA} {px py pt : Pos} {kt k2 pt2} (hc : X.calm = true) (hN : X.N.Nodup) (hi : X.N[i]? = some x) (hj : X.N[j]? = some y) (hij : i ≠ j)
  (hx : X.env.scope.names.lookup x = some .local) (hy : X.env.scope.names.lookup y = some .local) (ha : PA X [a, b] ta)
  (hw : swappedStores [.Tuple [.Name x px, .Name y py] kt pt] (.Tuple [a, b] k2 pt2) X.env = pure (some [x, y]))
  (hs : swapsWithSole [.Tuple [.Name x px, .Name y py] kt pt] (.Tuple [a, b] k2 pt2) pos.line X.env = pure false := by rfl) :
  PS X (.Assign [.Tuple [.Name x px, .Name y py] kt pt] (.Tuple [a, b] k2 pt2) pos) (tPar i j ta) := by
 intro pins s σ H D I h
 rw [exec_Assign_arm]
 refine wpAny_bind (wpAny_standAt ?_)
 rw [hs]
 refine wpAny_bind (wpAny_pure ?_)
 rw [if_neg (by decide)]
 refine wpAny_bind (Tuple_ (thn (ha _ pins s σ H _ I h) fun us s1 ⟨vs, H1, I1, r1, q1⟩ => ?_))
 obtain ⟨v, w, e1, q1⟩ := q1
 subst e1
 obtain ⟨u1, u2, rfl, rv, rw'⟩ : ∃ u1 u2, us = [u1, u2] /\ zbg v u1 /\ zbg w u2 := by
  cases r1 with
  | cons p q =>
   cases q with
   | cons p' q' =>
    cases q'
    exact ⟨_, _, rfl, p, p'⟩
 refine wpAny_newObj_type ?_ (by show 2 <= sizeLine; decide)
 have I2 : Inv X pins σ H1 { s1 with heap := s1.heap.push { cls := .type "tuple", data := .seq [u1, u2].toArray } } := I1.kept (t' := s1.toks) fun b o e => xaa _ e
 rw [hw]
 refine wpAny_bind (wpAny_pure ?_)
 show wpAny (model X.prog X.w) X.A (do rule "assign.swapped-stores"; let items <- unpackItems (.ref s1.heap.objs.size) 2 none; assignInOrder [fun v => bindName X.env y v, fun v => bindName X.env x v] items.reverse; pure Flow.next) _ _ _
 refine wpAny_bind (wpAny_rule (wpAny_bind (unpackItems_tuple (items := #[u1, u2]) (I.ok.hd hc) (IsTup.new s1.heap _) fun h' hx' => ?_)))
 have I3 := I2.kept (h' := h') (t' := s1.toks) fun b o e => hx' b o (xan (xab e)) e
 show wpAny _ _ (assignInOrder [fun v => bindName X.env y v, fun v => bindName X.env x v] [u2, u1] >>= fun _ => pure Flow.next) _ _ _
 refine wpAny_bind (assignInOrder_cons (wpAny_bindName (zeb I3 hN hj (.inl hy) rw' (fun s2 I4 => ?_) (.inr hy))))
 refine assignInOrder_cons (wpAny_bindName (zeb I4 hN hi (.inl hx) rv (fun s3 I5 => assignInOrder_nil (wpAny_pure ?_)) (.inr hx)))
 rw [List.set_comm _ _ (xay hij)] at I5
 exact ⟨_, H1, I5, q1⟩
end
section
variable {X : Cx} {pos : Pos}
def zt9 (c : TT) (tb : TS) : TS := fun D σ H => ∃ W : Nat -> St -> Hp -> Prop, (∃ m, W m σ H) /\ ∀ m σ H, W m σ H ->
 c σ H fun b H1 => if b = true then ∃ N : St -> Hp -> Prop, (∀ σ' H', N σ' H' -> ∃ m', m' < m /\ W m' σ' H') /\ tb { D with nx := N, ct := N, bk := D.nx } σ H1 else D.nx σ H1
theorem zpC {c : Expr} {body : List Stmt} {tc : TT} {tb : TS} (hp : PassesOwn (model X.prog X.w) X.A X.env X.xe) (hc : PT X c tc) (hb : PSs X body tb) : PS X (.While c body [] pos) (zt9 tc tb) := by
 intro pins s σ H D I h
 obtain ⟨W, ⟨m0, w0⟩, turn⟩ := h
 refine wpAny_While (codeAny_whileLoop (fun n s' => ∃ σ' H', Inv X pins σ' H' s' /\ W n σ' H') ?_ m0 ⟨σ, H, I, w0⟩)
 rintro n s1 ⟨σ1, H1, I1, w1⟩
 refine wpAny_passesOwn hp (thn (hc pins s1 σ1 H1 _ I1 (turn n σ1 H1 w1)) fun b s2 ⟨H2, I2, q2⟩ => ?_)
 cases b with
 | true =>
  obtain ⟨N, hN, q2⟩ := q2
  rw [if_pos rfl]
  refine wpAny_passesOwn hp (thn (hb pins s2 σ1 H2 _ I2 q2) fun f s3 q3 => ?_)
  cases f with
  | next =>
   obtain ⟨σ3, H3, I3, n3⟩ := q3
   obtain ⟨m', hm, w3⟩ := hN σ3 H3 n3
   exact ⟨m', hm, σ3, H3, I3, w3⟩
  | cont =>
   obtain ⟨σ3, H3, I3, n3⟩ := q3
   obtain ⟨m', hm, w3⟩ := hN σ3 H3 n3
   exact ⟨m', hm, σ3, H3, I3, w3⟩
  | brk => exact q3
  | ret v => exact q3
 | false =>
  rw [if_neg xau]
  exact wpAny_execs_nil ⟨σ1, H2, I2, q2⟩
end
structure It where
 go : Nat -> Hp -> Prop
 yld : Nat -> Hp -> V -> Hp -> Prop
 stop : Nat -> Hp -> Prop
def zml (X : Cx) (pins : List (Addr × Obj)) (H : Hp) (b : Addr) : Prop :=
 H b = none /\ b ≠ X.env.locals /\ b ∉ X.fs /\ (b ∈ X.ex \/ X.s₀.heap.objs.size <= b) /\ (∀ x c, X.env.cells.lookup x = some c -> c ≠ b) /\ ∀ p ∈ X.pn ++ pins, p.1 ≠ b
theorem Inv.fpOk {X : Cx} {pins : List (Addr × Obj)} {σ : St} {H H' : Hp} {s : Shared} {b : Addr} (I : Inv X pins σ H s) (hb : s.heap.objs.size <= b) (hn : H' b = none) : zml X pins H' b := by
 refine ⟨hn, xb5 (xai I.lt hb), I.nofs hb, .inr (xa3 I.sz hb), fun x c e z => ?_, fun p hp z => ?_⟩
 ·obtain ⟨v, q⟩ := I.cell x c e
  exact absurd (xai q.lt (by rw [z]; exact hb)) (xbm _)
 ·exact absurd (xai (xab (I.pin p hp).1) (by rw [z]; exact hb)) (xbm _)
structure zqR (P : Program) (w : World) (K : xFg) (tg : Expr) (J : It) (fp : List Addr) (it : Addr) (tn : Nat -> Heap -> Prop) : Prop where
 mem : it ∈ fp
 obj : ∀ i h, tn i h -> ∀ b ∈ fp, ∃ o, h.get? b = some o /\ ∀ v, o.data ≠ .cell v
 keep : ∀ i h h', tn i h -> (∀ b ∈ fp, ∀ o, h.get? b = some o -> h'.get? b = some o) -> tn i h'
 item : ∀ (X : Cx), X.prog = P -> X.w = w -> X.K = K -> X.calm = true -> ∀ (i : Nat) (pins : List (Addr × Obj)) (s : Shared) (σ : St) (H : Hp) (E : Value -> Shared -> Prop), Inv X pins σ H s -> (∀ b ∈ fp, zml X pins H b) -> tn i s.heap -> J.go i H ->
  wpAny (model P w) X.A (pyNext (.ref it)) (fun r s1 => ∃ u, r = some u /\
   wpAny (model P w) X.A (letOwnedTupleGo tg (.ref it) u) (fun _ s2 => ∃ x H', Inv X pins σ H' s2 /\ zbg x u /\ J.yld i H x H' /\ tn (i + 1) s2.heap /\ ∀ b ∈ fp, H' b = none) E s1) E s
 done : ∀ (X : Cx), X.prog = P -> X.w = w -> X.K = K -> X.calm = true -> ∀ (i : Nat) (pins : List (Addr × Obj)) (s : Shared) (σ : St) (H : Hp) (E : Value -> Shared -> Prop), Inv X pins σ H s -> (∀ b ∈ fp, zml X pins H b) -> tn i s.heap -> J.stop i H ->
  wpAny (model P w) X.A (pyNext (.ref it)) (fun r s1 => r = none /\ Inv X pins σ H s1) E s
 self : ∀ (A : Around) (i : Nat) (s : Shared) (Q : Value -> Shared -> Prop) (E : Value -> Shared -> Prop), tn i s.heap -> Q (.ref it) s -> wpAny (model P w) A (pyIter (.ref it)) Q E s
abbrev TI := St -> Hp -> (It -> Hp -> Prop) -> Prop
def PIE (X : Cx) (pins : List (Addr × Obj)) (σ : St) (tg : Expr) (R : It -> Hp -> Prop) (itv : Value) (s2 : Shared) : Prop :=
 ∃ (it : Addr) (fp : List Addr) (tn : Nat -> Heap -> Prop) (J : It) (H' : Hp), itv = .ref it /\ Inv X pins σ H' s2 /\ zqR X.prog X.w X.K tg J fp it tn /\ tn 0 s2.heap /\ (∀ b ∈ fp, zml X pins H' b) /\ R J H'
def PI (X : Cx) (tg iter : Expr) (wi : TI) : Prop :=
 ∀ (pins : List (Addr × Obj)) (s : Shared) (σ : St) (H : Hp) (R : It -> Hp -> Prop), Inv X pins σ H s -> wi σ H R ->
  wpAny (model X.prog X.w) X.A (eval iter X.env) (fun v s1 => wpAny (model X.prog X.w) X.A (pyIter v) (PIE X pins σ tg R) X.xe s1) X.xe s
theorem zsg {M : Model} {A : Around} {E : Value -> Shared -> Prop} {s : Shared} {tg : Expr} {it : Addr} {u : Value} {o : Obj} {n : String} {vs : Array Value} {Q : Unit -> Shared -> Prop} (ho : s.heap.get? it = some o) (hc : o.cls = .type n) (hd : o.data = .fields vs)
  (hn : ["enumerate", "zip", "dict_itemiterator", "dict_reverseitemiterator", "odict_iterator", "itertools.zip_longest", "itertools.pairwise"].contains n = false) (hQ : Q () s) : wpAny M A (letOwnedTupleGo tg (.ref it) u) Q E s := by
 unfold letOwnedTupleGo
 cases tg <;> first
  | exact wpAny_pure hQ
  | (cases u <;> first
    | exact wpAny_pure hQ
    | (refine wpAny_bind (wpAny_load ho ?_)
       rw [hc, hd]
       show wpAny M A (if (["enumerate", "zip", "dict_itemiterator", "dict_reverseitemiterator", "odict_iterator", "itertools.zip_longest", "itertools.pairwise"].contains n && vs[0]? == some (rawInt _)) = true then _ else _) Q E s
       rw [if_neg (by intro h; rw [hn, Bool.false_and] at h; cases h)]
       exact wpAny_pure hQ))
def Itl (K : xFg) (a : Addr) : It :=
 ⟨fun i H => ∃ xs x, SqL K H a xs /\ xs[i]? = some x, fun i H x H' => H' = H /\ ∀ xs, SqL K H a xs -> xs[i]? = some x, fun i H => ∃ xs, SqL K H a xs /\ xs.length <= i⟩
def Itt (K : xFg) (a : Addr) : It :=
 ⟨fun i H => ∃ xs x, SqT K H a xs /\ xs[i]? = some x, fun i H x H' => H' = H /\ ∀ xs, SqT K H a xs -> xs[i]? = some x, fun i H => ∃ xs, SqT K H a xs /\ xs.length <= i⟩
def Itr (lo : Int) (n : Nat) : It := ⟨fun i _ => i < n, fun i H x H' => H' = H /\ x = .int (lo + i), fun i _ => n <= i⟩
theorem znb {P : Program} {w : World} {K : xFg} {tg : Expr} (a it : Addr) : zqR P w K tg (Itl K a) [it] it (fun i h => h.IsListIter it a i) where
 mem := by simp
 obj := fun i h st b hb => by
  have e : b = it := by simpa using hb
  subst e
  obtain ⟨o, e, c, d⟩ := st
  exact ⟨o, e, fun v z => by rw [d] at z; cases z⟩
 keep := fun i h h' st k => st.at fun o e => k it (by simp) o e
 item := by
  intro X hP hw hK hc i pins s σ H E I hf st hg
  subst hP hw hK
  obtain ⟨xs, x, hq, hx⟩ := hg
  obtain ⟨its, rv, p, hz⟩ := I.list hq
  obtain ⟨u, hu, ru⟩ := rv.get hx
  obtain ⟨f0, f1, f2, f3, f4, f5⟩ := hf it (by simp)
  refine wpAny_pyNext_list_item st p.isList (x := u) (by simpa using hu) fun h' st' sb => ?_
  have I1 : Inv X pins σ H { s with heap := h' } := I.turned (t' := s.toks) (fun b o hb e => (sb.2 b hb).trans e) f0 f1 f3 f4 f5
  obtain ⟨o, e, c, d⟩ := id st'
  exact ⟨u, rfl, zsg (s := { s with heap := h' }) e c d (by decide) ⟨x, H, I1, ru, ⟨rfl, fun ys hy => by rw [I.list_inj hy hq]; exact hx⟩, st', fun b hb => (hf b hb).1⟩⟩
 done := by
  intro X hP hw hK hc i pins s σ H E I hf st hg
  subst hP hw hK
  obtain ⟨xs, hq, hx⟩ := hg
  obtain ⟨its, rv, p, hz⟩ := I.list hq
  obtain ⟨f0, f1, f2, f3, f4, f5⟩ := hf it (by simp)
  have hl := rv.length
  exact wpAny_pyNext_list_end (I.ok.hd hc) st p.isList (by simp; omega) fun h' eb => ⟨rfl, I.turned (t' := s.toks) (fun b o hb e => eb b o hb e) f0 f1 f3 f4 f5⟩
 self := fun _ _ _ _ _ st h => wpAny_pyIter_listiter st h
theorem zmm {P : Program} {w : World} {K : xFg} {tg : Expr} (a it : Addr) : zqR P w K tg (Itt K a) [it] it (fun i h => h.IsTupleIter it a i) where
 mem := by simp
 obj := fun i h st b hb => by
  have e : b = it := by simpa using hb
  subst e
  obtain ⟨o, e, c, d⟩ := st
  exact ⟨o, e, fun v z => by rw [d] at z; cases z⟩
 keep := fun i h h' st k => st.at fun o e => k it (by simp) o e
 item := by
  intro X hP hw hK hc i pins s σ H E I hf st hg
  subst hP hw hK
  obtain ⟨xs, x, hq, hx⟩ := hg
  obtain ⟨its, rv, p, hz⟩ := I.tuple hq
  obtain ⟨u, hu, ru⟩ := rv.get hx
  obtain ⟨f0, f1, f2, f3, f4, f5⟩ := hf it (by simp)
  refine wpAny_pyNext_tuple_item st (show s.heap.IsTuple a its.toArray from p) (x := u) (by simpa using hu) fun h' st' sb => ?_
  have I1 : Inv X pins σ H { s with heap := h' } := I.turned (t' := s.toks) (fun b o hb e => (sb.2 b hb).trans e) f0 f1 f3 f4 f5
  obtain ⟨o, e, c, d⟩ := id st'
  exact ⟨u, rfl, zsg (s := { s with heap := h' }) e c d (by decide) ⟨x, H, I1, ru, ⟨rfl, fun ys hy => by rw [I.tuple_inj hy hq]; exact hx⟩, st', fun b hb => (hf b hb).1⟩⟩
 done := by
  intro X hP hw hK hc i pins s σ H E I hf st hg
  subst hP hw hK
  obtain ⟨xs, hq, hx⟩ := hg
  obtain ⟨its, rv, p, hz⟩ := I.tuple hq
  obtain ⟨f0, f1, f2, f3, f4, f5⟩ := hf it (by simp)
  have hl := rv.length
  exact wpAny_pyNext_tuple_end (I.ok.hd hc) st (show s.heap.IsTuple a its.toArray from p) (by simp; omega) fun h' eb => ⟨rfl, I.turned (t' := s.toks) (fun b o hb e => eb b o hb e) f0 f1 f3 f4 f5⟩
 self := fun _ _ _ _ _ st h => wpAny_pyIter_tupleiter st h
theorem zmn {P : Program} {w : World} {K : xFg} {tg : Expr} (it : Addr) (lo : Int) (n : Nat) : zqR P w K tg (Itr lo n) [it] it (fun i h => IsRangeIter h it (lo + (i : Nat) * 1) ((n : Int) - (i : Nat)) 1) where
 mem := by simp
 obj := fun i h st b hb => by
  have e : b = it := by simpa using hb
  subst e
  exact ⟨_, st, fun v z => by
   have z' : Data.fields _ = Data.cell v := z
   cases z'⟩
 keep := fun i h h' st k => k it (by simp) _ st
 item := by
  intro X hP hw hK hc i pins s σ H E I hf st hg
  subst hP hw hK
  obtain ⟨f0, f1, f2, f3, f4, f5⟩ := hf it (by simp)
  have W := Walks.range (prog := X.prog) (w := X.w) (I.ok.hd hc) it lo 1 n
  refine W.item i s _ _ hg st fun v h' tk hv st' kk => ?_
  obtain ⟨t, rfl⟩ := hv
  have I1 : Inv X pins σ H { s with heap := h', toks := tk } := I.turned (fun b o hb e => kk b o (by simpa using hb) e) f0 f1 f3 f4 f5
  refine ⟨_, rfl, zsg (s := { s with heap := h', toks := tk }) (n := "range_iterator") st' rfl rfl (by decide) ⟨.int (lo + i), H, I1, ⟨t, ?_⟩, ⟨rfl, rfl⟩, st', fun b hb => (hf b hb).1⟩⟩
  rw [Int.mul_one]
 done := by
  intro X hP hw hK hc i pins s σ H E I hf st hg
  subst hP hw hK
  obtain ⟨f0, f1, f2, f3, f4, f5⟩ := hf it (by simp)
  exact wpAny_pyNext_range_end (I.ok.hd hc) st (by have : n <= i := hg; omega) fun h' eb => ⟨rfl, I.turned (t' := s.toks) (fun b o hb e => eb b o hb e) f0 f1 f3 f4 f5⟩
 self := fun _ _ _ _ _ st h => wpAny_pyIter_rangeiter st h
end L2
namespace L2
open PySem.Spec PyProof.Rows
section
variable {X : Cx} {tg : Expr}
def zua (K : xFg) (tl : TE) : TI := fun σ H R => tl σ H fun x H1 => ∃ a, x = .ref a /\ (∃ xs, SqL K H1 a xs) /\ R (Itl K a) H1
def iTup (K : xFg) (tl : TE) : TI := fun σ H R => tl σ H fun x H1 => ∃ a, x = .ref a /\ (∃ xs, SqT K H1 a xs) /\ R (Itt K a) H1
theorem zsh {l : Expr} {tl : TE} (hl : PE X l tl) : PI X tg l (zua X.K tl) := by
 intro pins s σ H R I h
 refine thn (hl pins s σ H _ I h) fun v s1 ⟨x, H1, I1, r1, q1⟩ => ?_
 obtain ⟨a, e, ⟨xs, hq⟩, q⟩ := q1
 subst e
 cases r1
 obtain ⟨its, rv, p, hz⟩ := I1.list hq
 refine wpAny_pyIter_list p.isList ?_
 refine ⟨s1.heap.objs.size, [s1.heap.objs.size], _, _, H1, rfl, I1.kept (t' := s1.toks) fun b o e => xaa _ e, znb a _, ⟨_, xav _ rfl, rfl, rfl⟩, fun b hb => ?_, q⟩
 have e : b = s1.heap.objs.size := by simpa using hb
 subst e
 exact I1.fpOk (xag _) (I1.hok.fresh (xag _))
theorem zub {l : Expr} {tl : TE} (hl : PE X l tl) : PI X tg l (iTup X.K tl) := by
 intro pins s σ H R I h
 refine thn (hl pins s σ H _ I h) fun v s1 ⟨x, H1, I1, r1, q1⟩ => ?_
 obtain ⟨a, e, ⟨xs, hq⟩, q⟩ := q1
 subst e
 cases r1
 obtain ⟨its, rv, p, hz⟩ := I1.tuple hq
 refine wpAny_pyIter_tuple (show s1.heap.IsTuple a its.toArray from p) ?_
 refine ⟨s1.heap.objs.size, [s1.heap.objs.size], _, _, H1, rfl, I1.kept (t' := s1.toks) fun b o e => xaa _ e, zmm a _, ⟨_, xav _ rfl, rfl, rfl⟩, fun b hb => ?_, q⟩
 have e : b = s1.heap.objs.size := by simpa using hb
 subst e
 exact I1.fpOk (xag _) (I1.hok.fresh (xag _))
theorem zpD {pins : List (Addr × Obj)} {σ : St} {H : Hp} {s : Shared} {R : It -> Hp -> Prop} {E : Value -> Shared -> Prop} {lo hi : Int} {t u v : Tok} {tk : Nat} (I : Inv X pins σ H s) (h1 : -(2 ^ 62) <= lo) (h2 : lo < 2 ^ 62) (h3 : -(2 ^ 62) <= hi) (h4 : hi < 2 ^ 62)
  (q : R (Itr lo (hi - lo).toNat) H) : wpAny (model X.prog X.w) X.A (pyIter (.ref s.heap.objs.size)) (PIE X pins σ tg R) E { s with heap := s.heap.push { cls := .type "range", data := .fields #[.int lo t, .int hi u, .int 1 v] }, toks := tk } := by
 refine wpAny_pyIter_range (IsRange.new ..) (small_one h1 h2 h3 h4) ?_
 have I1 : Inv X pins σ H { s with heap := s.heap.push { cls := .type "range", data := .fields #[.int lo t, .int hi u, .int 1 v] }, toks := tk } := I.kept fun b o e => xaa _ e
 refine ⟨(s.heap.push { cls := .type "range", data := .fields #[.int lo t, .int hi u, .int 1 v] }).objs.size, [(s.heap.push { cls := .type "range", data := .fields #[.int lo t, .int hi u, .int 1 v] }).objs.size], _, _, H, rfl,
  I1.kept (t' := tk) fun b o e => xaa _ e, zmn _ lo (hi - lo).toNat, ?_, fun b hb => ?_, q⟩
 ·have e1 : lo + ((0 : Nat) : Int) * 1 = lo := by simp
  have e2 : (((hi - lo).toNat : Nat) : Int) - ((0 : Nat) : Int) = Builtin.Range.rangeSize lo hi 1 := by rw [rangeSize_one]; split <;> omega
  show IsRangeIter _ _ (lo + ((0 : Nat) : Int) * 1) ((((hi - lo).toNat : Nat) : Int) - ((0 : Nat) : Int)) 1
  rw [e1, e2]
  exact xav _ rfl
 ·have e : b = (s.heap.push { cls := .type "range", data := .fields #[.int lo t, .int hi u, .int 1 v] }).objs.size := by simpa using hb
  subst e
  exact I1.fpOk (xag _) (I1.hok.fresh (xag _))
def zwv (ta : TA) : TI := fun σ H R => ta σ H fun vs H1 => ∃ j : Int, vs = [.int j] /\ -(2 ^ 62) <= j /\ j < 2 ^ 62 /\ R (Itr 0 j.toNat) H1
theorem znc {a : Expr} {ta : TA} {p pos : Pos} (hg : Gl X "range") (hm : X.mg "range" = none) (ha : PA X [a] ta) (hs : starEach [a] X.env = [(false, eval a X.env)] := by rfl) : PI X tg (.Call (.Name "range" p) [a] [] pos) (zwv ta) := by
 intro pins s σ H R I h
 refine Call_ (zhK I hg hm boot_range (PyProof.Rows.callWith_type1 (thn (ha pos pins s σ H _ I h) fun us s1 ⟨vs, H1, I1, r1, q1⟩ => ?_) hs rfl))
 obtain ⟨j, e, q1, q2, q⟩ := q1
 subst e
 cases r1 with
 | cons r rr =>
  cases rr
  obtain ⟨t, rfl⟩ := r
  exact call_range_1 (zpD I1 (by omega) (by omega) q1 q2 (by simpa using q))
def tFor (wi : TI) (g : TG) (tb : TS) : TS := fun D σ H => wi σ H fun J H1 => ∃ W : Nat -> Nat -> St -> Hp -> Prop, (∃ m, W 0 m σ H1) /\ ∀ i m σ H, W i m σ H ->
 (J.stop i H /\ D.nx σ H) \/ (J.go i H /\ ∃ N : St -> Hp -> Prop, (∀ σ' H', N σ' H' -> ∃ m', m' < m /\ W (i + 1) m' σ' H') /\ ∀ x H', J.yld i H x H' -> g x σ H' fun σ2 H2 => tb { D with nx := N, ct := N, bk := D.nx } σ2 H2)
def ziQ (fp : List Addr) (h : Heap) : List (Addr × Obj) := fp.filterMap fun b => (h.get? b).map fun o => (b, o)
theorem zec {fp : List Addr} {h : Heap} {b : Addr} {o : Obj} (hb : b ∈ fp) (e : h.get? b = some o) : (b, o) ∈ ziQ fp h := xbl.mpr ⟨b, hb, by rw [e]; rfl⟩
theorem znd {fp : List Addr} {h : Heap} {p : Addr × Obj} (hp : p ∈ ziQ fp h) : p.1 ∈ fp /\ h.get? p.1 = some p.2 := by
 obtain ⟨b, hb, e⟩ := xbl.mp hp
 cases q : h.get? b with
 | none => rw [q] at e; cases e
 | some o =>
  rw [q] at e
  have e' : (b, o) = p := Option.some.inj e
  subst e'
  exact ⟨hb, q⟩
theorem Inv.pinned {pins : List (Addr × Obj)} {σ : St} {H : Hp} {s : Shared} {fp : List Addr} (I : Inv X pins σ H s) (hf : ∀ b ∈ fp, zml X pins H b) (ho : ∀ b ∈ fp, ∃ o, s.heap.get? b = some o /\ ∀ v, o.data ≠ .cell v) : Inv X (pins ++ ziQ fp s.heap) σ H s :=
 I.pins_of fun p hp => (xbd.mp hp).elim (fun z => I.pin p (xa9 _ z)) fun z => by
  obtain ⟨hb, e⟩ := znd z
  obtain ⟨f0, f1, f2, _⟩ := hf p.1 hb
  obtain ⟨o, e', d⟩ := ho p.1 hb
  rw [e] at e'; cases e'
  exact ⟨e, f0, f1, f2, d⟩
theorem Inv.unpinned {pins pl : List (Addr × Obj)} {σ : St} {H : Hp} {s : Shared} (I : Inv X (pins ++ pl) σ H s) : Inv X pins σ H s := I.pins_of fun p hp => I.pin p (xa9 _ (List.mem_append_left _ hp))
theorem zuc {iter : Expr} {body : List Stmt} {wi : TI} {g : TG} {tb : TS} {pos : Pos} (hp : PassesOwn (model X.prog X.w) X.A X.env X.xe) (hc : X.calm = true) (hi : PI X tg iter wi) (hg : PG X tg g) (hb : PSs X body tb)
  (hs : ∀ x, foldedSetIterable iter X.env x = pure x := by intro _; rfl) : PS X (.For tg iter body [] pos) (tFor wi g tb) := by
 intro pins s σ H D I h
 refine wpAny_For (thn (hi pins s σ H _ I h) fun v s1 h1 => thn h1 fun itv s2 h2 => ?_) hs
 obtain ⟨it, fp, tn, J, H2, e, I2, T, st2, f2, W, ⟨m0, w0⟩, turn⟩ := h2
 subst e
 have stat : ∀ {H' : Hp}, (∀ b ∈ fp, H' b = none) -> ∀ b ∈ fp, zml X pins H' b := fun hn b hb => ⟨hn b hb, (f2 b hb).2⟩
 refine codeAny_forLoop_any (fun n s' => ∃ i σ' H', Inv X pins σ' H' s' /\ tn i s'.heap /\ (∀ b ∈ fp, H' b = none) /\ W i n σ' H') ?_ m0 ⟨0, σ, H2, I2, st2, fun b hb => (f2 b hb).1, w0⟩
 rintro n s3 ⟨i, σ3, H3, I3, st3, fr3, w3⟩
 rcases turn i n σ3 H3 w3 with ⟨stop, qn⟩ | ⟨go, N, hN, step⟩
 ·refine wpAny_passesOwn hp (thn (T.done X rfl rfl rfl hc i pins s3 σ3 H3 X.xe I3 (stat fr3) st3 stop) fun r s4 ⟨hr, I4⟩ => ?_)
  subst hr
  exact wpAny_execs_nil ⟨σ3, H3, I4, qn⟩
 ·refine wpAny_passesOwn hp (thn (T.item X rfl rfl rfl hc i pins s3 σ3 H3 X.xe I3 (stat fr3) st3 go) fun r s4 ⟨u, hr, h4⟩ => ?_)
  subst hr
  refine wpAny_passesOwn hp (thn h4 fun _ s5 ⟨x, H5, I5, r5, y5, st5, fr5⟩ => ?_)
  have I5' := I5.pinned (stat fr5) (T.obj _ _ st5)
  refine wpAny_passesOwn hp (thn (hg _ s5 σ3 H5 x u _ I5' r5 (step x H5 y5)) fun _ s6 ⟨σ6, H6, I6, q6⟩ => ?_)
  refine wpAny_passesOwn hp (thn (hb _ s6 σ6 H6 _ I6 q6) fun f s7 q7 => ?_)
  have again : ∀ {σ7 : St} {H7 : Hp}, Inv X (pins ++ ziQ fp s5.heap) σ7 H7 s7 -> N σ7 H7 -> ∃ m, m < n /\ ∃ i σ' H', Inv X pins σ' H' s7 /\ tn i s7.heap /\ (∀ b ∈ fp, H' b = none) /\ W i m σ' H' := fun {σ7 H7} I7 n7 => by
   obtain ⟨m', hm, w7⟩ := hN σ7 H7 n7
   refine ⟨m', hm, i + 1, σ7, H7, I7.unpinned, T.keep _ _ _ st5 fun b hb o e => (I7.pin (b, o) (xa9 _ (xa9 _ (zec hb e)))).1, fun b hb => ?_, w7⟩
   obtain ⟨o, e, d⟩ := T.obj _ _ st5 b hb
   exact (I7.pin (b, o) (xa9 _ (xa9 _ (zec hb e)))).2.1
  cases f with
  | next => obtain ⟨σ7, H7, I7, n7⟩ := q7; exact again I7 n7
  | cont => obtain ⟨σ7, H7, I7, n7⟩ := q7; exact again I7 n7
  | brk => obtain ⟨σ7, H7, I7, q7⟩ := q7; exact ⟨σ7, H7, I7.unpinned, q7⟩
  | ret v => obtain ⟨x7, σ7, H7, I7, r7, q7⟩ := q7; exact ⟨x7, σ7, H7, I7.unpinned, r7, q7⟩
end
end L2
namespace L2
open PySem.Spec PyProof.Rows
abbrev R2 := V -> V -> Hp -> VK -> Prop
def OpR (X : Cx) (f : Value -> Value -> Sem Value) (r : R2) : Prop :=
 ∀ (pins : List (Addr × Obj)) (s : Shared) (σ : St) (H : Hp) (x y : V) (v u : Value) (Q : VK), Inv X pins σ H s -> zbg x v -> zbg y u -> r x y H Q ->
  wpAny (model X.prog X.w) X.A (f v u) (EP X pins σ Q) X.xe s
def UnR (X : Cx) (f : Value -> Sem Value) (r : V -> Hp -> VK -> Prop) : Prop :=
 ∀ (pins : List (Addr × Obj)) (s : Shared) (σ : St) (H : Hp) (x : V) (v : Value) (Q : VK), Inv X pins σ H s -> zbg x v -> r x H Q ->
  wpAny (model X.prog X.w) X.A (f v) (EP X pins σ Q) X.xe s
def zcK (X : Cx) (f : Value) (r : List V -> Hp -> VK -> Prop) : Prop :=
 ∀ (pins : List (Addr × Obj)) (s : Shared) (σ : St) (H : Hp) (xs : List V) (us : List Value) (Q : VK), Inv X pins σ H s -> zbi xs us -> r xs H Q ->
  wpAny (model X.prog X.w) X.A (call f us) (EP X pins σ Q) X.xe s
def tOp (r : R2) (ta tb : TE) : TE := fun σ H Q => ta σ H fun x H1 => tb σ H1 fun y H2 => r x y H2 Q
def tUn (r : V -> Hp -> VK -> Prop) (ta : TE) : TE := fun σ H Q => ta σ H fun x H1 => r x H1 Q
def rI (C : Int -> Int -> Prop) (g : Int -> Int -> V) : R2 := fun x y H Q => ∃ i j, x = .int i /\ y = .int j /\ C i j /\ Q (g i j) H
def rI0 (g : Int -> Int -> V) : R2 := fun x y H Q => ∃ i j, x = .int i /\ y = .int j /\ Q (g i j) H
def rU (g : Int -> V) : V -> Hp -> VK -> Prop := fun x H Q => ∃ i, x = .int i /\ Q (g i) H
section
variable {X : Cx} {a b c : Expr} {ta tb tc : TE} {pos : Pos}
theorem zww (ha : PE X a ta) (hb : PE X b tb) {pins : List (Addr × Obj)} {s : Shared} {σ : St} {H : Hp} {R : V -> V -> Hp -> Prop} (I : Inv X pins σ H s)
  (h : ta σ H fun x H1 => tb σ H1 fun y H2 => R x y H2) {Q : Value -> Shared -> Prop} {f : Value -> Value -> Sem Value}
  (hf : ∀ v u s2 x y H2, Inv X pins σ H2 s2 -> zbg x v -> zbg y u -> R x y H2 -> wpAny (model X.prog X.w) X.A (f v u) Q X.xe s2) :
  wpAny (model X.prog X.w) X.A (eval a X.env) (fun v s₁ => wpAny (model X.prog X.w) X.A (eval b X.env) (fun u s₂ => wpAny (model X.prog X.w) X.A (f v u) Q X.xe s₂) X.xe s₁) X.xe s := by
 refine thn (ha pins s σ H _ I h) fun v s1 ⟨x, H1, I1, r1, q1⟩ => ?_
 refine thn (hb pins s1 σ H1 _ I1 q1) fun u s2 ⟨y, H2, I2, r2, q2⟩ => ?_
 exact hf v u s2 x y H2 I2 r1 r2 q2
theorem zwx {op : Operator} {r : R2} (ho : OpR X (binaryOp op) r) (ha : PE X a ta) (hb : PE X b tb) : PE X (.BinOp a op b pos) (tOp r ta tb) := by
 intro pins s σ H Q I h
 exact wpAny_BinOp (zww ha hb I h fun v u s2 x y H2 I2 rx ry q => ho pins s2 σ H2 x y v u Q I2 rx ry q)
theorem zwy {op : UnaryOp} {r : V -> Hp -> VK -> Prop} (ho : UnR X (unaryOp op) r) (ha : PE X a ta) : PE X (.UnaryOp op a pos) (tUn r ta) := by
 intro pins s σ H Q I h
 exact UnaryOp_ (thn (ha pins s σ H _ I h) fun v s1 ⟨x, H1, I1, r1, q1⟩ => ho pins s1 σ H1 x v Q I1 r1 q1)
theorem opI {f : Value -> Value -> Sem Value} {C : Int -> Int -> Prop} {g : Int -> Int -> Int}
  (rule : ∀ (i j : Int) (t u : Tok) (s : Shared) (Q : Value -> Shared -> Prop) (E : Value -> Shared -> Prop), C i j -> Q (.int (g i j) s.toks) { s with toks := s.toks + 1 } -> wpAny (model X.prog X.w) X.A (f (.int i t) (.int j u)) Q E s) :
  OpR X f (rI C fun i j => .int (g i j)) := by
 intro pins s σ H x y v u Q I rx ry h
 obtain ⟨i, j, rfl, rfl, hc, q⟩ := h
 obtain ⟨t, rfl⟩ := rx
 obtain ⟨t', rfl⟩ := ry
 exact rule i j t t' s _ _ hc ⟨.int (g i j), H, I.tok _, ⟨_, rfl⟩, q⟩
theorem opI0 {f : Value -> Value -> Sem Value} {g : Int -> Int -> Int}
  (rule : ∀ (i j : Int) (t u : Tok) (s : Shared) (Q : Value -> Shared -> Prop) (E : Value -> Shared -> Prop), Q (.int (g i j) s.toks) { s with toks := s.toks + 1 } -> wpAny (model X.prog X.w) X.A (f (.int i t) (.int j u)) Q E s) :
  OpR X f (rI0 fun i j => .int (g i j)) := by
 intro pins s σ H x y v u Q I rx ry h
 obtain ⟨i, j, rfl, rfl, q⟩ := h
 obtain ⟨t, rfl⟩ := rx
 obtain ⟨t', rfl⟩ := ry
 exact rule i j t t' s _ _ ⟨.int (g i j), H, I.tok _, ⟨_, rfl⟩, q⟩
theorem zwb {f : Value -> Value -> Sem Value} {g : Int -> Int -> Bool}
  (rule : ∀ (i j : Int) (t u : Tok) (s : Shared) (Q : Value -> Shared -> Prop) (E : Value -> Shared -> Prop), Q (.bool (g i j)) s -> wpAny (model X.prog X.w) X.A (f (.int i t) (.int j u)) Q E s) :
  OpR X f (rI0 fun i j => .bl (g i j)) := by
 intro pins s σ H x y v u Q I rx ry h
 obtain ⟨i, j, rfl, rfl, q⟩ := h
 obtain ⟨t, rfl⟩ := rx
 obtain ⟨t', rfl⟩ := ry
 exact rule i j t t' s _ _ ⟨.bl (g i j), H, I, rfl, q⟩
def CPow (i j : Int) : Prop := 0 <= j /\ j <= 1000000 /\ i.natAbs < 2 ^ 64
theorem zud : OpR X (binaryOp .Add) (rI0 fun i j => .int (i + j)) := opI0 fun _ _ _ _ _ _ _ q => add_int q
theorem zsi : OpR X (binaryOp .Mod) (rI (fun _ j => j ≠ 0) fun i j => .int (i.fmod j)) := opI fun _ _ _ _ _ _ _ hc q => mod_int' hc q
theorem zue : OpR X (binaryOp .Pow) (rI CPow fun i j => .int (i ^ j.toNat)) := opI fun _ _ _ _ _ _ _ hc q => pow_int_small hc.1 hc.2.1 hc.2.2 q
theorem unI {f : Value -> Sem Value} {g : Int -> Int}
  (rule : ∀ (i : Int) (t : Tok) (s : Shared) (Q : Value -> Shared -> Prop) (E : Value -> Shared -> Prop), Q (.int (g i) s.toks) { s with toks := s.toks + 1 } -> wpAny (model X.prog X.w) X.A (f (.int i t)) Q E s) :
  UnR X f (rU fun i => .int (g i)) := by
 intro pins s σ H x v Q I rx h
 obtain ⟨i, rfl, q⟩ := h
 obtain ⟨t, rfl⟩ := rx
 exact rule i t s _ _ ⟨.int (g i), H, I.tok _, ⟨_, rfl⟩, q⟩
theorem zuf : UnR X (unaryOp .USub) (rU fun i => .int (-i)) := unI fun _ _ _ _ _ q => neg_int q
end
section
variable {X : Cx} {a b c : Expr} {ta tb tc : TE} {pos : Pos}
theorem ziR {pins : List (Addr × Obj)} {σ : St} {H : Hp} {s : Shared} {Q : VK} {k k' : Bool} (I : Inv X pins σ H s) (q : Q (.bl k) H) (e : k = k') : EP X pins σ Q (.bool k') s := by
 subst e
 exact ⟨.bl k, H, I, rfl, q⟩
theorem zwz : OpR X (compareOp .Lt) (rI0 fun i j => .bl (decide (i < j))) := zwb fun _ _ _ _ _ _ _ q => lt_int q
theorem zwA : OpR X (compareOp .LtE) (rI0 fun i j => .bl (decide (i <= j))) := zwb fun _ _ _ _ _ _ _ q => le_int q
theorem zwB : OpR X (compareOp .Gt) (rI0 fun i j => .bl (decide (j < i))) := zwb fun _ _ _ _ _ _ _ q => gt_int q
theorem zwC : OpR X (compareOp .GtE) (rI0 fun i j => .bl (decide (j <= i))) := zwb fun _ _ _ _ _ _ _ q => ge_int q
theorem zne : OpR X (compareOp .In) (fun x y H Q => ∃ i j, x = .str i /\ y = .str j /\ Q (.bl (!(Builtin.Str.occurrences j i 0 j.length 1).isEmpty)) H) := by
 intro pins s σ H x y v u Q I rx ry h
 obtain ⟨i, j, rfl, rfl, q⟩ := h
 obtain ⟨t, rfl⟩ := rx
 obtain ⟨t', rfl⟩ := ry
 exact in_str (ziR I q rfl)
theorem zug : OpR X (compareOp .Is) (fun x y H Q => y = .non /\ Q (.bl (decide (x = .non))) H) := by
 intro pins s σ H x y v u Q I rx ry h
 obtain ⟨rfl, q⟩ := h
 cases ry
 refine is_none_gen (ziR I q ?_)
 cases x <;> first
  | (cases rx; rfl)
  | (obtain ⟨t, rfl⟩ := rx; rfl)
theorem zsj : OpR X (compareOp .IsNot) (fun x y H Q => y = .non /\ Q (.bl (!decide (x = .non))) H) := by
 intro pins s σ H x y v u Q I rx ry h
 obtain ⟨rfl, q⟩ := h
 cases ry
 refine isnot_none_gen (ziR I q ?_)
 cases x <;> first
  | (cases rx; rfl)
  | (obtain ⟨t, rfl⟩ := rx; rfl)
theorem OpR.or {f : Value -> Value -> Sem Value} {r r' : R2} (h : OpR X f r) (h' : OpR X f r') : OpR X f (fun x y H Q => r x y H Q \/ r' x y H Q) := by
 intro pins s σ H x y v u Q I rx ry q
 rcases q with q | q
 ·exact h pins s σ H x y v u Q I rx ry q
 ·exact h' pins s σ H x y v u Q I rx ry q
theorem zsk {op : CmpOp} {r : R2} (ho : OpR X (compareOp op) r) (ha : PE X a ta) (hb : PE X b tb) (hm : behindInMarks op b = false) : PE X (.Compare a [op] [b] pos) (tOp r ta tb) := by
 intro pins s σ H Q I h
 exact wpAny_Compare1 (zww ha hb I h fun v u s2 x y H2 I2 rx ry q => ho pins s2 σ H2 x y v u Q I2 rx ry q) hm
def zsl (t : TE) : TT := fun σ H Q => t σ H fun x H' => ∃ k, x = .bl k /\ Q k H'
theorem zsm {op : CmpOp} {r : R2} (ho : OpR X (compareOp op) r) (ha : PE X a ta) (hb : PE X b tb) (hm : behindInMarks op b = false) : PT X (.Compare a [op] [b] pos) (zsl (tOp r ta tb)) := by
 intro pins s σ H Q I h
 refine wpAny_isTrue_Compare1 (thn (ha pins s σ H _ I h) fun v s1 ⟨x, H1, I1, r1, q1⟩ => thn (hb pins s1 σ H1 _ I1 q1) fun u s2 ⟨y, H2, I2, r2, q2⟩ =>
  thn (ho pins s2 σ H2 x y v u _ I2 r1 r2 q2) fun c s3 ⟨z, H3, I3, r3, k, e, q3⟩ => ?_) hm
 subst e
 cases r3
 exact wpAny_truthy_bool ⟨H3, I3, q3⟩
def zqS (r r' : R2) (ta tb tc : TE) : TE := fun σ H Q => ta σ H fun x H1 => tb σ H1 fun y H2 => r x y H2 fun z H3 => ∃ k, z = .bl k /\
 (if k = true then tc σ H3 fun w' H4 => r' y w' H4 Q else Q (.bl false) H3)
theorem zpE {op op' : CmpOp} {r r' : R2} (ho : OpR X (compareOp op) r) (ho' : OpR X (compareOp op') r') (ha : PE X a ta) (hb : PE X b tb) (hc : PE X c tc)
  (hm : lastMarks [op, op'] [b, c] = false := by with_unfolding_all rfl) : PT X (.Compare a [op, op'] [b, c] pos) (zsl (zqS r r' ta tb tc)) := by
 intro pins s σ H Q I h
 refine isTrue_chain (thn (ha pins s σ H _ I h) fun v s1 ⟨x, H1, I1, r1, q1⟩ => test_link (thn (hb pins s1 σ H1 _ I1 q1) fun u s2 ⟨y, H2, I2, r2, q2⟩ =>
  thn (ho pins s2 σ H2 x y v u _ I2 r1 r2 q2) fun d s3 ⟨z, H3, I3, r3, k, e, q3⟩ => ?_)) hm
 subst e
 cases r3
 refine wpAny_truthy_bool ?_
 cases k with
 | false =>
  obtain ⟨k', e', q'⟩ := q3
  cases e'
  exact ite_ff ⟨H3, I3, q'⟩
 | true =>
  refine ite_tt (test_last (thn (hc pins s3 σ H3 _ I3 q3) fun w' s4 ⟨z', H4, I4, r4, q4⟩ => thn (ho' pins s4 σ H4 y z' u w' _ I4 r2 r4 q4) fun d' s5 ⟨z2, H5, I5, r5, k2, e2, q5⟩ => ?_))
  subst e2
  cases r5
  exact wpAny_truthy_bool ⟨H5, I5, q5⟩
theorem zkT : (sizeLine : Nat) < 2 ^ 63 := by rw [sizeLine_eq]; decide
theorem zmo : OpR X (binaryOp .Add) (fun x y H Q => ∃ i j, x = .str i /\ y = .str j /\ i.length + j.length <= sizeLine /\ Q (.str (i ++ j)) H) := by
 intro pins s σ H x y v u Q I rx ry h
 obtain ⟨i, j, rfl, rfl, hz, q⟩ := h
 obtain ⟨t, rfl⟩ := rx
 obtain ⟨t', rfl⟩ := ry
 exact add_str (fun t' tk => ⟨.str (i ++ j), H, I.tok _, ⟨_, rfl⟩, q⟩) hz
theorem ziS {x : V} {us : List Value} (r : zbi [x] us) : ∃ u, us = [u] /\ zbg x u := by
 cases r with
 | cons r1 r2 => cases r2; exact ⟨_, rfl, r1⟩
theorem znf {x y : V} {us : List Value} (r : zbi [x, y] us) : ∃ u w', us = [u, w'] /\ zbg x u /\ zbg y w' := by
 cases r with
 | cons r1 r2 =>
  cases r2 with
  | cons r3 r4 => cases r4; exact ⟨_, _, rfl, r1, r3⟩
theorem zpF : zcK X (.builtin "abs") (fun xs H Q => ∃ i, xs = [.int i] /\ Q (.int (if i < 0 then -i else i)) H) := by
 intro pins s σ H xs us Q I r h
 obtain ⟨i, rfl, q⟩ := h
 obtain ⟨u, rfl, t, rfl⟩ := ziS r
 exact call_abs_int fun u tk => ⟨.int (if i < 0 then -i else i), H, I.tok _, ⟨_, rfl⟩, q⟩
theorem zng (hc : X.calm = true) : zcK X (.builtin "max") (fun xs H Q => ∃ i j, xs = [.int i, .int j] /\ Q (.int (if j > i then j else i)) H) := by
 intro pins s σ H xs us Q I r h
 obtain ⟨i, j, rfl, q⟩ := h
 obtain ⟨u, w', rfl, ⟨t, rfl⟩, ⟨t', rfl⟩⟩ := znf r
 refine max_two_ints (I.ok.hd hc) fun h' tk k => ⟨_, H, I.kept k, ?_, q⟩
 by_cases hj : j > i
 ·rw [if_pos hj, if_pos hj]; exact ⟨_, rfl⟩
 ·rw [if_neg hj, if_neg hj]; exact ⟨_, rfl⟩
end
end L2
namespace L2
open PySem.Spec PyProof.Rows
theorem znh {h : Heap} {dx : Addr} {mA : Str -> Option Value} (n : h.Ns1 dx mA) : ∃ od, h.get? dx = some od /\ ∀ name, PySem.W.lookIn name od = some (mA name) := by
 obtain ⟨o, es, ep, ho, hd, hk, _, hm⟩ := n
 refine ⟨o, ho, fun name => ?_⟩
 have e := hm name
 unfold nsFind findBy at e
 rw [<- Array.find?_toList] at e
 unfold PySem.W.lookIn
 rw [hd]
 dsimp only
 split
 ·rename_i y q
  rw [q] at e
  exact congrArg some e
 ·rename_i q
  rw [q] at e
  have a : es.toList.any (·.refKey) = false := by
   rw [List.any_eq_false]
   intro y hy
   obtain ⟨z, t, hkey⟩ := hk y (Array.mem_toList_iff.mp hy)
   simp [DictEntry.refKey, hkey]
  have a' : ¬ es.toList.any (·.refKey) = true := by rw [a]; exact xau
  rw [if_neg a']
  exact congrArg some e
theorem ztH.some_of {v : V} {o : Option Value} (r : ztH (some v) o) : ∃ u, o = some u /\ zbg v u := by
 cases o with
 | none => exact (show False from r).elim
 | some u => exact ⟨u, rfl, r⟩
theorem zni {v : V} {u : Value} (r : zbg v u) : PySem.W.handedIn u = true := by
 cases v with
 | non => cases (show u = Value.none from r); rfl
 | bl b => cases (show u = Value.bool b from r); rfl
 | int i => obtain ⟨t, e⟩ := (show ∃ t, u = Value.int i t from r); cases e; rfl
 | str x => obtain ⟨t, e⟩ := (show ∃ t, u = Value.str x t from r); cases e; rfl
 | byt b => obtain ⟨t, e⟩ := (show ∃ t, u = Value.bytes b t from r); cases e; rfl
 | flt b => obtain ⟨t, e⟩ := (show ∃ t, u = Value.float b t from r); cases e; rfl
 | ref a => cases (show u = Value.ref a from r); rfl
 | ty n => cases (show u = Value.type n from r); rfl
section
variable {X : Cx} {pins : List (Addr × Obj)} {σ : St} {H : Hp} {s : Shared} {a C dx : Addr} {fs : List (Str × V)} {f : Str} {v : V} {A : Around} {E : Value -> Shared -> Prop}
theorem zsn {prog : Program} {w : World} {env : Env} {e : Expr} {f : Str} {pos : Pos} {s : Shared} {Q : Value -> Shared -> Prop} (hb : attributeBase e f env (eval e env) = eval e env)
  (h : wpAny (model prog w) A (eval e env) (fun o s₁ => wpAny (model prog w) A (getAttr o f true) Q E s₁) E s) : wpAny (model prog w) A (eval (.Attribute e f pos) env) Q E s :=
 Attribute_any_ h (by rw [arm_eval_Attribute, hb])
end
end L2
namespace L2
open PySem.Spec PyProof.Rows
structure zeD (k : Nat) (A : Around) : Prop where
 hd : A.handled = none
 dp : A.depth + 3 * k + 5 < recursionLimit
 un : A.units + 16 * k + 200 < cLine
theorem zeD.mono {j k : Nat} {A : Around} (r : zeD k A) (h : j <= k) : zeD j A := ⟨r.hd, by have := r.dp; omega, by have := r.un; omega⟩
theorem zeD.deeper {k : Nat} {A : Around} (r : zeD (k + 1) A) (env : Env) : zeD k (A.deeper env) :=
 ⟨r.hd, by have := r.dp; show A.depth + 1 + 3 * k + 5 < _; omega, by have := r.un; show A.units + 3 + 16 * k + 200 < _; omega⟩
theorem zmp {A : Around} {C : Addr} {us : List Value} {kw : List (Str × Value)} : (A.under (.builtin "type.__call__" ⟨.ref C :: us, kw⟩)).depth = A.depth + 1 := by
 first | rfl | simp [Around.under, Code.weight, Code.isCreation, Code.isGuard, Code.isCaller, Code.frames, Code.isFrame, guardIds]
theorem zmq {A : Around} {C : Addr} {us : List Value} {kw : List (Str × Value)} : (A.under (.builtin "type.__call__" ⟨.ref C :: us, kw⟩)).units = A.units + 1 := by
 first | rfl | simp [Around.under, Code.cUnits, Code.frames, Code.isFrame]
theorem zeD.make {k : Nat} {A : Around} (r : zeD (k + 1) A) (C : Addr) (us : List Value) (kw : List (Str × Value)) : zeD k (A.under (.builtin "type.__call__" ⟨.ref C :: us, kw⟩)) :=
 ⟨r.hd, by have := r.dp; rw [zmp]; omega, by have := r.un; rw [zmq]; omega⟩
theorem zeD.depth {k : Nat} {A : Around} (r : zeD k A) : A.depth < recursionLimit := by have := r.dp; omega
def tNil : TA := fun _ H Q => Q [] H
def zwD (ta : TE) (tr : TA) : TA := fun σ H Q => ta σ H fun x H1 => tr σ H1 fun xs H2 => Q (x :: xs) H2
section
variable {X : Cx} {e : Expr} {es : List Expr} {te : TE} {t : TA} {pos : Pos}
theorem zqT : PA X [] tNil := fun _ _ _ _ H Q I h => Calls.spliced_nil ⟨[], H, I, .nil, h⟩
theorem znj (ha : PE X e te) (hr : PA X es t) (hs : starEach (e :: es) X.env = (false, eval e X.env) :: starEach es X.env := by rfl) : PA X (e :: es) (zwD te t) := by
 intro pos pins s σ H Q I h
 rw [hs]
 show wpAny _ _ (spliced ((false, eval e X.env) :: backTo pos (starEach es X.env))) _ _ s
 refine Calls.spliced_cons (thn (ha pins s σ H _ I h) fun u s1 ⟨x, H1, I1, r1, q1⟩ => ?_)
 exact thn (hr pos pins s1 σ H1 _ I1 q1) fun us s2 ⟨xs, H2, I2, r2, q2⟩ => ⟨x :: xs, H2, I2, .cons r1 r2, q2⟩
def tTup (t : TA) : TE := fun σ H Q => t σ H fun xs H1 => xs.length <= sizeLine /\ ∀ p, H1 p = none -> Q (.ref p) (upd H1 p (.tup xs))
def tLst (t : TA) : TE := fun σ H Q => t σ H fun xs H1 => xs.length <= sizeLine /\ ∀ p, H1 p = none -> Q (.ref p) (upd H1 p (.lst xs))
theorem zuh {x1} (h : PA X es t) : PE X (.Tuple es x1 pos) (tTup t) := by
 intro pins s σ H Q I hq
 refine wpAny_Tuple_spliced (thn (h pos pins s σ H _ I hq) fun us s1 ⟨xs, H1, I1, r, z, q⟩ => ⟨by rw [<- r.length]; exact z, ?_⟩)
 have hf : H1 s1.heap.objs.size = none := I1.hok.fresh (xag _)
 refine ⟨.ref s1.heap.objs.size, upd H1 s1.heap.objs.size (.tup xs), I1.laid (t' := s1.toks) (fun b u e => xaa _ e) (xag _) ?_, rfl, q _ hf⟩
 exact ⟨z, us, r, ⟨_, xav _ rfl, rfl, _, rfl⟩⟩
theorem zui (h : PA X es t) : PE X (.List es pos) (tLst t) := by
 intro pins s σ H Q I hq
 refine wpAny_List_spliced (thn (h pos pins s σ H _ I hq) fun us s1 ⟨xs, H1, I1, r, z, q⟩ => ⟨by rw [<- r.length]; exact z, ?_⟩)
 have hf : H1 s1.heap.objs.size = none := I1.hok.fresh (xag _)
 refine ⟨.ref s1.heap.objs.size, upd H1 s1.heap.objs.size (.lst xs), I1.laid (t' := s1.toks) (fun b u e => xaa _ e) (xag _) ?_, rfl, q _ hf⟩
 exact ⟨z, us, 0, r, xav _ rfl⟩
end
abbrev Sp := List V -> Hp -> VK -> XK -> Prop
abbrev CXT := List Env -> Hp -> Shared -> XK -> Value -> Shared -> Prop
structure zso (P : Program) (w : World) (K : xFg) (mg : Str -> Option Value) (base : Heap) (A : Around) (outer : List Env) (s : Shared) (H : Hp) : Prop where
 frames : A.frames = some outer
 mod : Mod K mg base
 bs : ∀ b o, base.get? b = some o -> s.heap.get? b = some o /\ H b = none
 bsz : base.objs.size <= s.heap.objs.size
 funs : s.heap.FunFrames base outer
 frf : ∀ b ∈ frs outer, H b = none
 hok : HOk P w H s.heap
 bare : AllBare s.gens
def CE (outer : List Env) (P : Program) (w : World) (H : Hp) (s : Shared) (Q : VK) (u : Value) (s' : Shared) : Prop :=
 ∃ v H', s'.os = s.os /\ AllBare s'.gens /\ Un (frs outer) [] H H' s.heap s'.heap /\ HOk P w H' s'.heap /\ zbg v u /\ Q v H'
def CR (CX : CXT) (outer : List Env) (P : Program) (w : World) (H : Hp) (s : Shared) (Q : VK) (E : XK) (r : Result) (s' : Shared) : Prop :=
 match r with
 | .ok (.ret u) => CE outer P w H s Q u s'
 | .ok _ => False
 | .error e => CX outer H s E e s'
structure zgj (P : Program) (w : World) (K : xFg) (mg : Str -> Option Value) (base : Heap) (CX : CXT) (k : Nat) (f : Addr) (fd : FuncData) (ps : List Str) (sp : Sp) : Prop where
 len : ∀ vs H Q E, sp vs H Q E -> vs.length = ps.length
 run : ∀ (A : Around) (outer : List Env) (s : Shared) (H : Hp) (args : Args) (us : List Value) (vs : List V) (Q : VK) (E : XK), zeD k A -> zso P w K mg base A outer s H -> BindsTo s fd args (ps.zip us) -> zbi vs us -> sp vs H Q E ->
  codeAny (model P w) A (.call (.ref f) args) (CR CX outer P w H s Q E) s
theorem zgj.mono {P : Program} {w : World} {K : xFg} {mg : Str -> Option Value} {base : Heap} {CX : CXT} {j k : Nat} {f : Addr} {fd : FuncData} {ps : List Str} {sp : Sp} (F : zgj P w K mg base CX j f fd ps sp) (h : j <= k) :
  zgj P w K mg base CX k f fd ps sp := ⟨F.len, fun A outer s H args us vs Q E hr => F.run A outer s H args us vs Q E (hr.mono h)⟩
theorem zgj.imp {P : Program} {w : World} {K : xFg} {mg : Str -> Option Value} {base : Heap} {CX : CXT} {k : Nat} {f : Addr} {fd : FuncData} {ps : List Str} {sp sp' : Sp} (F : zgj P w K mg base CX k f fd ps sp)
  (h : ∀ vs H Q E, sp' vs H Q E -> sp vs H Q E) : zgj P w K mg base CX k f fd ps sp' :=
 ⟨fun vs H Q E q => F.len vs H Q E (h _ _ _ _ q), fun A outer s H args us vs Q E hr he hb hv hs => F.run A outer s H args us vs Q E hr he hb hv (h _ _ _ _ hs)⟩
theorem zso.make {P : Program} {w : World} {K : xFg} {mg : Str -> Option Value} {base : Heap} {A : Around} {outer : List Env} {s : Shared} {H : Hp} (e : zso P w K mg base A outer s H) (C : Addr) (us : List Value) (kw : List (Str × Value)) :
  zso P w K mg base (A.under (.builtin "type.__call__" ⟨.ref C :: us, kw⟩)) outer s H := ⟨by first | exact e.frames | (simpa [Around.under, Code.envs, Code.isFrame, pushEnvs] using e.frames), e.mod, e.bs, e.bsz, e.funs, e.frf, e.hok, e.bare⟩
section
variable {X : Cx} {pins : List (Addr × Obj)} {σ : St} {H : Hp} {s s' : Shared}
theorem Inv.env0 (I : Inv X pins σ H s) : zso X.prog X.w X.K X.mg X.base X.A X.stack s H :=
 ⟨I.ok.frames, I.ok.mod, I.bs, xa3 I.ok.bsz I.sz, I.stack, I.stkFree, I.hok, I.bare⟩
theorem Inv.after {Q : VK} {u : Value} (I : Inv X pins σ H s) (h : CE X.stack X.prog X.w H s Q u s') : EP X pins σ Q u s' := by
 obtain ⟨v, H', os, bare, un, hok, r, q⟩ := h
 obtain ⟨hh, g, d, t, os'⟩ := s'
 obtain rfl : os' = s.os := os
 exact ⟨v, H', I.call (h' := hh) (g' := g) (d' := d) (t' := t) (ch := []) un hok bare (fun b z => absurd z (by simp)), r, q⟩
end
def zwE (sp : Sp) (dvs : List V) (E : XK) (t : TA) : TE := fun σ H Q => t σ H fun vs H1 => sp (vs ++ dvs) H1 Q E
def zgx (K : xFg) (fd : FuncData) (ps : List Str) (ds : List Value) : Prop :=
 ∀ (s : Shared) (us : List Value), K.In s.heap -> (us ++ ds).length = ps.length -> BindsTo s fd ⟨us, []⟩ (ps.zip (us ++ ds))
theorem zgx.all {K : xFg} {fd : FuncData} {ps : List Str} (h : ∀ us : List Value, us.length = ps.length -> bindArgs fd ⟨us, []⟩ = pure (ps.zip us)) : zgx K fd ps [] := fun s us _ hl => by
 rw [xcl] at hl ⊢
 exact .of_eq (h us hl)
def ziT (CX : CXT) (X : Cx) (E : XK) : Prop := ∀ (pins : List (Addr × Obj)) (σ : St) (H : Hp) (s : Shared) (e : Value) (s' : Shared), Inv X pins σ H s -> CX X.stack H s E e s' -> X.xe e s'
section
variable {X : Cx} {CX : CXT} {k : Nat} {f C : Addr} {fd : FuncData} {ps : List Str} {sp : Sp} {dvs : List V} {ds : List Value} {E : XK} {x m : Str} {p pos apos : Pos} {e o : Expr} {es : List Expr} {ta : TE} {t : TA}
theorem zuj {pins : List (Addr × Obj)} {σ : St} {H : Hp} {s : Shared} {Q : VK} {us : List Value} {vs : List V} (F : zgj X.prog X.w X.K X.mg X.base CX k f fd ps sp) (hr : zeD k X.A) (hb : zgx X.K fd ps ds) (hd : zbi dvs ds) (hx : ziT CX X E)
  (I : Inv X pins σ H s) (r : zbi vs us) (h : sp (vs ++ dvs) H Q E) : wpAny (model X.prog X.w) X.A (call (.ref f) us) (EP X pins σ Q) X.xe s := by
 have r2 : zbi (vs ++ dvs) (us ++ ds) := r.append hd
 have hl : (us ++ ds).length = ps.length := by rw [<- r2.length]; exact F.len _ _ _ _ h
 refine wpAny_call (codeAny_mono (F.run X.A X.stack s H ⟨us, []⟩ (us ++ ds) (vs ++ dvs) Q E hr I.env0 (hb s us I.kIn hl) r2 h) fun r s' hq => ?_)
 cases r with
 | error e => exact hx pins σ H s e s' I hq
 | ok fl =>
  cases fl with
  | ret u => exact I.after hq
  | next => exact False.elim hq
  | brk => exact False.elim hq
  | cont => exact False.elim hq
theorem zsp (F : zgj X.prog X.w X.K X.mg X.base CX k f fd ps sp) (hr : zeD k X.A) (hg : Gl X x) (hm : X.mg x = some (.ref f)) (hk : PySem.W.keepIn X.K (.ref f) = true) (hb : zgx X.K fd ps ds) (hd : zbi dvs ds) (hx : ziT CX X E)
  (ha : PA X (e :: es) t) (hdb : (x == ("__debug__" : Str)) = false := by decide) (he : starEach (e :: es) X.env = (false, eval e X.env) :: starEach es X.env := by rfl) (hpl : (backTo pos (starEach es X.env)).any (·.1) = false := by rfl) :
  PE X (.Call (.Name x p) (e :: es) [] pos) (zwE sp dvs E t) := by
 intro pins s σ H Q I h
 refine wpAny_Call_Name_kw (zfF I hg hm ?_ hdb)
 refine PySem.W.callWith_K (h₀ := X.base) I.ok.mod.kin hk (thn (ha pos pins s σ H _ I h) fun us s1 ⟨vs, H1, I1, r, q⟩ => ⟨I1.kIn, ?_⟩) he hpl
 exact zuj F hr hb hd hx I1 r q
end
structure zdk (N P : List Str) (sc : Scope) : Prop where
 kind : sc.kind = .function
 co : sc.isCoroutine = false
 gen : sc.isGenerator = false
 nd : N.Nodup
 pre : N.take P.length = P
 par : ∀ x ∈ P, sc.names.lookup x = some .local \/ sc.names.lookup x = some .cell
 nofree : ∀ y ∈ sc.names, y.2 ≠ .free
theorem ziU {kindOf : Str -> Option NameKind} {x : Str} : ∀ {binds : List (Str × Value)} {m : Str -> Option Value}, (∀ v, (x, v) ∉ binds) -> bindL kindOf binds m x = m x
 | [], _, _ => rfl
 | (n, v) :: r, m, h => by
  unfold bindL
  rw [ziU fun w hw => h w (xaf _ hw)]
  split
  ·have : x ≠ n := by rintro rfl; exact h v xal
   simp [this]
  ·rfl
theorem ziV {kindOf : Str -> Option NameKind} {x : Str} : ∀ {binds : List (Str × Value)} {m : Str -> Option Value}, (∀ v, (x, v) ∉ binds) -> bindC kindOf binds m x = m x
 | [], _, _ => rfl
 | (n, v) :: r, m, h => by
  unfold bindC
  rw [ziV fun w hw => h w (xaf _ hw)]
  split
  ·rfl
  ·have : x ≠ n := by rintro rfl; exact h v xal
   simp [this]
theorem ziW {kindOf : Str -> Option NameKind} {x : Str} {v : Value} : ∀ {P : List Str} {vs : List Value} {i : Nat} {m : Str -> Option Value}, P.Nodup -> P[i]? = some x -> vs[i]? = some v -> kindOf x = some .local ->
  bindL kindOf (P.zip vs) m x = some v
 | [], _, _, _, _, h, _, _ => by simp at h
 | _ :: _, [], _, _, _, _, h, _ => by simp at h
 | p :: P, w :: vs, 0, m, nd, h1, h2, hk => by
  simp at h1 h2; subst h1; subst h2
  show bindL kindOf ((p, w) :: P.zip vs) m p = _
  unfold bindL
  rw [ziU fun v hv => (xcm.mp nd).1 (xc4 hv).1, if_pos hk]
  simp
 | p :: P, w :: vs, i + 1, m, nd, h1, h2, hk => by
  show bindL kindOf ((p, w) :: P.zip vs) m x = _
  unfold bindL
  exact ziW (i := i) (xcm.mp nd).2 (by simpa using h1) (by simpa using h2) hk
theorem ziX {kindOf : Str -> Option NameKind} {x : Str} {v : Value} : ∀ {P : List Str} {vs : List Value} {i : Nat} {m : Str -> Option Value}, P.Nodup -> P[i]? = some x -> vs[i]? = some v -> kindOf x ≠ some .local ->
  bindC kindOf (P.zip vs) m x = some v
 | [], _, _, _, _, h, _, _ => by simp at h
 | _ :: _, [], _, _, _, _, h, _ => by simp at h
 | p :: P, w :: vs, 0, m, nd, h1, h2, hk => by
  simp at h1 h2; subst h1; subst h2
  show bindC kindOf ((p, w) :: P.zip vs) m p = _
  unfold bindC
  rw [ziV fun v hv => (xcm.mp nd).1 (xc4 hv).1, if_neg hk]
  simp
 | p :: P, w :: vs, i + 1, m, nd, h1, h2, hk => by
  show bindC kindOf ((p, w) :: P.zip vs) m x = _
  unfold bindC
  exact ziX (i := i) (xcm.mp nd).2 (by simpa using h1) (by simpa using h2) hk
def start (N : List Str) (vs : List V) : St := vs.map some ++ List.replicate (N.length - vs.length) none
def zdc (CX : CXT) (P : Program) (w : World) (K : xFg) (mg : Str -> Option Value) (base : Heap) (N : List Str) (qual : Str) (scope : Scope) (f : Addr) (cd : Value) (A : Around) (outer : List Env) (s : Shared) (H : Hp) (E : XK) : Cx where
 prog := P
 w := w
 K := K
 mg := mg
 base := base
 A := A.deeper (envOfC qual scope s.heap.objs.size f cd)
 N := N
 s₀ := s
 H₀ := H
 env := envOfC qual scope s.heap.objs.size f cd
 outer := outer
 stack := envOfC qual scope s.heap.objs.size f cd :: outer
 ex := []
 calm := true
 fn := fun _ => true
 pn := []
 xe := fun e s' => wpAny (model P w) (A.deeper (envOfC qual scope s.heap.objs.size f cd)) (leaving (envOfC qual scope s.heap.objs.size f cd) e) (fun _ s'' => CX outer H s E e s'') (fun e' s'' => CX outer H s E e' s'') s'
theorem zkU {sc : Scope} {n : Nat} {x : Str} (h : sc.names.lookup x = some .cell) : ∃ c, (cellsFrom n sc.names []).lookup x = some c := by
 have q := PySem.W.cellsFrom_some sc.names n [] (.inl h)
 exact xbb.mp q
theorem znk {CX : CXT} {P : Program} {w : World} {K : xFg} {mg : Str -> Option Value} {base : Heap} {N ps : List Str} {qual : Str} {scope : Scope} {f : Addr} {cd : Value} {A : Around} {outer : List Env} {s s1 : Shared} {H : Hp} {E : XK} {us : List Value} {vs : List V}
  (S : zdk N ps scope) (hd : A.handled = none) (e0 : zso P w K mg base A outer s H) (hl : vs.length = ps.length) (r : zbi vs us)
  (x : InCallC s s.heap.objs.size (bindL (envOfC qual scope s.heap.objs.size f cd).kindOf (ps.zip us) fun _ => none) (cellsFrom (s.heap.objs.size + 1) scope.names []) (bindC (envOfC qual scope s.heap.objs.size f cd).kindOf (ps.zip us) fun _ => none) s1) :
  Inv (zdc CX P w K mg base N qual scope f cd A outer s H E) [] (start N vs) H s1 := by
 have hpl : ps.length <= N.length := by have := congrArg List.length S.pre; rw [xa5] at this; omega
 obtain ⟨h1, tk, rfl, hk⟩ := x.done
 have noA : ∀ b : Addr, b ∉ (zdc CX P w K mg base N qual scope f cd A outer s H E).ex := fun b z => absurd (show b ∈ ([] : List Addr) from z) (by simp)
 refine ⟨⟨e0.mod, S.kind, rfl, rfl, xag _, fun y z c h1 h2 => ?_, fun y hy => ?_, fun y c _ h => ?_, fun _ => hd, Around.frames_deeper e0.frames, .inr ⟨rfl, rfl⟩, fun b z => absurd z (noA b), e0.bs, e0.bsz, fun b _ _ => noA b, fun b z => absurd z (noA b), e0.funs, e0.frf⟩,
  rfl, e0.bare, Un.kept hk, ⟨_, x.toInCall.ns, fun i y v h1 h2 h3 => ?_⟩, fun y c h => ⟨_, x.cell y c h⟩, e0.hok.fresh (xag _), fun y c h => ?_, fun p hp => absurd (show p ∈ ([] : List (Addr × Obj)) from hp) (by simp), e0.hok.kept hk, ?_⟩
 ·exact name_of_addr x.apart (PySem.mem_of_lookup h1) (PySem.mem_of_lookup h2)
 ·have hy : scope.names.lookup y = some .cell \/ scope.names.lookup y = some .free := hy
  rcases hy with hy | hy
  ·exact zkU hy
  ·exact absurd rfl (S.nofree _ (PySem.mem_of_lookup hy))
 ·exact xcq (x.above y c (PySem.mem_of_lookup h))
 ·have hi : i < vs.length := by
   unfold start at h2
   by_cases hi : i < vs.length
   ·exact hi
   ·rw [xcd (by simpa using hi)] at h2
    rw [xcu] at h2
    split at h2 <;> cases h2
  have ha : vs[i]? = some v := by
   unfold start at h2
   rw [xb4 (by simpa using hi), xbz] at h2
   cases e : vs[i]? with
   | none => rw [e] at h2; cases h2
   | some a => rw [e] at h2; cases h2; rfl
  obtain ⟨u, hu, rv⟩ := r.get ha
  have hp : ps[i]? = some y := by
   rw [<- S.pre, List.getElem?_take_of_lt (by omega)]; exact h1
  have ndP : ps.Nodup := by rw [<- S.pre]; exact S.nd.sublist (List.take_sublist _ _)
  refine ⟨u, rv, ?_⟩
  rcases S.par y (xbe hp) with k | k
  ·exact .inl ⟨k, ziW ndP hp hu k⟩
  ·obtain ⟨c, e⟩ := zkU (n := s.heap.objs.size + 1) k
   refine .inr ⟨.inl k, c, e, ?_⟩
   have q := x.cell y c e
   rw [ziX ndP hp hu (by show scope.names.lookup y ≠ _; rw [k]; decide)] at q
   exact q
 ·exact e0.hok.fresh (xcq (x.above y c (PySem.mem_of_lookup h)))
 ·unfold start
  show _ = N.length
  rw [xbr, xad, xc2]
  omega
theorem zsq {CX : CXT} {P : Program} {w : World} {K : xFg} {mg : Str -> Option Value} {base : Heap} {k : Nat} {f : Addr} {name qual : Str} {params : Arguments} {body : List Stmt} {scope : Scope} {dV kV doc pm cdv ct oc : Value} {an od : Option Addr}
  {osl : Array (Option Value)} {N ps : List Str} {sp : Sp} (lk : K.lookup f = some ⟨oc, od, .func (PySem.W.fnOf name qual params body scope dV kV doc pm an cdv ct), osl⟩) (hcd : PySem.W.codeIn K cdv qual = true) (S : zdk N ps scope)
  (len : ∀ vs H Q E, sp vs H Q E -> vs.length = ps.length)
  (hbody : ∀ (A : Around) (outer : List Env) (s : Shared) (H : Hp) (vs : List V) (Q : VK) (E : XK), zeD k (A.deeper (envOfC qual scope s.heap.objs.size f cdv)) -> sp vs H Q E ->
   ∃ t, PSs (zdc CX P w K mg base N qual scope f cdv A outer s H E) body t /\ t { nx := fun _ H' => Q .non H', rt := Q } (start N vs) H) :
  zgj P w K mg base CX (k + 1) f (PySem.W.fnOf name qual params body scope dV kV doc pm an cdv ct) ps sp := by
 refine ⟨len, fun A outer s H args us vs Q E hr e0 hb r hsp => ?_⟩
 have hl := len _ _ _ _ hsp
 have KX : K.In s.heap := e0.mod.kin.keeps fun b o e => (e0.bs b o e).1
 have lim : s.heap.NoLimit := e0.mod.nolimit.keeps fun b o e => (e0.bs b o e).1
 have hkind : ∀ y ∈ ps.zip us, scope.names.lookup y.1 = some .local \/ (scope.names.lookup y.1 = some .cell /\ ((cellsFrom (s.heap.objs.size + 1) scope.names []).lookup y.1).isSome = true) := fun ⟨n, v⟩ hy => by
  rcases S.par n (xc4 hy).1 with q | q
  ·exact .inl q
  ·exact .inr ⟨q, PySem.W.cellsFrom_some _ _ _ (.inl q)⟩
 refine codeAny_call_function hr.depth (KX _ _ lk) rfl S.co S.gen rfl (PySem.W.codeRec_of KX hcd) (hb _ _ _ _ ?_)
 refine wpAny_newFunctionEnv_cells S.kind hkind fun env he s1 x => ?_
 subst he
 refine ⟨lim.keeps x.toInCall.keep, codeAny_func ?_⟩
 obtain ⟨t, ht, hq⟩ := hbody A outer s H vs Q E (hr.deeper _) hsp
 have I : Inv (zdc CX P w K mg base N qual scope f cdv A outer s H E) [] (start N vs) H s1 := znk S hr.hd e0 hl r x
 refine wpAny_mono (ht [] s1 (start N vs) H _ I hq) (fun fl s' hs => ?_) fun e s' hs => hs
 have fin : ∀ {σ' : St} {H' : Hp} {v : V} {u : Value}, Inv (zdc CX P w K mg base N qual scope f cdv A outer s H E) [] σ' H' s' -> zbg v u -> Q v H' -> CE outer P w H s Q u s' :=
  fun {σ' H' v u} J rv q => ⟨v, H', J.os, J.bare, J.base, J.hok, rv, q⟩
 cases fl with
 | ret u =>
  obtain ⟨v, σ', H', J, rv, q⟩ := hs
  exact fin J rv q
 | next =>
  obtain ⟨σ', H', J, q⟩ := hs
  exact fin (v := V.non) (u := Value.none) J rfl q
 | brk =>
  obtain ⟨_, _, _, q⟩ := hs
  exact False.elim q
 | cont =>
  obtain ⟨_, _, _, q⟩ := hs
  exact False.elim q
end L2
namespace L2
open PySem.Spec PyProof.Rows
section
variable {X : Cx} {x : Str} {p pos : Pos} {e : Expr} {es : List Expr} {t : TA} {id T : String} {r : List V -> Hp -> VK -> Prop}
def tCB (r : List V -> Hp -> VK -> Prop) (t : TA) : TE := fun σ H Q => t σ H fun vs H1 => r vs H1 Q
theorem zkV (hc : zcK X (.builtin id) r) (hg : Gl X x) (hm : X.mg x = none) (hv : bootBuiltins x = some (.builtin id)) (ha : PA X (e :: es) t) (hn : x ≠ "__name__" := by decide) (hdb : (x == ("__debug__" : Str)) = false := by decide)
  (he : starEach (e :: es) X.env = (false, eval e X.env) :: starEach es X.env := by rfl) (hpl : (backTo pos (starEach es X.env)).any (·.1) = false := by rfl) : PE X (.Call (.Name x p) (e :: es) [] pos) (tCB r t) := by
 intro pins s σ H Q I h
 refine wpAny_Call_Name_kw (zhK I hg hm hv ?_ hn hdb)
 exact PyProof.Rows.callWith_builtin1 (thn (ha pos pins s σ H _ I h) fun us s1 ⟨vs, H1, I1, r1, q1⟩ => hc pins s1 σ H1 vs us Q I1 r1 q1) he hpl
theorem zgy (hc : zcK X (.type T) r) (hg : Gl X x) (hm : X.mg x = none) (hv : bootBuiltins x = some (.type T)) (ha : PA X (e :: es) t) (hn : x ≠ "__name__" := by decide) (hdb : (x == ("__debug__" : Str)) = false := by decide)
  (he : starEach (e :: es) X.env = (false, eval e X.env) :: starEach es X.env := by rfl) (hpl : (backTo pos (starEach es X.env)).any (·.1) = false := by rfl) : PE X (.Call (.Name x p) (e :: es) [] pos) (tCB r t) := by
 intro pins s σ H Q I h
 refine wpAny_Call_Name_kw (zhK I hg hm hv ?_ hn hdb)
 exact PyProof.Rows.callWith_type1 (thn (ha pos pins s σ H _ I h) fun us s1 ⟨vs, H1, I1, r1, q1⟩ => hc pins s1 σ H1 vs us Q I1 r1 q1) he hpl
end
end L2
namespace HT
open PyProof.Rows
section
variable {prog : Program} {w : World} {A : Around} {E : Value -> Shared -> Prop} {s : Shared}
theorem cat_tup {t b : Addr} {vs ws : List Value} {Q : Value -> Shared -> Prop} (ht : IsTup s.heap t vs.toArray) (hb : IsTup s.heap b ws.toArray) (hv : vs ≠ [])
  (h1 : ws = [] -> Q (.ref t) s) (h2 : ws ≠ [] -> Q (.ref s.heap.objs.size) { s with heap := s.heap.push { cls := .type "tuple", data := .seq (vs ++ ws).toArray } })
  (hsz : vs.length + ws.length <= sizeLine) : wpAny (model prog w) A (binaryOp .Add (.ref t) (.ref b)) Q E s := by
 obtain ⟨⟨cls, dd, data, sl⟩, ho, hc, n, hd⟩ := id ht
 obtain ⟨⟨cls2, dd2, data2, sl2⟩, ho2, hc2, n2, hd2⟩ := id hb
 simp only at hc hd hc2 hd2
 subst hc hd hc2 hd2
 have e : vs.toArray ++ ws.toArray = (vs ++ ws).toArray := by simp
 by_cases hw : ws = []
 ·exact concat_meets ⟨_, ho, rfl⟩ ⟨_, ho2, rfl⟩ noFill_tuple_add seq_tuple_add PySem.F.slot_tuple_add PySem.F.entry_tuple_add (PySem.F.args_tuple_add_2 _ _)
   (tuple_addW1 t b vs.toArray ws.toArray n n2 dd dd2 sl sl2 (by simpa using hv) (by simp [hw])) ⟨ho, ho2, h1 hw⟩
 ·refine concat_meets ⟨_, ho, rfl⟩ ⟨_, ho2, rfl⟩ noFill_tuple_add seq_tuple_add PySem.F.slot_tuple_add PySem.F.entry_tuple_add (PySem.F.args_tuple_add_2 _ _)
   (tuple_addW2 t b vs.toArray ws.toArray n n2 dd dd2 sl sl2 (by simpa using hv) (by simpa using hw) (by rw [xak, xak]; exact hsz)) ⟨ho, ho2, ?_⟩
  rw [e]
  exact h2 hw
def sIx (n d : Nat) : Option Int -> Nat
 | none => d
 | some v => if v < 0 then (v + (n : Int)).toNat else min v.toNat n
theorem sIx_none (n d : Nat) : sIx n d none = d := rfl
theorem sIx_nat (n d k : Nat) : sIx n d (some (k : Int)) = min k n := by
 show (if (k : Int) < 0 then ((k : Int) + (n : Int)).toNat else min (k : Int).toNat n) = min k n
 rw [if_neg (by omega), Int.toNat_natCast]
theorem zuk (n d : Nat) (hd : d <= n) (o : Option Int) : sIx n d o <= n := by
 cases o with
 | none => exact hd
 | some v =>
  show (if v < 0 then (v + (n : Int)).toNat else min v.toNat n) <= n
  by_cases hv : v < 0
  ·rw [if_pos hv]; omega
  ·rw [if_neg hv]; exact Nat.min_le_right _ _
theorem znl (v : Int) (n d : Nat) : (if v < 0 then max (v + (n : Int)) 0 else min v (n : Int)) = ((sIx n d (some v) : Nat) : Int) := by
 show (if v < 0 then max (v + (n : Int)) 0 else min v (n : Int)) = (((if v < 0 then (v + (n : Int)).toNat else min v.toNat n) : Nat) : Int)
 by_cases hv : v < 0
 ·simp only [if_pos hv]; omega
 ·simp only [if_neg hv]; omega
theorem zmr (lo hi : Option Int) (n : Nat) : Builtin.Slice.sliceAdjust lo hi 1 (n : Int) = (((sIx n 0 lo : Nat) : Int), ((sIx n n hi : Nat) : Int)) := by
 have h1 : ¬ ((1 : Int) < 0) := by omega
 unfold Builtin.Slice.sliceAdjust
 simp only [h1, if_false]
 refine xap ?_ ?_
 ·cases lo with
  | none => rfl
  | some v => exact znl v n 0
 ·cases hi with
  | none => rfl
  | some v => exact znl v n n
theorem zms (i j : Nat) : Builtin.Slice.slicePlaces (i : Int) (j : Int) 1 = j - i := by
 unfold Builtin.Slice.slicePlaces
 have h1 : (1 : Int) > 0 := by omega
 simp only [h1, if_true, Int.ediv_one]
 split <;> omega
theorem zhL {v : Value} {o : Option Int} {Q : Option Int -> Shared -> Prop} (p : IsPart v o) (h : Q o s) : wpAny (model prog w) A (Builtin.Slice.slicePartIndex v) Q E s := by
 cases p with
 | none => exact slicePart_none h
 | int i t => exact slicePart_int h
theorem zf9 {sl : Addr} {vl vu : Value} {lo hi : Option Int} {n : Nat} {Q : Int × Int × Nat -> Shared -> Prop} (hs : s.heap.IsSliceOf sl vl vu .none) (pl : IsPart vl lo) (pu : IsPart vu hi)
  (h : Q (((sIx n 0 lo : Nat) : Int), 1, sIx n n hi - sIx n 0 lo) s) : wpAny (model prog w) A (Builtin.Slice.sliceApplied (.ref sl) (pure (n : Int))) Q E s := by
 obtain ⟨os, hos, hcs, hds⟩ := id hs
 unfold Builtin.Slice.sliceApplied Builtin.Slice.sliceFields
 refine wpAny_bind (wpAny_bind (wpAny_field hos hds (x := vl) rfl (wpAny_bind (wpAny_field hos hds (x := vu) rfl (wpAny_bind (wpAny_field hos hds (x := .none) rfl (wpAny_pure ?_)))))))
 refine wpAny_bind (slicePart_none ?_)
 show wpAny _ _ (if ((1 : Int) == 0) = true then _ else _) _ _ s
 rw [if_neg (by decide)]
 refine wpAny_bind (zhL pl (wpAny_bind (zhL pu (wpAny_bind (wpAny_pure ?_)))))
 show wpAny _ _ (match Builtin.Slice.sliceAdjust lo hi 1 (n : Int) with | (lo, hi) => pure (lo, (1 : Int), Builtin.Slice.slicePlaces lo hi 1)) _ _ s
 rw [zmr lo hi n]
 show wpAny _ _ (pure (((sIx n 0 lo : Nat) : Int), (1 : Int), Builtin.Slice.slicePlaces ((sIx n 0 lo : Nat) : Int) ((sIx n n hi : Nat) : Int) 1)) _ _ s
 rw [zms]
 exact wpAny_pure h
theorem zpG (xs : Array Value) (i k : Nat) : ((List.range k).filterMap fun (m : Nat) => xs[((i : Int) + (m : Int) * 1).toNat]?).toArray = ((xs.toList.drop i).take k).toArray := by
 have e : (fun (m : Nat) => xs[((i : Int) + (m : Int) * 1).toNat]?) = fun m => xs[i + m]? := by
  funext m
  have : ((i : Int) + (m : Int) * 1).toNat = i + m := by omega
  rw [this]
 rw [e]
 have := pick_run xs i k
 rw [List.filterMap_map] at this
 have e2 : ((fun x => xs[x]?) ∘ fun x => i + x) = fun m => xs[i + m]? := rfl
 rw [e2] at this
 rw [this]
theorem getItem_tuple_cut {t sl : Addr} {items : Array Value} {vl vu : Value} {lo hi : Option Int} {Q : Value -> Shared -> Prop} (ht : IsTup s.heap t items) (hs : s.heap.IsSliceOf sl vl vu .none) (pl : IsPart vl lo) (pu : IsPart vu hi)
  (hw : ¬ (sIx items.size 0 lo = 0 /\ sIx items.size items.size hi = items.size))
  (h : Q (.ref s.heap.objs.size) { s with heap := s.heap.push { cls := .type "tuple", data := .seq ((items.toList.drop (sIx items.size 0 lo)).take (sIx items.size items.size hi - sIx items.size 0 lo)).toArray } })
  (hsz : items.size <= sizeLine) : wpAny (model prog w) A (getItem (.ref t) (.ref sl)) Q E s := by
 have htake : sizeOk (.seq ((items.toList.drop (sIx items.size 0 lo)).take (sIx items.size items.size hi - sIx items.size 0 lo)).toArray) := by
  show ((items.toList.drop (sIx items.size 0 lo)).take (sIx items.size items.size hi - sIx items.size 0 lo)).toArray.size <= sizeLine
  rw [xak, xa5, xbq, xas]
  omega
 have hj : sIx items.size items.size hi <= items.size := zuk _ _ (xag _) hi
 obtain ⟨os, hos, hcs, hds⟩ := id hs
 have hTs : s.TypeIs (.ref sl) "slice" := ⟨os, hos, hcs⟩
 unfold getItem
 try with_reducible refine wpAny_holding ?_
 first | refine wpAny_bind (wpAny_pure ?_) | skip
 refine wpAny_bind (wpAny_sequenceKey ht.typeIs (by decide) ?_)
 refine wpAny_bind (wpAny_callSpecial?_slot (name := Str.ofString "__getitem__") ht.typeIs PyProof.Rows.slot_tuple_getitem
  (wpAny_call_entry PyProof.Rows.slot_tuple_getitem ht.typeIs entry_tuple_getitem ?_ (args_tuple_getitem _ _)))
 show wpAny _ _ (Builtin.Tuple.tupleItemsOf (.ref t) >>= _) _ _ s
 refine wpAny_bind (tupleItemsOf_ ht ?_)
 refine wpAny_bind (wpAny_typeOf hTs ?_)
 rw [if_pos (by decide)]
 refine wpAny_bind (zf9 hs pl pu ?_)
 have hno : ¬ ((((sIx items.size 0 lo : Nat) : Int) == 0 && (1 : Int) == 1 && (sIx items.size items.size hi - sIx items.size 0 lo) == items.size) = true) := by
  intro q
  rw [xa0, xa0] at q
  have q1 : ((sIx items.size 0 lo : Nat) : Int) = 0 := eq_of_beq q.1.1
  have q2 : sIx items.size items.size hi - sIx items.size 0 lo = items.size := eq_of_beq q.2
  exact hw ⟨by omega, by omega⟩
 show wpAny _ _ (if (((sIx items.size 0 lo : Nat) : Int) == 0 && (1 : Int) == 1 && (sIx items.size items.size hi - sIx items.size 0 lo) == items.size) = true then _ else _) _ _ s
 rw [if_neg hno, zpG]
 first
  | exact wpAny_bind (m := Builtin.Tuple.tupleExact _) (wpAny_newObj_type (wpAny_pure ⟨_, rfl, wpAny_pure h⟩) htake)
  | exact wpAny_bind (m := Builtin.Tuple.tupleExact _) (wpAny_newObj_type (wpAny_bind (wpAny_pure (wpAny_pure ⟨_, rfl, wpAny_pure h⟩))) htake)
  | exact wpAny_bind (wpAny_bind (m := Builtin.Tuple.tupleExact _) (wpAny_newObj_type (wpAny_pure (wpAny_pure ⟨_, rfl, wpAny_pure h⟩)) htake))
  | exact wpAny_bind (wpAny_bind (m := Builtin.Tuple.tupleExact _) (wpAny_newObj_type (wpAny_pure ⟨_, rfl, wpAny_pure h⟩) htake))
end
end HT
namespace L2
open PySem.Spec PyProof.Rows
abbrev TO := St -> Hp -> (Option Int -> Hp -> Prop) -> Prop
def PO (X : Cx) (e : Option Expr) (t : TO) : Prop :=
 ∀ (pins : List (Addr × Obj)) (s : Shared) (σ : St) (H : Hp) (Q : Option Int -> Hp -> Prop), Inv X pins σ H s -> t σ H Q ->
  wpAny (model X.prog X.w) X.A (evalPart e X.env) (fun u s' => ∃ o H', Inv X pins σ H' s' /\ IsPart u o /\ Q o H') X.xe s
def zsr : TO := fun _ H Q => Q none H
def zwF (t : TE) : TO := fun σ H Q => t σ H fun x H1 => ∃ i, x = .int i /\ Q (some i) H1
section
variable {X : Cx} {e : Expr} {te : TE} {lo hi : Option Expr} {tl th : TO} {pos p2 : Pos}
theorem zss : PO X none zsr := by
 intro pins s σ H Q I h
 rw [evalPart_none]
 exact wpAny_pure ⟨none, H, I, .none, h⟩
theorem zst (h : PE X e te) : PO X (some e) (zwF te) := by
 intro pins s σ H Q I hw
 rw [evalPart_some]
 refine thn (h pins s σ H _ I hw) fun u s1 ⟨x, H1, I1, r1, q1⟩ => ?_
 obtain ⟨i, rfl, q⟩ := q1
 obtain ⟨t, rfl⟩ := r1
 exact ⟨some i, H1, I1, .int i t, q⟩
def SlR (X : Cx) (r : V -> Option Int -> Option Int -> Hp -> VK -> Prop) : Prop :=
 ∀ (pins : List (Addr × Obj)) (s : Shared) (σ : St) (H : Hp) (x : V) (v vl vu : Value) (lo hi : Option Int) (sl : Addr) (Q : VK), Inv X pins σ H s -> zbg x v -> s.heap.IsSliceOf sl vl vu .none -> IsPart vl lo -> IsPart vu hi -> r x lo hi H Q ->
  ∃ T id, typeLookup (.type T) "__getitem__" = pure (some (.builtin id)) /\ s.TypeIs v T /\ wpAny (model X.prog X.w) X.A (getItem v (.ref sl)) (EP X pins σ Q) X.xe s
theorem SlR.or {r r' : V -> Option Int -> Option Int -> Hp -> VK -> Prop} (h : SlR X r) (h' : SlR X r') : SlR X (fun x lo hi H Q => r x lo hi H Q \/ r' x lo hi H Q) := by
 intro pins s σ H x v vl vu lo hi sl Q I rx hs pl pu q
 rcases q with q | q
 ·exact h pins s σ H x v vl vu lo hi sl Q I rx hs pl pu q
 ·exact h' pins s σ H x v vl vu lo hi sl Q I rx hs pl pu q
def tSl (r : V -> Option Int -> Option Int -> Hp -> VK -> Prop) (te : TE) (tl th : TO) : TE := fun σ H Q => te σ H fun x H1 => tl σ H1 fun l H2 => th σ H2 fun u H3 => r x l u H3 Q
theorem zpI {r : V -> Option Int -> Option Int -> Hp -> VK -> Prop} (hr : SlR X r) (he : PE X e te) (hl : PO X lo tl) (hu : PO X hi th) : PE X (.Subscript e (.Slice lo hi none p2) pos) (tSl r te tl th) := by
 intro pins s σ H Q I h
 refine Subscript_ (thn (he pins s σ H _ I h) fun v s1 ⟨x, H1, I1, r1, q1⟩ => ?_)
 refine wpAny_Slice (thn (hl pins s1 σ H1 _ I1 q1) fun vl s2 ⟨l, H2, I2, pl, q2⟩ => thn (hu pins s2 σ H2 _ I2 q2) fun vu s3 ⟨u, H3, I3, pu, q3⟩ => ?_)
 rw [evalPart_none]
 refine wpAny_pure ?_
 have I4 : Inv X pins σ H3 { s3 with heap := s3.heap.push { cls := .type "slice", data := .fields #[vl, vu, .none] } } := I3.kept (t' := s3.toks) fun b ob q => xaa _ q
 obtain ⟨T, id, hT, ht, hg⟩ := hr pins { s3 with heap := s3.heap.push { cls := .type "slice", data := .fields #[vl, vu, .none] } } σ H3 x v vl vu l u s3.heap.objs.size Q I4 r1 (Heap.IsSliceOf.new ..) pl pu q3
 show wpAny (model X.prog X.w) X.A (subscriptTail e (.Slice lo hi none p2) v (.ref s3.heap.objs.size)) (EP X pins σ Q) X.xe { s3 with heap := s3.heap.push { cls := .type "slice", data := .fields #[vl, vu, .none] } }
 exact tail_any (ops := [.ref s3.heap.objs.size, v]) ht hT hg (by with_unfolding_all rfl)
def zpt (xs : List V) (lo hi : Option Int) : List V := (xs.drop (HT.sIx xs.length 0 lo)).take (HT.sIx xs.length xs.length hi - HT.sIx xs.length 0 lo)
theorem zgz (xs : List V) (lo hi : Option Int) : (zpt xs lo hi).length <= xs.length := by
 unfold zpt
 rw [xa5, xbq]
 omega
def rSlT (K : xFg) : V -> Option Int -> Option Int -> Hp -> VK -> Prop := fun x lo hi H Q => ∃ a xs, x = .ref a /\ SqT K H a xs /\
 ¬ (HT.sIx xs.length 0 lo = 0 /\ HT.sIx xs.length xs.length hi = xs.length) /\ ∀ p, H p = none -> Q (.ref p) (upd H p (.tup (zpt xs lo hi)))
theorem zul : SlR X (rSlT X.K) := by
 intro pins s σ H x v vl vu lo hi sl Q I rx hs pl pu h
 obtain ⟨a, xs, rfl, hx, hw, q⟩ := h
 cases rx
 obtain ⟨its, r, ht, hz⟩ := I.tuple hx
 have hlen : its.toArray.size = xs.length := by rw [xak]; exact r.length.symm
 refine ⟨"tuple", _, PyProof.Rows.slot_tuple_getitem.lookup, ht.typeIs, ?_⟩
 refine HT.getItem_tuple_cut ht hs pl pu (by rw [hlen]; exact hw) ?_ (by rw [hlen]; exact hz)
 rw [hlen]
 refine ⟨.ref s.heap.objs.size, _, I.laid (t' := s.toks) (o := .tup (zpt xs lo hi)) (fun b ob q => xaa _ q) (xag _) ?_, rfl, q _ (I.hok.fresh (xag _))⟩
 exact ⟨xa3 (zgz xs lo hi) hz, _, (r.drop (HT.sIx xs.length 0 lo)).take (HT.sIx xs.length xs.length hi - HT.sIx xs.length 0 lo), IsTup.new _ _⟩
def zum (K : xFg) : R2 := fun x y H Q => ∃ a b xs ys, x = .ref a /\ y = .ref b /\ SqT K H a xs /\ SqT K H b ys /\ xs ≠ [] /\ xs.length + ys.length <= sizeLine /\
 (ys = [] -> Q (.ref a) H) /\ (ys ≠ [] -> ∀ p, H p = none -> Q (.ref p) (upd H p (.tup (xs ++ ys))))
theorem zbi.nil_iff {xs : List V} {us : List Value} (r : zbi xs us) : us = [] ↔ xs = [] := by
 cases r with
 | nil => simp
 | cons _ _ => simp
theorem zsu : OpR X (binaryOp .Add) (zum X.K) := by
 intro pins s σ H x y v u Q I rx ry h
 obtain ⟨a, b, xs, ys, rfl, rfl, ha, hb, hx, hz, q1, q2⟩ := h
 cases rx
 cases ry
 obtain ⟨its, r1, p1, _⟩ := I.tuple ha
 obtain ⟨its2, r2, p2, _⟩ := I.tuple hb
 refine HT.cat_tup p1 p2 (fun z => hx (r1.nil_iff.mp z)) (fun z => ⟨.ref a, H, I, rfl, q1 (r2.nil_iff.mp z)⟩) (fun z => ?_) (by rw [<- r1.length, <- r2.length]; exact hz)
 refine ⟨.ref s.heap.objs.size, _, I.laid (t' := s.toks) (o := .tup (xs ++ ys)) (fun b ob q => xaa _ q) (xag _) ?_, rfl, q2 (fun w => z (r2.nil_iff.mpr w)) _ (I.hok.fresh (xag _))⟩
 exact ⟨by rw [xbr]; exact hz, _, r1.append r2, IsTup.new _ _⟩
end
end L2
namespace L2
open PySem.Spec PyProof.Rows
def ixN (n : Nat) (i : Int) : Option Nat := if 0 <= i then (if i < n then some i.toNat else none) else if -(n : Int) <= i then some (i + n).toNat else none
def atI {α : Type} (xs : List α) (i : Int) : Option α := (ixN xs.length i).bind fun j => xs[j]?
theorem zsv {n : Nat} {i : Int} {j : Nat} (h : ixN n i = some j) : seqIndex? i n = some j /\ j < n /\ -(n : Int) <= i /\ i < n := by
 unfold ixN at h
 by_cases h0 : 0 <= i
 ·rw [if_pos h0] at h
  by_cases h1 : i < n
  ·rw [if_pos h1] at h
   have e : i.toNat = j := Option.some.inj h
   exact ⟨by rw [seqIndex_of h0 h1, e], by omega, by omega, h1⟩
  ·rw [if_neg h1] at h; cases h
 ·rw [if_neg h0] at h
  by_cases h1 : -(n : Int) <= i
  ·rw [if_pos h1] at h
   have e : (i + n).toNat = j := Option.some.inj h
   exact ⟨by rw [seqIndex_neg (by omega) h1, e], by omega, h1, by omega⟩
  ·rw [if_neg h1] at h; cases h
theorem znm {α : Type} {xs : List α} {i : Int} {v : α} (h : atI xs i = some v) : ∃ j, seqIndex? i xs.length = some j /\ xs[j]? = some v /\ j < xs.length /\ -(xs.length : Int) <= i /\ i < xs.length := by
 unfold atI at h
 cases e : ixN xs.length i with
 | none => rw [e] at h; cases h
 | some j =>
  rw [e] at h
  obtain ⟨h1, h2, h3, h4⟩ := zsv e
  exact ⟨j, h1, h, h2, h3, h4⟩
theorem zsw {α : Type} {xs : List α} {j : Nat} {v : α} (h : xs[j]? = some v) : atI xs (j : Int) = some v := by
 have hj : j < xs.length := (xah.mp h).1
 have e : ixN xs.length (j : Int) = some j := by
  unfold ixN
  rw [if_pos (by omega), if_pos (by omega)]; simp
 unfold atI; rw [e]; exact h
theorem zpJ {α : Type} (xs : List α) (v : α) : atI (xs ++ [v]) (-1) = some v := by
 have hl : (xs ++ [v]).length = xs.length + 1 := by simp
 have e : ixN (xs ++ [v]).length (-1) = some xs.length := by
  unfold ixN
  rw [hl, if_neg (by decide), if_pos (by omega)]
  congr 1
  omega
 unfold atI
 rw [e]
 show (xs ++ [v])[xs.length]? = some v
 simp
def znn (b : Expr) : Prop := ∀ o i, subscripted b false o i = operate [o, i] (getItem o i)
def IxR (X : Cx) (r : R2) : Prop :=
 ∀ (value slice : Expr) (pins : List (Addr × Obj)) (s : Shared) (σ : St) (H : Hp) (x y : V) (v u : Value) (Q : VK), Inv X pins σ H s -> zbg x v -> zbg y u -> r x y H Q ->
  subscripted slice false v u = operate [v, u] (getItem v u) -> wpAny (model X.prog X.w) X.A (subscriptTail value slice v u) (EP X pins σ Q) X.xe s
def MtR (X : Cx) (id : String) (r : V -> List V -> Hp -> VK -> Prop) : Prop :=
 ∀ (pins : List (Addr × Obj)) (s : Shared) (σ : St) (H : Hp) (x : V) (xs : List V) (v : Value) (us : List Value) (Q : VK), Inv X pins σ H s -> zbg x v -> zbi xs us -> r x xs H Q ->
  wpAny (model X.prog X.w) X.A (call (.builtin id) (v :: us)) (EP X pins σ Q) X.xe s
section
variable {X : Cx} {a b : Expr} {ta tb : TE} {pos : Pos}
theorem IxR.or {r r' : R2} (h : IxR X r) (h' : IxR X r') : IxR X (fun x y H Q => r x y H Q \/ r' x y H Q) := by
 intro value slice pins s σ H x y v u Q I rx ry q hs
 rcases q with q | q
 ·exact h value slice pins s σ H x y v u Q I rx ry q hs
 ·exact h' value slice pins s σ H x y v u Q I rx ry q hs
theorem zwG {r : R2} (hr : IxR X r) (ha : PE X a ta) (hb : PE X b tb) (hs : znn b) : PE X (.Subscript a b pos) (tOp r ta tb) := by
 intro pins s σ H Q I h
 exact Subscript_ (zww ha hb I h fun v u s2 x y H2 I2 rx ry q => hr a b pins s2 σ H2 x y v u Q I2 rx ry q (hs _ _))
def rIxL (K : xFg) : R2 := fun x y H Q => ∃ p xs i v, x = .ref p /\ y = .int i /\ SqL K H p xs /\ atI xs i = some v /\ Q v H
def rIxT (K : xFg) : R2 := fun x y H Q => ∃ p xs i v, x = .ref p /\ y = .int i /\ SqT K H p xs /\ atI xs i = some v /\ Q v H
theorem zsx : IxR X (rIxL X.K) := by
 intro value slice pins s σ H x y v u Q I rx ry h hs
 obtain ⟨p, xs, i, z, rfl, rfl, hq, he, q⟩ := h
 cases rx
 obtain ⟨t, rfl⟩ := ry
 obtain ⟨its, r, pl, hz⟩ := I.list hq
 obtain ⟨j, h1, h2, h3, h4, h5⟩ := znm he
 obtain ⟨w, ew, rw'⟩ := r.get h2
 have hl := r.length
 have hn := zkT
 have fin : EP X pins σ Q w s := ⟨z, H, I, rw', q⟩
 by_cases h0 : 0 <= i
 ·have hj : i.toNat = j := by
   rw [seqIndex_of h0 h5] at h1
   exact Option.some.inj h1
  exact item_listR pl.isList h0 (by omega) (by rw [hj]; simpa using ew) fin hs
 ·have hj : (i + (its.toArray.size : Int)).toNat = j := by
   rw [seqIndex_neg (by omega) h4] at h1
   rw [xak, <- hl]
   exact Option.some.inj h1
  exact subscriptTail_builtinR (x := w) pl.isList.typeIs slot_list_getitem.lookup
   (wpAny_getItem_list_neg (Q := fun r s' => r = w /\ EP X pins σ Q r s') pl.isList (by omega) (by rw [xak] <;> omega) (by omega) (by rw [hj]; simpa using ew) ⟨rfl, fin⟩) hs
theorem zun : IxR X (rIxT X.K) := by
 intro value slice pins s σ H x y v u Q I rx ry h hs
 obtain ⟨p, xs, i, z, rfl, rfl, hq, he, q⟩ := h
 cases rx
 obtain ⟨t, rfl⟩ := ry
 obtain ⟨its, r, pl, hz⟩ := I.tuple hq
 obtain ⟨j, h1, h2, h3, h4, h5⟩ := znm he
 obtain ⟨w, ew, rw'⟩ := r.get h2
 have hl := r.length
 have hn := zkT
 have fin : EP X pins σ Q w s := ⟨z, H, I, rw', q⟩
 exact subscriptTail_builtinR (x := w) pl.typeIs slot_tuple_getitem.lookup
  (getItem_tuple (j := j) (Q := fun r s' => r = w /\ EP X pins σ Q r s') pl (by omega) (by omega) (by rw [xak, <- hl]; exact h1) (by simpa using ew) ⟨rfl, fin⟩) hs
theorem ziY (lo hi : Option Int) (n : Nat) : (sliceBounds lo hi none n).1 = ((HT.sIx n 0 lo : Nat) : Int) /\ (sliceBounds lo hi none n).2.1 = ((HT.sIx n n hi : Nat) : Int) /\ (sliceBounds lo hi none n).2.2 = 1 := by
 refine ⟨?_, ?_, rfl⟩
 ·cases lo with
  | none => simp [sliceBounds, HT.sIx]
  | some i =>
   simp only [sliceBounds, HT.sIx, Option.getD_none, show (1 : Int) > 0 by decide, if_true]
   by_cases h : i < 0
   ·simp only [h, if_true] <;> omega
   ·simp only [h, if_false] <;> omega
 ·cases hi with
  | none => simp [sliceBounds, HT.sIx]
  | some i =>
   simp only [sliceBounds, HT.sIx, Option.getD_none, show (1 : Int) > 0 by decide, if_true]
   by_cases h : i < 0
   ·simp only [h, if_true] <;> omega
   ·simp only [h, if_false] <;> omega
theorem zij (its : List Value) (lo hi : Option Int) : slicePick its.toArray lo hi none = ((its.drop (HT.sIx its.length 0 lo)).take (HT.sIx its.length its.length hi - HT.sIx its.length 0 lo)).toArray := by
 obtain ⟨h1, h2, h3⟩ := ziY lo hi its.toArray.size
 unfold slicePick
 rw [h1, h2, h3]
 simp only [sliceRange_one, pick_run, xak] <;> rfl
def rSlL (K : xFg) : V -> Option Int -> Option Int -> Hp -> VK -> Prop := fun x lo hi H Q => ∃ a xs, x = .ref a /\ SqL K H a xs /\ ∀ p, H p = none -> Q (.ref p) (upd H p (.lst (zpt xs lo hi)))
theorem zsy : SlR X (rSlL X.K) := by
 intro pins s σ H x v vl vu lo hi sl Q I rx hs pl pu h
 obtain ⟨a, xs, rfl, hx, q⟩ := h
 cases rx
 obtain ⟨its, r, ht, hz⟩ := I.list hx
 have hlen := r.length
 refine ⟨"list", _, slot_list_getitem.lookup, ht.isList.typeIs, ?_⟩
 refine wpAny_getItem_list_slice ht.isList hs pl pu .none (by simp) ?_ (by rw [xak] <;> omega)
 rw [zij, <- hlen]
 refine ⟨.ref s.heap.objs.size, _, I.laid (t' := s.toks) (o := .lst (zpt xs lo hi)) (fun b ob q => xaa _ q) (xag _) ?_, rfl, q _ (I.hok.fresh (xag _))⟩
 exact ⟨xa3 (zgz xs lo hi) hz, _, 0, (r.drop (HT.sIx xs.length 0 lo)).take (HT.sIx xs.length xs.length hi - HT.sIx xs.length 0 lo), xav _ rfl⟩
def zkk : V -> Bool
 | .non => true
 | .bl _ => true
 | .int _ => true
 | .str _ => true
 | _ => false
def eqV : V -> V -> Bool
 | .non, .non => true
 | .bl a, .bl b => a == b
 | .bl a, .int b => (if a then 1 else 0) == b
 | .int a, .bl b => a == (if b then 1 else 0)
 | .int a, .int b => a == b
 | .str a, .str b => a == b
 | _, _ => false
theorem zuo {A : Around} {s : Shared} {y x : V} {u v : Value} (ry : zbg y u) (rx : zbg x v) (fy : zkk y = true) (fx : zkk x = true) : SeqAt.EqAt A s u v (eqV y x) := by
 cases y with
 | non =>
  cases ry
  cases x with
  | non => cases rx; exact SeqAt.EqAt.same _
  | bl b => cases rx; exact SeqAt.EqAt.none_bool b
  | int b => obtain ⟨t, rfl⟩ := rx; exact SeqAt.EqAt.none_int b t
  | str b => obtain ⟨t, rfl⟩ := rx; exact SeqAt.EqAt.none_str b t
  | _ => exact absurd (show false = true from fx) xau
 | bl a =>
  cases ry
  cases x with
  | non => cases rx; exact SeqAt.EqAt.bool_none a
  | bl b => cases rx; exact SeqAt.EqAt.bool_bool a b
  | int b => obtain ⟨t, rfl⟩ := rx; exact SeqAt.EqAt.bool_int a b t
  | str b => obtain ⟨t, rfl⟩ := rx; exact SeqAt.EqAt.bool_str a b t
  | _ => exact absurd (show false = true from fx) xau
 | int a =>
  obtain ⟨t', rfl⟩ := ry
  cases x with
  | non => cases rx; exact SeqAt.EqAt.int_none a t'
  | bl b => cases rx; exact SeqAt.EqAt.int_bool a t' b
  | int b => obtain ⟨t, rfl⟩ := rx; exact SeqAt.EqAt.int_int a t' b t
  | str b => obtain ⟨t, rfl⟩ := rx; exact SeqAt.EqAt.int_str a t' b t
  | _ => exact absurd (show false = true from fx) xau
 | str a =>
  obtain ⟨t', rfl⟩ := ry
  cases x with
  | non => cases rx; exact SeqAt.EqAt.str_none a t'
  | bl b => cases rx; exact SeqAt.EqAt.str_bool a t' b
  | int b => obtain ⟨t, rfl⟩ := rx; exact SeqAt.EqAt.str_int a t' b t
  | str b => obtain ⟨t, rfl⟩ := rx; exact SeqAt.EqAt.str_str a t' b t
  | _ => exact absurd (show false = true from fx) xau
 | _ => exact absurd (show false = true from fy) xau
theorem ziZ : OpR X (compareOp .NotIn) (fun x y H Q => ∃ i j, x = .str i /\ y = .str j /\ Q (.bl (!(!(Builtin.Str.occurrences j i 0 j.length 1).isEmpty))) H) := by
 intro pins s σ H x y v u Q I rx ry h
 obtain ⟨i, j, rfl, rfl, q⟩ := h
 obtain ⟨t, rfl⟩ := rx
 obtain ⟨t', rfl⟩ := ry
 exact notIn_str ⟨.bl _, H, I, rfl, q⟩
theorem zi0 : zcK X (.builtin "len") (fun xs H Q => ∃ p ys, xs = [.ref p] /\ (SqL X.K H p ys \/ SqT X.K H p ys) /\ Q (.int ys.length) H) := by
 intro pins s σ H xs us Q I r h
 obtain ⟨p, ys, rfl, hq, q⟩ := h
 obtain ⟨u, rfl, rx⟩ := ziS r
 cases rx
 have hn := zkT
 rcases hq with hq | hq
 ·obtain ⟨its, r', pl, hz⟩ := I.list hq
  have hlen := r'.length
  exact Calls.call_len_list pl.isList (by simp only [xak] <;> omega) ⟨.int ys.length, H, I.tok _, ⟨s.toks + 1, by rw [xak, hlen]⟩, q⟩
 ·obtain ⟨its, r', pl, hz⟩ := I.tuple hq
  have hlen := r'.length
  exact len_tuple pl (by simp only [xak] <;> omega) ⟨.int ys.length, H, I.tok _, ⟨s.toks + 1, by rw [xak, hlen]⟩, q⟩
theorem zi3 : zcK X (.builtin "len") (fun xs H Q => ∃ z, xs = [.str z] /\ z.length <= sizeLine /\ Q (.int z.length) H) := by
 intro pins s σ H xs us Q I r h
 obtain ⟨z, rfl, hz, q⟩ := h
 obtain ⟨u, rfl, t, rfl⟩ := ziS r
 have hn := zkT
 exact len_str (by omega) ⟨.int z.length, H, I.tok _, ⟨_, rfl⟩, q⟩
theorem zcK.or {f : Value} {r r' : List V -> Hp -> VK -> Prop} (h : zcK X f r) (h' : zcK X f r') : zcK X f (fun xs H Q => r xs H Q \/ r' xs H Q) := by
 intro pins s σ H xs us Q I rs q
 rcases q with q | q
 ·exact h pins s σ H xs us Q I rs q
 ·exact h' pins s σ H xs us Q I rs q
theorem zi4 : zcK X (.type "list") (fun xs H Q => ∃ p ys, xs = [.ref p] /\ (SqL X.K H p ys \/ SqT X.K H p ys) /\ ∀ l, H l = none -> Q (.ref l) (upd H l (.lst ys))) := by
 intro pins s σ H xs us Q I r h
 obtain ⟨p, ys, rfl, hq, q⟩ := h
 obtain ⟨u, rfl, rx⟩ := ziS r
 cases rx
 have fin : ∀ (its : List Value), zbi ys its -> ys.length <= sizeLine -> ∀ (h' : Heap) (c' : Nat), (∀ b o', s.heap.get? b = some o' -> h'.get? b = some o') ->
   h'.get? s.heap.objs.size = some { cls := .type "list", dict := none, data := .seq its.toArray c', slots := #[] } -> EP X pins σ Q (.ref s.heap.objs.size) { s with heap := h' } := fun its r' hz h' c' kp e =>
  ⟨.ref s.heap.objs.size, _, I.laid (t' := s.toks) kp (xag _) (show zcr X.prog X.w _ h' _ (.lst ys) from ⟨hz, its, c', r', e⟩), rfl, q _ (I.hok.fresh (xag _))⟩
 rcases hq with hq | hq
 ·obtain ⟨its, r', pl, hz⟩ := I.list hq
  have hlen := r'.length
  obtain ⟨o, ho, hc, n, hd⟩ := pl.isList
  exact call_list_seq p (.inl rfl) ho hc hd (fun h' c' kp e => fin its r' hz h' c' kp e) (by simp only [xak] <;> omega)
 ·obtain ⟨its, r', pl, hz⟩ := I.tuple hq
  have hlen := r'.length
  obtain ⟨o, ho, hc, n, hd⟩ := pl
  exact call_list_seq p (.inr rfl) ho hc hd (fun h' c' kp e => fin its r' hz h' c' kp e) (by simp only [xak] <;> omega)
theorem zik : zcK X (.type "tuple") (fun xs H Q => ∃ p ys, xs = [.ref p] /\ ((SqL X.K H p ys /\ ∀ l, H l = none -> Q (.ref l) (upd H l (.tup ys))) \/ (SqT X.K H p ys /\ Q (.ref p) H))) := by
 intro pins s σ H xs us Q I r h
 obtain ⟨p, ys, rfl, h⟩ := h
 obtain ⟨u, rfl, rx⟩ := ziS r
 cases rx
 rcases h with ⟨hq, q⟩ | ⟨hq, q⟩
 ·obtain ⟨its, r', pl, hz⟩ := I.list hq
  have hlen := r'.length
  refine call_tuple_list pl.isList (fun h' kp => ?_) (by simp only [xak] <;> omega)
  have I1 : Inv X pins σ H { s with heap := h' } := I.kept (t' := s.toks) kp
  have I2 : Inv X pins σ (upd H h'.objs.size (.tup ys)) { s with heap := h'.push { cls := .type "tuple", data := .seq its.toArray } } :=
   I1.laid (t' := s.toks) (fun b o e => xaa _ e) (xag _) (show zcr X.prog X.w _ _ _ (.tup ys) from ⟨hz, its, r', IsTup.new _ _⟩)
  exact ⟨.ref h'.objs.size, _, I2, rfl, q _ (I1.hok.fresh (xag _))⟩
 ·obtain ⟨its, r', pl, hz⟩ := I.tuple hq
  exact call_tuple_same pl ⟨.ref p, H, I, rfl, q⟩
def tyV (K : xFg) (T : String) (x : V) (H : Hp) : Prop := match x with
 | .str _ => T = "str"
 | .int _ => T = "int"
 | .ref p => (T = "list" /\ ∃ xs, SqL K H p xs) \/ (T = "tuple" /\ ∃ o, K.lookup p = some o /\ o.cls = .type "tuple" /\ o.dict = none) \/
   (T = "dict" /\ ((∃ kvs, H p = some (.dK kvs)) \/ ∃ kvs, H p = some (.dT kvs))) \/ (T = "set" /\ ∃ S n, H p = some (.set S n))
 | _ => False
theorem zup {pins : List (Addr × Obj)} {σ : St} {H : Hp} {s : Shared} {T : String} {x : V} {v : Value} (I : Inv X pins σ H s) (r : zbg x v) (ty : tyV X.K T x H) :
  s.TypeIs v T /\ ∀ a, v = .ref a -> ∃ ob, s.heap.get? a = some ob /\ ob.dict = none := by
 cases x with
 | str z =>
  obtain ⟨t, rfl⟩ := r
  cases (show T = "str" from ty)
  exact ⟨typeIs_str s z t, fun _ e => nomatch e⟩
 | int i =>
  obtain ⟨t, rfl⟩ := r
  cases (show T = "int" from ty)
  exact ⟨typeIs_int s i t, fun _ e => nomatch e⟩
 | ref p =>
  cases r
  rcases ty with ⟨rfl, xs, hq⟩ | ⟨rfl, o, hk, hc, hd⟩ | ⟨rfl, hk⟩ | ⟨rfl, S, n, hk⟩
  ·obtain ⟨its, _, pl, _⟩ := I.list hq
   refine ⟨pl.isList.typeIs, fun a e => ?_⟩
   cases e
   obtain ⟨o, n, e, c, hd, _⟩ := pl
   exact ⟨o, e, hd⟩
  ·refine ⟨⟨o, I.kIn p o hk, hc⟩, fun a e => ?_⟩
   cases e
   exact ⟨o, I.kIn _ o hk, hd⟩
  ·have z : ∃ o, s.heap.get? p = some o /\ o.ExactDict := by
    rcases hk with ⟨kvs, hk⟩ | ⟨kvs, hk⟩
    ·obtain ⟨_, _, _, _, o, _, _, e, ex, _⟩ := I.hok p _ hk
     exact ⟨o, e, ex⟩
    ·obtain ⟨_, _, _, _, o, _, _, e, ex, _⟩ := I.hok p _ hk
     exact ⟨o, e, ex⟩
   obtain ⟨o, e, ex⟩ := z
   refine ⟨⟨o, e, ex.1⟩, fun a e2 => ?_⟩
   cases e2
   exact ⟨o, e, ex.2.1⟩
  ·obtain ⟨o, _, _, _, e, ex, _⟩ := I.hok p _ hk
   refine ⟨⟨o, e, ex.1⟩, fun a e2 => ?_⟩
   cases e2
   exact ⟨o, e, ex.2.1⟩
 | _ => exact False.elim ty
def tBM (K : xFg) (T : String) (r : V -> List V -> Hp -> VK -> Prop) (to : TE) (t : TA) : TE := fun σ H Q => to σ H fun x H1 => tyV K T x H1 /\ t σ H1 fun xs H2 => r x xs H2 Q
variable {o e : Expr} {es : List Expr} {to : TE} {t : TA} {name : Str} {apos cpos : Pos} {T id : String} {r : V -> List V -> Hp -> VK -> Prop}
theorem zwH (pa : PlainAttrs T) (slot : Slot T name id) (hty : typeOf (.builtin id) = pure (.type "method_descriptor")) (hm : MtR X id r) (ho : PE X o to) (ha : PA X (e :: es) t)
  (hbase : attributeBase o name X.env (eval o X.env) = eval o X.env := by rfl)
  (hfew : ((backTo cpos (starEach (e :: es) X.env)).all (fun x => !x.1) && (backToKw cpos (keywordEach [] X.env)).all (fun x => x.1.isSome)
   && decide ((e :: es).length + ([] : List Keyword).length + (if ([] : List Keyword).isEmpty then 0 else 1) < 30)) = true := by rfl)
  (hline : (apos.endLine == cpos.line) = true := by rfl) (hs : starEach (e :: es) X.env = (false, eval e X.env) :: starEach es X.env := by rfl) (hplain : (backTo cpos (starEach es X.env)).any (·.1) = false := by rfl) :
  PE X (.Call (.Attribute o name apos) (e :: es) [] cpos) (tBM X.K T r to t) := by
 intro pins s σ H Q I h
 refine wpAny_Call_method_late hbase hfew hline rfl (thn (ho pins s σ H _ I h) fun v s1 ⟨x, H1, I1, r1, ty, q1⟩ => ?_)
 obtain ⟨h1, h2⟩ := zup I1 r1 ty
 refine ⟨T, id, pa, slot, hty, h1, h2, ?_⟩
 have hA := ha cpos pins s1 σ H1 _ I1 q1
 rw [hs] at hA ⊢
 refine Calls.callWith_builtin (by show (false || (backTo cpos (starEach es X.env)).any (·.1)) = false; rw [hplain] <;> rfl) (Calls.evalArgs_plain ?_)
 exact thn hA fun us s2 ⟨vs, H2, I2, r2, q2⟩ => hm pins s2 σ H2 x vs v us Q I2 r1 r2 q2
end
end L2
namespace L2
open PySem.Spec PyProof.Rows
def MtM (X : Cx) (id : String) (r : V -> List V -> Hp -> VK -> Prop) : Prop :=
 ∀ (pins : List (Addr × Obj)) (s : Shared) (σ : St) (H : Hp) (x : V) (xs : List V) (v : Value) (us : List Value) (Q : VK), Inv X pins σ H s -> zbg x v -> zbi xs us -> r x xs H Q ->
  wpAny (model X.prog X.w) X.A (call (.builtin id) (v :: us)) (EP X pins σ Q) X.xe s
theorem zbi.one : ∀ {x : V} {us : List Value}, zbi [x] us -> ∃ u, us = [u] /\ zbg x u
 | _, _, .cons r .nil => ⟨_, rfl, r⟩
section
variable {X : Cx} {pins : List (Addr × Obj)} {σ : St} {H : Hp} {s : Shared} {l b : Addr} {xs ys zs : List V}
theorem Inv.lset {its its' : List Value} {n : Nat} {f : Array Value -> Array Value} {t' : Nat} (I : Inv X pins σ H s) (hH : H l = some (.lst xs))
  (e : s.heap.get? l = some { cls := .type "list", data := .seq its.toArray n }) (hf : f its.toArray = its'.toArray) (hv : zbi ys its') (hz : ys.length <= sizeLine) :
  Inv X pins σ (upd H l (.lst ys)) { s with heap := s.heap.update l (Obj.mapSeq f), toks := t' } := by
 have q := PySem.IsL.update e f
 rw [hf] at q
 refine I.write (x := l) (e := l) (by rw [hH]; exact trivial) (.inl rfl) (fun b' u hb hu => (xbj s.heap (Obj.mapSeq f) (xay hb)).trans hu) ⟨_, q⟩ ?_
 exact ⟨hz, its', _, hv, q⟩
theorem Inv.lnew {its : List Value} {t' : Nat} (I : Inv X pins σ H s) (hv : zbi ys its) (hz : ys.length <= sizeLine) :
  Inv X pins σ (upd H s.heap.objs.size (.lst ys)) { s with heap := s.heap.push { cls := .type "list", data := .seq its.toArray }, toks := t' } :=
 I.laid (fun _ _ q => xaa _ q) (xag _) ⟨hz, its, 0, hv, xav _ rfl⟩
theorem Inv.fresh (I : Inv X pins σ H s) : H s.heap.objs.size = none := I.hok.fresh (xag _)
theorem Inv.lstM (I : Inv X pins σ H s) (hH : H l = some (.lst xs)) : xs.length <= sizeLine /\ ∃ (its : List Value) (n : Nat), zbi xs its /\ xs.length = its.length /\ s.heap.get? l = some { cls := .type "list", data := .seq its.toArray n } := by
 obtain ⟨z, its, n, r, e⟩ := I.hok l _ hH
 exact ⟨z, its, n, r, r.length, e⟩
end
section
variable {X : Cx}
def zsz : V -> List V -> Hp -> VK -> Prop := fun x vs H Q => ∃ l xs y, x = .ref l /\ vs = [y] /\ H l = some (.lst xs) /\ xs.length < sizeLine /\ Q .non (upd H l (.lst (xs ++ [y])))
theorem zno : MtM X "list.append" zsz := by
 intro pins s σ H x vs v us Q I rx rv h
 obtain ⟨l, xs, y, rfl, rfl, hH, hz, q⟩ := h
 cases rx
 obtain ⟨u, rfl, ru⟩ := rv.one
 obtain ⟨z, its, n, r, hl, e⟩ := I.lstM hH
 refine call_meets F.slot_list_append ⟨_, e, rfl⟩ F.entry_list_append (F.args_list_append_2 _ _) (PySem.list_append l its.toArray n u (by rw [xak]; omega)) ⟨e, ?_⟩
 refine ⟨.non, _, I.lset (its' := its ++ [u]) hH e (by simp) (r.append (.cons ru .nil)) ?_, rfl, q⟩
 rw [xbr, List.length_singleton]
 omega
end
end L2
namespace Att
open PySem.W PySem.Calls PyProof.Rows
theorem zgA {P : Params} {h : Heap} : ∀ (ns : List Int) (vs : List Value), WellAll P h vs (ns.map WData.int) -> IntsAre vs ns := by
 intro ns
 induction ns with
 | nil =>
  intro vs w
  rw [List.map_nil] at w
  cases w
  exact .nil
 | cons n ns ih =>
  intro vs w
  rw [xaz] at w
  cases w with
  | cons a b =>
   cases a
   exact .cons _ _ (ih _ b)
theorem znp {l : OpenLaw} {n : Nat} (hn : l.most = some n) {P : Params} {h : Heap} {args : List WData} {vals : List Value}
  (hpre : l.row.toRowW.claim.pre args = true) (hwl : WellAll P h vals args) :
  ∃ a vs ns, vals = [Value.ref a] /\ args = [WData.list (ns.map WData.int)] /\ h.get? a = some { cls := .type "list", data := .seq vs.toArray } /\ IntsAre vs ns /\ ns.length <= n := by
 have hsh : WShape.hasAll [] args [.list .int] = true := (pre_splitW hpre).1
 have hc : l.pre.holds [] { args := args } = true := (pre_splitW hpre).2
 obtain ⟨d, r, rfl, h1, h2⟩ := hasAllW_cons hsh
 obtain rfl := hasAllW_nil h2
 obtain ⟨xs, rfl, h3⟩ := hasW_list h1
 obtain ⟨ns, rfl⟩ := items_int h3
 have hlen : ns.length <= n := by
  unfold OpenLaw.pre at hc
  have h4 : (WTm.not (.lt (.lit (.int (n : Int))) (.len (.arg 0)))).holds [] { args := [.list (ns.map .int)] } = true := by
   have h4 := (holds_andW hc).1
   rw [hn] at h4
   exact h4
  have h5 := condW_of h4 (w_not (w_lt w_lit (w_len_list (w_arg rfl))))
  rw [xad] at h5
  refine Nat.le_of_not_lt fun q => ?_
  have q' : (n : Int) < ((ns.length : Nat) : Int) := by omega
  first
   | (rw [decide_eq_true q'] at h5; exact absurd h5 (by decide))
   | (simp at h5; omega)
 cases hwl with
 | cons w1 w2 =>
  cases w2
  cases w1 with
  | list ho hall => exact ⟨_, _, ns, rfl, rfl, ho, zgA ns _ hall, hlen⟩
theorem znq (l : OpenLaw) (args : List WData) : l.row.toRowW.claim.post args (.bool true) args = true :=
 postW_of (r := l.row.toRowW) (X := (true == true))
  (show WShape.has [] (.bool true) .bool = true by first | rfl | decide | simp [WShape.has, WShape.arms, WShape.armsAll])
  (show (WTm.eq .res (.lit (.bool true))).value [] { args := args, res := some (.bool true), after := args } = some (.bool (true == true)) from w_eq_bool (w_res rfl) w_lit) rfl
theorem attach_call {l : OpenLaw} {n : Nat} {q : Program} {loose : List Str} {XP : (Str -> Option Value) -> Heap -> Prop} {YP : World -> Heap -> Prop} {d : DefRec}
  (hn : l.most = some n) (hdf : d.params.defaults = [])
  (call : ∀ (w : World) (s₀ s₁ : Shared) (mg mb : Str -> Option Value) (fa : Addr) (o : Obj) (pm cd doc : Value) (a : Addr) (vs : List Value) (ns : List Int),
   Ground q loose [] XP w s₀ mg mb s₁.heap -> YP w s₁.heap ->
   s₁.heap.get? fa = some o -> o.data = .func (docDef d.name d.params d.body d.scope pm cd doc) -> s₁.heap.CodeRec cd d.name -> mg d.name = some (.ref fa) ->
   s₁.heap.get? a = some { cls := .type "list", data := .seq vs.toArray } -> IntsAre vs ns -> ns.length <= n -> s₁.gens = #[] ->
   codeAny (model l.prog w) callerA (.call (.ref fa) ⟨[.ref a], []⟩) (fun r s' => r = .ok (.ret (.bool true)) /\ OldK s₁.heap s'.heap /\ s'.os = s₁.os /\ AllBare s'.gens) s₁) :
  WalkO q loose XP YP l.row.toRowW d [] (fun f vs => PySem.call f vs) := by
 intro w s₀ s₁ mg mb G Y fa o pm cd doc dV kV ho hd hcd hD hmg hg args vals as hpre hlay hrd hwl hlo
 obtain rfl : dV = .none := Dflts.none hD hdf
 obtain rfl : kV = .none := Dflts.noKw hD
 obtain ⟨a, vs, ns, rfl, rfl, hobj, hints, hlen⟩ := znp hn hpre hwl
 refine enter_call (codeAny_mono (call w s₀ s₁ mg mb fa o pm cd doc a vs ns G Y ho (fd_plain hd) hcd hmg hobj hints hlen hg) fun r s' hq => ?_)
 obtain ⟨rfl, h2, h3, h4⟩ := hq
 exact ⟨.inl ⟨.bool true, .bool true, [], rfl, fun _ => rfl, .bool true, znq l _, fun _ => ⟨List.Pairwise.nil, fun _ hm => (nomatch hm)⟩⟩, h2, h3, h4⟩
end Att
namespace L2
open PySem.Spec PyProof.Rows
theorem zi5 : ∀ {vs : List Value} {ns : List Int}, IntsAre vs ns -> zbi (ns.map V.int) vs
 | _, _, .nil => .nil
 | _, _, .cons n t h => .cons ⟨t, rfl⟩ (zi5 h)
def zwI (H : Hp) : Prop := ∀ b, H b = none \/ ∃ o xs, H b = some (.frz o (.lst xs))
theorem zpK {P : Program} {w : World} {K : xFg} {mg mb : Str -> Option Value} {CX : CXT} {k : Nat} {fa a : Addr} {fd : FuncData} {x : Str} {sp : Sp} {s₁ : Shared} {vs : List Value} {ns : List Int}
  (KX : K.In s₁.heap) (hns : s₁.heap.Ns mainGlobals mg) (hb : s₁.heap.Ns builtinsNs mb) (hbb : ∀ x : Str, x ≠ "__name__" -> mb x = bootBuiltins x) (hlim : s₁.heap.NoLimit) (hg : s₁.gens = #[])
  (ha : s₁.heap.get? a = some { cls := .type "list", data := .seq vs.toArray }) (hi : IntsAre vs ns) (hl : ns.length <= sizeLine) (hr : zeD k callerA)
  (F : ∀ base : Heap, K.In base -> base.Ns mainGlobals mg -> zgj P w K mg base CX k fa fd [x] sp) (hbind : ∀ (s : Shared) (u : Value), BindsTo s fd ⟨[u], []⟩ [(x, u)])
  (hsp : ∀ H : Hp, zwI H -> SqL K H a (ns.map V.int) -> sp [.ref a] H (fun v _ => v = .bl true) fun _ _ _ => False)
  (hCX : ∀ H e s', CX [] H s₁ (fun _ _ _ => False) e s' -> False) :
  codeAny (model P w) callerA (.call (.ref fa) ⟨[.ref a], []⟩) (fun r s' => r = .ok (.ret (.bool true)) /\ OldK s₁.heap s'.heap /\ s'.os = s₁.os /\ AllBare s'.gens) s₁ := by
 have rv := zi5 hi
 have lenV := hi.length
 have core : ∀ H : Hp, zwI H -> SqL K H a (ns.map V.int) -> HOk P w H s₁.heap -> (∀ b, H b ≠ none -> b = a) -> (H a ≠ none -> K.lookup a = none) ->
   codeAny (model P w) callerA (.call (.ref fa) ⟨[.ref a], []⟩) (fun r s' => r = .ok (.ret (.bool true)) /\ OldK s₁.heap s'.heap /\ s'.os = s₁.os /\ AllBare s'.gens) s₁ := by
  intro H hO hS hok hA hK
  have base_of : ∀ {b : Addr} {o : Obj}, s₁.heap.get? b = some o -> H b = none -> (zpx s₁.heap H).get? b = some o := fun e n => zpy e n
  have noA : ∀ {b : Addr} {o : Obj} {es : Array DictEntry} {ep : Nat}, s₁.heap.get? b = some o -> o.data = .dict es ep -> H b = none := fun {b o es ep} e d => by
   cases q : H b with
   | none => rfl
   | some u =>
    have e' : b = a := hA b (by rw [q]; simp)
    subst e'
    rw [ha] at e; cases e
    have d' : Data.seq vs.toArray _ = Data.dict es ep := d
    cases d'
  have nsK : ∀ {b : Addr} {m : Str -> Option Value}, s₁.heap.Ns b m -> (zpx s₁.heap H).Ns b m := fun {b m} ⟨o, es, ep, e, d, r⟩ => ⟨o, es, ep, base_of e (noA e d), d, r⟩
  have hKb : K.In (zpx s₁.heap H) := fun b o e => base_of (KX b o e) (by
   cases q : H b with
   | none => rfl
   | some u =>
    have e' : b = a := hA b (by rw [q]; simp)
    subst e'
    rw [hK (by rw [q]; simp)] at e; cases e)
  have hM : Mod K mg (zpx s₁.heap H) := ⟨hKb, nsK hns, ⟨mb, nsK hb, hbb⟩, let ⟨mc, h1, h2⟩ := hlim; ⟨mc, nsK h1, h2⟩⟩
  have e0 : zso P w K mg (zpx s₁.heap H) callerA [] s₁ H := ⟨rfl, hM, fun b o e => zr8 e, Nat.le_of_eq (zm7 _ _), trivial, fun b hb => absurd (show b ∈ ([] : List Addr) from hb) (by simp), hok, .of_eq hg⟩
  refine codeAny_mono ((F _ hKb (nsK hns)).run callerA [] s₁ H ⟨[.ref a], []⟩ [.ref a] [.ref a] _ _ hr e0 (hbind s₁ (.ref a)) (.cons rfl .nil) (hsp H hO hS)) fun r s' h => ?_
  cases r with
  | error e => exact (hCX H e s' h).elim
  | ok fl =>
   cases fl with
   | next => exact False.elim h
   | brk => exact False.elim h
   | cont => exact False.elim h
   | ret u =>
    obtain ⟨v, H', os, bare, un, hok', r', q⟩ := h
    have q' : v = .bl true := q
    subst q'
    obtain rfl : u = Value.bool true := r'
    refine ⟨rfl, OldK.of_keep fun b o e => ?_, os, bare⟩
    cases q : H b with
    | none => exact un.keep b o e q (by intro z; exact absurd (show b ∈ ([] : List Addr) from z) (by simp)) (by simp)
    | some u =>
     rcases hO b with z | ⟨ob, xs, z⟩
     ·rw [q] at z; cases z
     ·have z2 := un.frzs b ob _ z
      obtain ⟨e1, _⟩ := hok b _ z
      obtain ⟨e2, _⟩ := hok' b _ z2
      rw [e] at e1; cases e1
      exact e2
 cases hk : K.lookup a with
 | some o =>
  have e := KX a o hk
  rw [ha] at e
  cases e
  refine core (fun _ => none) (fun _ => .inl rfl) (.inr ⟨_, vs.toArray, _, hk, rfl, rfl, rfl, by rw [xak, lenV]; exact hl, by simpa using rv⟩) (fun b u z => by have z' : (none : Option HO) = some u := z; cases z') (fun b z => absurd rfl z) fun z => absurd rfl z
 | none =>
  refine core (fun b => if b = a then some (.frz { cls := .type "list", data := .seq vs.toArray } (.lst (ns.map V.int))) else none) (fun b => ?_) (.inl (.inr ⟨{ cls := .type "list", data := .seq vs.toArray }, if_pos rfl⟩)) (fun b u z => ?_) (fun b z => ?_) fun _ => hk
  ·by_cases hb : b = a
   ·exact .inr ⟨_, _, if_pos hb⟩
   ·exact .inl (if_neg hb)
  ·by_cases hb : b = a
   ·have z' := (if_pos hb).symm.trans z
    cases z'
    subst hb
    exact ⟨ha, by rw [xad]; exact hl, vs, _, rv, ha⟩
   ·have z' := (if_neg hb).symm.trans z
    cases z'
  ·by_cases hb : b = a
   ·exact hb
   ·exact absurd (if_neg hb) z
end L2
namespace L2
open PySem.Spec PyProof.Rows
theorem walk_of {l : PySem.W.OpenLaw} {n k : Nat} {q : Program} {loose : List Str} {XP : (Str -> Option Value) -> Heap -> Prop} {YP : World -> Heap -> Prop} {d : DefRec} {K : Params -> xFg} {CX : World -> CXT} {sp : World -> Sp} {x : Str}
  (hn : l.most = some n) (hn2 : n <= sizeLine) (hdf : d.params.defaults = []) (hr : zeD k callerA)
  (hY : ∀ (w : World) (h : Heap), YP w h -> (K w.params).In h)
  (F : ∀ (w : World) (mg : Str -> Option Value) (fa : Addr) (h : Heap), (K w.params).In h -> h.Ns mainGlobals mg -> mg d.name = some (.ref fa) ->
   ∃ fd : FuncData, (∀ (s : Shared) (u : Value), BindsTo s fd ⟨[u], []⟩ [(x, u)]) /\
    ∀ base : Heap, (K w.params).In base -> base.Ns mainGlobals mg -> zgj l.prog w (K w.params) mg base (CX w) k fa fd [x] (sp w))
  (hsp : ∀ (w : World) (H : Hp) (a : Addr) (ns : List Int), ns.length <= n -> zwI H -> SqL (K w.params) H a (ns.map V.int) -> sp w [.ref a] H (fun v _ => v = .bl true) fun _ _ _ => False)
  (hCX : ∀ (w : World) (H : Hp) (s : Shared) (e : Value) (s' : Shared), CX w [] H s (fun _ _ _ => False) e s' -> False) :
  PySem.W.WalkO q loose XP YP l.row.toRowW d [] (fun f vs => PySem.call f vs) := by
 refine Att.attach_call hn hdf fun w s₀ s₁ mg mb fa o pm cd doc a vs ns G Y ho hd hcd hmg hobj hints hlen hg => ?_
 have KX := hY w _ Y
 obtain ⟨fd, hb, hF⟩ := F w mg fa _ KX G.T.g hmg
 exact zpK KX G.T.g G.T.b G.T.builtins G.T.nolimit hg hobj hints (xa3 hlen hn2) hr hF hb (fun H hO hS => hsp w H a ns hlen hO hS) fun H e s' => hCX w H s₁ e s'
end L2
namespace L2
open PySem.Spec PyProof.Rows
def znr (s : Stmt) (j : Nat) : Stmt := match s with
 | .ClassDef _ _ _ body _ _ _ _ _ _ _ => body.getD j (.Pass ⟨0, 0, 0, 0⟩)
 | _ => .Pass ⟨0, 0, 0, 0⟩
def zch (s : Stmt) : Arguments := match s with
 | .FunctionDef _ a _ _ _ _ _ _ _ _ => a
 | _ => { posonlyargs := [], args := [], vararg := none, kwonlyargs := [], kw_defaults := [], kwarg := none, defaults := [] }
def zbs (s : Stmt) : List Stmt := match s with
 | .FunctionDef _ _ b _ _ _ _ _ _ _ => b
 | _ => []
def zai (s : Stmt) : Scope := match s with
 | .FunctionDef _ _ _ _ _ _ sc _ _ _ => sc
 | _ => { kind := .function, names := [], isGenerator := false, isCoroutine := false }
abbrev E0 : XK := fun _ _ _ => False
structure Fun (K : xFg) (x qual : Str) (st : Stmt) (f : Addr) (fd : FuncData) : Prop where
 ex : ∃ (oc : Value) (od : Option Addr) (kV doc pm : Value) (an : Option Addr) (cdv ct : Value) (osl : Array (Option Value)),
  fd = PySem.W.fnOf x qual (zch st) (zbs st) (zai st) .none kV doc pm an cdv ct /\ K.lookup f = some ⟨oc, od, .func fd, osl⟩ /\ PySem.W.codeIn K cdv qual = true
 kp : PySem.W.keepIn K (.ref f) = true
section
variable {P : Program} {w : World} {K : xFg} {mg : Str -> Option Value} {base : Heap}
theorem Fun.binds {x qual : Str} {st : Stmt} {f : Addr} {fd : FuncData} {ps : List Str} (F : Fun K x qual st f fd)
  (h : ∀ (kV doc pm : Value) (an : Option Addr) (cdv ct : Value) (us : List Value), us.length = ps.length -> bindArgs (PySem.W.fnOf x qual (zch st) (zbs st) (zai st) .none kV doc pm an cdv ct) ⟨us, []⟩ = pure (ps.zip us)) : zgx K fd ps [] := by
 obtain ⟨oc, od, kV, doc, pm, an, cdv, ct, osl, rfl, lk, hcd⟩ := F.ex
 exact .all (h kV doc pm an cdv ct)
theorem zqU {x qual : Str} {st : Stmt} {f : Addr} {oc : Value} {od an : Option Addr} {osl : Array (Option Value)} {kV doc pm cdv ct : Value} (l : K.lookup f = some ⟨oc, od, .func (PySem.W.fnOf x qual (zch st) (zbs st) (zai st) .none kV doc pm an cdv ct), osl⟩)
  (c : PySem.W.codeIn K cdv qual = true) (k : PySem.W.keepIn K (.ref f) = true) : Fun K x qual st f (PySem.W.fnOf x qual (zch st) (zbs st) (zai st) .none kV doc pm an cdv ct) := ⟨⟨oc, od, kV, doc, pm, an, cdv, ct, osl, rfl, l, c⟩, k⟩
end
theorem zns {n : Nat} (h : n <= 1000) : n < sizeLine := xbt h (by decide)
section
variable {X : Cx}
theorem pv (i : Nat) {x : Str} {pos : Pos} (hN : X.N[i]? = some x := by rfl) (hv : Vis X.env.scope x := by first | exact Or.inl rfl | exact Or.inr (Or.inl rfl) | exact Or.inr (Or.inr rfl)) (hd : (x == ("__debug__" : Str)) = false := by decide)
  (hcd : (x == ("__classdict__" : Str)) = false := by decide) : PE X (.Name x pos) (tVar i) := ztS hN hv hd hcd
end
theorem iteF {A B : Prop} (h : B) : if false = true then A else B := by
 rw [if_neg xau]
 exact h
theorem iteT {A B : Prop} (h : A) : if true = true then A else B := by
 rw [if_pos rfl]
 exact h
def zaF (H H' : Hp) : Prop := ∀ b o, H b = some o -> H' b = some o
theorem zaF.refl (H : Hp) : zaF H H := fun _ _ h => h
theorem zaF.trans {H H1 H2 : Hp} (a : zaF H H1) (b : zaF H1 H2) : zaF H H2 := fun c o h => b c o (a c o h)
theorem zaF.free {H H' : Hp} (e : zaF H H') {l : Addr} (h : H' l = Option.none) : H l = Option.none := by
 cases q : H l with
 | none => rfl
 | some o =>
  rw [e l o q] at h
  cases h
theorem zaF.seq {K : xFg} {H H' : Hp} {a : Addr} {xs : List V} (e : zaF H H') (h : SqL K H a xs) : SqL K H' a xs := by
 rcases h with (h | ⟨o, h⟩) | h
 ·exact .inl (.inl (e _ _ h))
 ·exact .inl (.inr ⟨o, e _ _ h⟩)
 ·exact .inr h
end L2
end
namespace L2
open PySem.Spec PyProof.Rows
theorem zhM {α β : Type} (g : β -> α -> β) : ∀ {l : List α} {f : α -> β -> Sem (ForInStep β)} (c : β), (∀ x ∈ l, ∀ c, f x c = pure (.yield (g c x))) -> forIn l c f = pure (l.foldl g c)
 | [], _, _, _ => rfl
 | x :: l, f, c, h => by
  rw [List.forIn_cons, h x xal c, pure_bind]
  exact zhM g (g c x) fun y hy => h y (xaf _ hy)
def zbI (env : Env) (cs : List (Str × Addr)) (x : Str × NameKind) : List (Str × Addr) :=
 if (x.2 == NameKind.free) = true then (x.1, (env.cells.lookup x.1).getD 0) :: cs else cs
def ztI (env : Env) (names : List (Str × NameKind)) : List (Str × Addr) := names.foldl (zbI env) []
theorem znt {env : Env} {scope : Scope} (h : ∀ x ∈ scope.names, x.2 = .free -> ∃ c, env.cells.lookup x.1 = some c) : closureFor scope env = pure (ztI env scope.names) := by
 simp only [closureFor]
 rw [zhM (zbI env) [] (fun x hx c => by
  obtain ⟨n, k⟩ := x
  by_cases hk : k = .free
  ·obtain ⟨a, e⟩ := h (n, k) hx hk
   have e' : env.cells.lookup n = some a := e
   subst hk
   simp [zbI, cellOf, e']
  ·have hb : (k == NameKind.free) = false := by simpa using hk
   simp [zbI, hb])]
 rfl
theorem zil {env : Env} : ∀ (l : List (Str × NameKind)) (acc : List (Str × Addr)), (∀ x ∈ l, x.2 = .free -> ∃ c, env.cells.lookup x.1 = some c) -> (∀ y c, acc.lookup y = some c -> env.cells.lookup y = some c) ->
  ∀ y c, (l.foldl (zbI env) acc).lookup y = some c -> env.cells.lookup y = some c
 | [], acc, _, ha, y, c, e => ha y c e
 | x :: l, acc, h, ha, y, c, e => by
  refine zil l (zbI env acc x) (fun z hz => h z (xaf _ hz)) (fun z d q => ?_) y c e
  unfold zbI at q
  split at q
  ·rename_i hk
   obtain ⟨a, ea⟩ := h x xal (by simpa using hk)
   rw [xbi] at q
   cases hz : z == x.1 with
   | true =>
    rw [hz] at q
    rw [ea] at q
    have : z = x.1 := by simpa using hz
    rw [this, ea]; simpa using q
   | false => rw [hz] at q; exact ha z d q
  ·exact ha z d q
theorem zgB {env : Env} : ∀ (l : List (Str × NameKind)) (acc : List (Str × Addr)) (y : Str), ((∃ c, acc.lookup y = some c) \/ (y, NameKind.free) ∈ l) -> ∃ c, (l.foldl (zbI env) acc).lookup y = some c
 | [], acc, y, h => by
  rcases h with h | h
  ·exact h
  ·exact absurd h (by simp)
 | x :: l, acc, y, h => by
  refine zgB l (zbI env acc x) y ?_
  rcases h with ⟨c, h⟩ | h
  ·left
   unfold zbI
   split
   ·rw [xbi]
    cases hz : y == x.1 with
    | true => exact ⟨_, rfl⟩
    | false => exact ⟨c, h⟩
   ·exact ⟨c, h⟩
  ·rcases xae.mp h with e | h
   ·left
    subst e
    unfold zbI
    rw [if_pos (by rfl), xbi]
    simp
   ·exact .inr h
theorem zbj {scope : Scope} {env : Env} : ∀ {names : List (Str × NameKind)} {x : Str} {k : NameKind},
  (names.map fun (n, k) => if (k == NameKind.free && env.scope.kind == .function && env.kindOf n == some .cell) then (n, NameKind.cell) else (n, k)).lookup x = some k ->
  names.lookup x = some k \/ (k = .cell /\ names.lookup x = some .free)
 | [], _, _, h => by simp at h
 | (n, k') :: r, x, k, h => by
  change List.lookup x ((if (k' == NameKind.free && env.scope.kind == .function && env.kindOf n == some .cell) = true then (n, NameKind.cell) else (n, k')) :: _) = some k at h
  by_cases hc : (k' == NameKind.free && env.scope.kind == .function && env.kindOf n == some .cell) = true
  ·rw [if_pos hc, xbi] at h
   rw [xbi]
   cases hx : x == n with
   | true =>
    rw [hx] at h
    have hk : k' = .free := by
     simp only [xa0, beq_iff_eq] at hc
     exact hc.1.1
    subst hk
    have h' : NameKind.cell = k := by simpa using h
    exact .inr ⟨h'.symm, rfl⟩
   | false => rw [hx] at h; exact zbj (scope := scope) h
  ·rw [if_neg hc, xbi] at h
   rw [xbi]
   cases hx : x == n with
   | true => rw [hx] at h; exact .inl h
   | false => rw [hx] at h; exact zbj (scope := scope) h
def zwJ (k : Nat) (NY N : List Str) (sc : Scope) : Bool :=
 NY.length == k + N.length && ((NY.drop k).zip N).all fun p => (sc.names.lookup p.1).isNone || (p.1 == p.2 && sc.names.lookup p.1 != some .local)
structure LC (X : Cx) (k : Nat) (scope : Scope) (NY : List Str) : Prop where
 cells : ∀ y ∈ scope.names, y.2 ≠ .cell
 kind : scope.kind = .function
 names : ∀ y ∈ scope.names, y.2 = .local -> scope.names.lookup y.1 = some .local
 free : ∀ y ∈ scope.names, y.2 = .free -> X.env.kindOf y.1 = some .cell \/ X.env.kindOf y.1 = some .free
 ny : zwJ k NY X.N scope = true
 nd : NY.Nodup
def lcOk (k : Nat) (N : List Str) (sc0 scope : Scope) (NY : List Str) : Bool :=
 (scope.names.all fun y => y.2 != .cell) && (scope.kind == .function) && (scope.names.all fun y => y.2 != .local || scope.names.lookup y.1 == some .local) &&
 (scope.names.all fun y => y.2 != .free || sc0.names.lookup y.1 == some .cell || sc0.names.lookup y.1 == some .free) && zwJ k NY N scope && decide NY.Nodup
theorem LC.of {X : Cx} {k : Nat} {N NY : List Str} {sc0 scope : Scope} (hN : X.N = N) (hs : X.env.scope = sc0) (h : lcOk k N sc0 scope NY = true) : LC X k scope NY := by
 unfold lcOk at h
 simp only [xa0, xa1, Bool.or_eq_true, bne_iff_ne, beq_iff_eq, ne_eq] at h
 obtain ⟨⟨⟨⟨⟨h1, h2⟩, h3⟩, h4⟩, h5⟩, h6⟩ := h
 refine ⟨h1, h2, fun y hy e => ?_, fun y hy e => ?_, by rw [hN]; exact h5, of_decide_eq_true h6⟩
 ·rcases h3 y hy with z | z
  ·exact absurd e z
  ·exact z
 ·show X.env.scope.names.lookup y.1 = _ \/ X.env.scope.names.lookup y.1 = _
  rw [hs]
  rcases h4 y hy with (z | z) | z
  ·exact absurd e z
  ·exact .inl z
  ·exact .inr z
def zem (X : Cx) (scope : Scope) (NY : List Str) (s₀ : Shared) (H₀ : Hp) (C : Addr) (ex : List Addr) : Cx :=
 { X with N := NY, s₀ := s₀, H₀ := H₀, env := compEnvC scope (ztI X.env scope.names) C X.env, outer := X.stack, ex := ex, fn := fun _ => false, pn := [], xe := fun _ _ => False }
def PTs (X : Cx) (cs : List Expr) (t : TT) : Prop :=
 ∀ (pins : List (Addr × Obj)) (s : Shared) (σ : St) (H : Hp) (Q : Bool -> Hp -> Prop), Inv X pins σ H s -> t σ H Q ->
  wpAny (model X.prog X.w) X.A (forIn cs true fun c r => if r = true then do let ok <- isTrue c X.env (eval c X.env); pure (ForInStep.yield ok) else pure (ForInStep.yield r)) (TP X pins σ Q) X.xe s
def zwK : TT := fun _ H Q => Q true H
theorem zsA {X : Cx} : PTs X [] zwK := fun _ _ _ H _ I h => wpAny_tests_nil ⟨H, I, h⟩
theorem zsB {X : Cx} {c : Expr} {t : TT} (hc : PT X c t) : PTs X [c] t := fun pins s σ H Q I h => wpAny_tests_one (hc pins s σ H Q I h)
def zsC (σ σ2 : St) : Prop := σ2.length = σ.length /\ ∀ (j : Nat) (v : V), σ[j]? = some (some v) -> σ2[j]? = some (some v)
def tLC (k : Nat) (wi : TI) (g : TG) (tc : TT) (te : TE) : TE := fun σ H Q => wi σ H fun J H1 => ∃ W : Nat -> Nat -> List V -> Hp -> Prop, (∃ m, W 0 m [] H1) /\ ∀ i m ys H, W i m ys H -> ys.length < sizeLine /\
 ((J.stop i H /\ ∀ D, H D = none -> Q (.ref D) (upd H D (.lst ys))) \/
  (J.go i H /\ ∃ N : List V -> Hp -> Prop, (∀ ys' H', N ys' H' -> ∃ m', m' < m /\ W (i + 1) m' ys' H') /\
    ∀ v H', J.yld i H v H' -> g v (List.replicate k none ++ σ) H' fun σ2 H2 => zsC (List.replicate k none ++ σ) σ2 /\
      tc σ2 H2 fun b H3 => if b = true then te σ2 H3 fun y H4 => N (ys ++ [y]) H4 else N ys H3))
theorem zwL {α : Type} {t : Sem α} {Q Q' : α -> Shared -> Prop} {M : Model} {A : Around} {E : Value -> Shared -> Prop} {s : Shared} (h : wpAny M A t Q (fun _ _ => False) s) (hQ : ∀ a s, Q a s -> Q' a s) : wpAny M A t Q' E s :=
 wpAny_mono h hQ fun _ _ z => False.elim z
section
variable {prog : Program} {w : World} {A : Around} {R : Result -> Shared -> Prop} {s : Shared}
theorem zi6 {elt tg iter : Expr} {ifs : List Expr} {scope : Scope} {pos : Pos} {it acc : Value} {env : Env} (W : Nat -> Shared -> Prop)
  (turn : ∀ n s, W n s -> ∀ E', wpAny (model prog w) A (pyNext it) (fun r s1 => match r with
   | none => R (.ok .next) s1
   | some v => wpAny (model prog w) A (letOwnedTupleGo tg it v) (fun _ s2 => wpAny (model prog w) A (assign tg env v) (fun _ s3 =>
     wpAny (model prog w) A (forIn ifs true fun c r => if r = true then do let ok <- isTrue c env (eval c env); pure (ForInStep.yield ok) else pure (ForInStep.yield r)) (fun ok s4 =>
      if ok = true then wpAny (model prog w) A (eval elt env) (fun x s5 => wpAny (model prog w) A (call (.builtin "list.append") [acc, x]) (fun _ s6 => ∃ m, m < n /\ W m s6) E' s5) E' s4
      else ∃ m, m < n /\ W m s4) E' s3) E' s2) E' s1) E' s)
  (n : Nat) (h : W n s) : codeAny (model prog w) A (.compLoop (.ListComp elt [⟨tg, iter, ifs, 0⟩] scope pos) 0 it acc env) R s := by
 refine codeAny_loop rfl W (fun n s hW => ?_) n h
 show wpAny _ A ((compTurn (.ListComp elt [⟨tg, iter, ifs, 0⟩] scope pos) 0 it acc env).onRaise (fun x => do noteFrame x env; theTreesLotGoes x)) _ _ s
 refine wpAny_noted ?_
 rw [compTurn_list]
 refine wpAny_bind (wpAny_standAt (wpAny_bind (thn (turn n s hW _) fun r s1 h1 => ?_)))
 cases r with
 | none => exact wpAny_pure h1
 | some v =>
  refine wpAny_bind (thn h1 fun _ s2 h2 => wpAny_bind (thn h2 fun _ s3 h3 => wpAny_bind (thn h3 fun ok s4 h4 => ?_)))
  cases ok with
  | false => exact wpAny_pure ⟨rfl, h4⟩
  | true => exact wpAny_bind (wpAny_bind (thn h4 fun x s5 h5 => wpAny_bind (thn h5 fun _ s6 h6 => wpAny_pure (wpAny_pure ⟨rfl, h6⟩))))
end
section
variable {X : Cx} {pins : List (Addr × Obj)} {σ : St} {H2 : Hp} {s2 : Shared} {scope : Scope} {NY : List Str} {k : Nat} {C D : Addr} {fp : List Addr}
theorem zwM (I2 : Inv X pins σ H2 s2) (lc : LC X k scope NY) (hf : ∀ b ∈ fp, zml X pins H2 b) (hfl : ∀ b ∈ fp, b < s2.heap.objs.size) (hC : s2.heap.objs.size <= C) : (zem X scope NY s2 H2 C fp).Ok := by
 have hfree : ∀ x ∈ scope.names, x.2 = .free -> ∃ c, X.env.cells.lookup x.1 = some c := fun x hx e => I2.ok.has x.1 (lc.free x hx e)
 have sub : ∀ x c, (ztI X.env scope.names).lookup x = some c -> X.env.cells.lookup x = some c := zil scope.names [] hfree (fun y c e => by simp at e)
 refine ⟨I2.ok.mod, ?_, I2.ok.glob, I2.ok.blt, hC, fun x y c e1 e2 => I2.ok.inj x y c (sub x c e1) (sub y c e2), fun x hx => ?_, fun x c z => absurd z (by show ¬ (false = true); decide), I2.ok.hd, I2.ok.frames, .inl rfl, fun b hb => ⟨xan (xai (hfl b hb) hC), fun x c e => (hf b hb).2.2.2.2.1 x c (sub x c e)⟩,
  I2.bs, xa3 I2.ok.bsz I2.sz, fun b o e hb => ?_, fun b hb z => ?_, I2.stack, I2.stkFree⟩
 ·show (relabel scope X.env).kind = .function
  exact lc.kind
 ·have hx : (relabel scope X.env).names.lookup x = some .cell \/ (relabel scope X.env).names.lookup x = some .free := hx
  have key : scope.names.lookup x = some .free := by
   rcases hx with hx | hx
   ·rcases zbj (scope := scope) hx with z | ⟨_, z⟩
    ·exact absurd rfl (lc.cells _ (PySem.mem_of_lookup z))
    ·exact z
   ·rcases zbj (scope := scope) hx with z | ⟨_, z⟩
    ·exact z
    ·exact z
  exact zgB scope.names [] x (.inr (PySem.mem_of_lookup key))
 ·have q : b ∈ X.ex \/ X.s₀.heap.objs.size <= b := (hf b hb).2.2.2.1
  rcases q with q | q
  ·exact I2.ok.noex b o e q
  ·exact absurd (xai (xab e) (xa3 I2.ok.bsz q)) (xbm _)
 ·rcases xae.mp (I2.stkSub b z) with e | e
  ·exact (hf b hb).2.1 e
  ·exact (hf b hb).2.2.1 e
theorem zpL {h1 : Heap} {tk : Nat} {m : Str -> Option Value} {oD : Obj} (I2 : Inv X pins σ H2 s2) (lc : LC X k scope NY) (hf : ∀ b ∈ fp, zml X pins H2 b) (hfl : ∀ b ∈ fp, b < s2.heap.objs.size) (hC : s2.heap.objs.size <= C) (hD : s2.heap.objs.size <= D) (hDC : D ≠ C)
  (old : ∀ b o, s2.heap.get? b = some o -> h1.get? b = some o) (hn : h1.Ns C m) (ho : h1.get? D = some oD) (hoD : ∀ v, oD.data ≠ .cell v) :
  Inv (zem X scope NY s2 H2 C fp) [(D, oD)] (List.replicate k none ++ σ) H2 { s2 with heap := h1, toks := tk } := by
 have hfree : ∀ x ∈ scope.names, x.2 = .free -> ∃ c, X.env.cells.lookup x.1 = some c := fun x hx e => I2.ok.has x.1 (lc.free x hx e)
 have sub : ∀ x c, (ztI X.env scope.names).lookup x = some c -> X.env.cells.lookup x = some c := zil scope.names [] hfree (fun y c e => by simp at e)
 have hny := lc.ny
 unfold zwJ at hny
 simp only [xa0, beq_iff_eq, xa1, Bool.or_eq_true, bne_iff_ne, ne_eq] at hny
 obtain ⟨hlen, hz⟩ := hny
 refine ⟨zwM I2 lc hf hfl hC, rfl, I2.bare, Un.kept old, ⟨m, hn, fun i x v e1 e2 e3 => ?_⟩, fun x c e => ?_, I2.hok.fresh hC, fun x c e => I2.freeC x c (sub x c e), fun p hp => ?_, I2.hok.kept old, ?_⟩
 ·have e1 : NY[i]? = some x := e1
  have hik : k <= i := by
   refine Nat.le_of_not_lt fun z => ?_
   rw [xb4 (by simpa using z), xcu, if_pos z] at e2
   cases e2
  rw [xcd (by simpa using hik), xc2] at e2
  have hi2 : i - k < X.N.length := by
   rw [<- I2.len]; exact (xah.mp e2).1
  obtain ⟨y, ey⟩ : ∃ y, X.N[i - k]? = some y := ⟨_, xao hi2⟩
  have em : (x, y) ∈ (NY.drop k).zip X.N := by
   refine xbe (i := i - k) ?_
   rw [List.getElem?_zip_eq_some]
   refine ⟨?_, ey⟩
   rw [List.getElem?_drop, show k + (i - k) = i by omega]; exact e1
  have e3 : Vis (relabel scope X.env) x := e3
  have kf : scope.names.lookup x = some .free := by
   have kk : ∃ q, scope.names.lookup x = some q := by
    rcases e3 with z | z | z <;> rcases zbj (scope := scope) z with z | ⟨_, z⟩ <;> exact ⟨_, z⟩
   have zz := hz (x, y) em
   have nl : scope.names.lookup x ≠ some .local := by
    rcases zz with zz | zz
    ·obtain ⟨q, hq⟩ := kk
     have zz : (scope.names.lookup x).isNone = true := zz
     rw [hq] at zz; cases zz
    ·exact zz.2
   rcases e3 with z | z | z <;> rcases zbj (scope := scope) z with z | ⟨_, z⟩
   ·exact absurd z nl
   ·exact z
   ·exact absurd rfl (lc.cells _ (PySem.mem_of_lookup z))
   ·exact z
   ·exact z
   ·exact z
  have exy : x = y := by
   rcases hz (x, y) em with zz | zz
   ·have zz : (scope.names.lookup x).isNone = true := zz
    rw [kf] at zz; cases zz
   ·exact zz.1
  subst exy
  obtain ⟨mX, hnX, hlX⟩ := I2.loc
  have hk := lc.free (x, .free) (PySem.mem_of_lookup kf) rfl
  have hk : X.env.kindOf x = some .cell \/ X.env.kindOf x = some .free := hk
  obtain ⟨u, ru, lu⟩ := hlX (i - k) x v ey e2 (.inr hk)
  refine ⟨u, ru, ?_⟩
  rcases lu with ⟨z, _⟩ | ⟨_, c, hc, hcell⟩
  ·rcases hk with q | q <;> rw [q] at z <;> cases z
  ·obtain ⟨c', hc'⟩ := zgB (env := X.env) scope.names [] x (.inr (PySem.mem_of_lookup kf))
   have : c' = c := by
    have q := sub x c' hc'
    rw [hc] at q; exact (Option.some.inj q).symm
   subst this
   refine .inr ⟨?_, c', hc', hcell.keeps old⟩
   show (relabel scope X.env).names.lookup x = some .cell \/ (relabel scope X.env).names.lookup x = some .free
   rcases e3 with z | z
   ·rcases zbj (scope := scope) z with z | ⟨z, _⟩
    ·rw [kf] at z; cases z
    ·cases z
   ·exact z
 ·obtain ⟨v, z⟩ := I2.cell x c (sub x c e)
  exact ⟨v, z.keeps old⟩
 ·have e : p = (D, oD) := by simpa [zem] using hp
  subst e
  refine ⟨ho, I2.hok.fresh hD, hDC, fun z => ?_, hoD⟩
  have z : D ∈ frs X.stack := z
  rcases xae.mp (I2.stkSub D z) with q | q
  ·exact absurd (xai I2.lt hD) (by rw [q]; exact xbm _)
  ·exact I2.nofs hD q
 ·show (List.replicate k none ++ σ).length = NY.length
  rw [hlen, xbr, xc2, I2.len]
theorem zuq {H4 : Hp} {s4 : Shared} {σ' : St} {ys : List V} {us : List Value} (I2 : Inv X pins σ H2 s2) (hf : ∀ b ∈ fp, zml X pins H2 b) (hC : s2.heap.objs.size <= C) (hD : s2.heap.objs.size <= D)
  (I4 : Inv (zem X scope NY s2 H2 C fp) [(D, LCg.lst us)] σ' H4 s4) (rv : zbi ys us) (hz : ys.length <= sizeLine) : Inv X pins σ (upd H4 D (.lst ys)) s4 := by
 obtain ⟨pD, nD, neD, nfD, dD⟩ := I4.pin (D, LCg.lst us) (by simp)
 have u0 : Un (frs X.stack) fp H2 H4 s2.heap s4.heap := I4.base
 have neb : ∀ b o, s2.heap.get? b = some o -> b ≠ D := fun b o e => xan (xai (xab e) hD)
 have hok : HOk X.prog X.w (upd H4 D (.lst ys)) s4.heap := fun b u e => by
  by_cases hb : b = D
  ·subst hb
   rw [zan] at e; cases e
   exact ⟨hz, us, us.length, rv, pD⟩
  ·rw [zak hb] at e
   exact (I4.hok b u e).stay (fun _ _ _ q => q) (fun c q => by rw [zak (zam q nD)]; exact q) fun c xs q => by rw [zak (zam q nD)]; exact q
 refine I2.call' (ch := fp) I4.os ⟨u0.keep, u0.slot, fun b o e n hx => ?_, u0.there, fun b xs q => ?_, fun b o u q => ?_, fun b ps q => ?_⟩ hok I4.bare fun b hb => ⟨(hf b hb).2.2.2.1, (hf b hb).2.1, (hf b hb).2.2.2.2.1, (hf b hb).2.2.2.2.2⟩
 ·rw [zak (neb b o e)]; exact u0.free b o e n hx
 ·have z := u0.tups b xs q
  rw [zak (zam z nD)]; exact z
 ·have z := u0.frzs b o u q
  rw [zak (zam z nD)]; exact z
 ·obtain ⟨more, z⟩ := u0.tbls b ps q
  exact ⟨more, by rw [zak (zam z nD)]; exact z⟩
end
theorem zqV {X : Cx} {tg elt iter : Expr} {ifs : List Expr} {scope : Scope} {pos : Pos} {NY : List Str} {k : Nat} {g : TG} {tc : TT} {te : TE} (hc : X.calm = true) (lc : LC X k scope NY)
  (hb : ∀ (s₀ : Shared) (H₀ : Hp) (C : Addr) (ex : List Addr), NY.Nodup -> PG (zem X scope NY s₀ H₀ C ex) tg g /\ PTs (zem X scope NY s₀ H₀ C ex) ifs tc /\ PE (zem X scope NY s₀ H₀ C ex) elt te)
  {pins : List (Addr × Obj)} {σ : St} {H2 : Hp} {s2 : Shared} {it : Addr} {fp : List Addr} {tn : Nat -> Heap -> Prop} {J : It} {RR : Value -> Addr -> Result -> Shared -> Prop} {E : Value -> Shared -> Prop} {Fin : List V -> Hp -> Prop}
  (I2 : Inv X pins σ H2 s2) (T : zqR X.prog X.w X.K tg J fp it tn) (st2 : tn 0 s2.heap) (f2 : ∀ b ∈ fp, zml X pins H2 b) {W : Nat -> Nat -> List V -> Hp -> Prop} {m0 : Nat} (w0 : W 0 m0 [] H2)
  (turn : ∀ i m ys H, W i m ys H -> ys.length < sizeLine /\ ((J.stop i H /\ Fin ys H) \/ (J.go i H /\ ∃ N : List V -> Hp -> Prop, (∀ ys' H', N ys' H' -> ∃ m', m' < m /\ W (i + 1) m' ys' H') /\
   ∀ v H', J.yld i H v H' -> g v (List.replicate k none ++ σ) H' fun σ2 H2 => zsC (List.replicate k none ++ σ) σ2 /\ tc σ2 H2 fun b H3 => if b = true then te σ2 H3 fun y H4 => N (ys ++ [y]) H4 else N ys H3)))
  (fin : ∀ (C D : Addr) (H4 : Hp) (s4 : Shared) (ys : List V) (m : Str -> Option Value), s2.heap.objs.size <= C -> H4 D = none -> H4 C = none -> D ≠ C -> s4.heap.Ns C m -> Inv X pins σ (upd H4 D (.lst ys)) s4 -> Fin ys H4 -> RR (.ref D) C (.ok .next) s4) :
  wpAny (model X.prog X.w) X.A (newList []) (fun acc s3 => wpAny (model X.prog X.w) X.A (newFunctionEnv scope X.env.globals (ztI X.env scope.names) [] X.env.qual none .none (some X.env)) (fun cenv s4 =>
   codeAny (model X.prog X.w) X.A (.compStart (.ListComp elt [⟨tg, iter, ifs, 0⟩] scope pos) 0 (.ref it) acc { cenv with scope := relabel scope X.env }) (RR acc cenv.locals) s4) E s3) E s2 := by
 refine wpAny_newObj_type (wpAny_newFunctionEnv lc.cells (by intro y hy; simp at hy) (fun h1 hns1 hsb1 => ?_) lc.kind)
 dsimp only at hns1 hsb1 ⊢
 generalize hG : s2.heap.push { cls := .type "list", dict := none, data := .seq ([] : List Value).toArray } = G at hns1 hsb1 ⊢
 have hC : G.objs.size = s2.heap.objs.size + 1 := by rw [<- hG, xbn]
 have hCle : s2.heap.objs.size <= G.objs.size := by omega
 have hDC : s2.heap.objs.size ≠ G.objs.size := by omega
 have hfl : ∀ b ∈ fp, b < s2.heap.objs.size := fun b hb => by obtain ⟨o, e, _⟩ := T.obj 0 _ st2 b hb; exact xab e
 have old : ∀ b o, s2.heap.get? b = some o -> h1.get? b = some o := fun b o e => by
  have lt := xab e
  refine hsb1.extBut b o (xan (xai lt hCle)) (xaa _ ?_)
  rw [<- hG]; exact xaa _ e
 have hacc : h1.get? s2.heap.objs.size = some (LCg.lst []) := by
  refine hsb1.extBut _ _ hDC (xaa _ ?_)
  rw [<- hG]; exact xav _ rfl
 have dl : ∀ (us : List Value) v, (LCg.lst us).data ≠ .cell v := fun us v z => by
  have z' : Data.seq us.toArray us.length = Data.cell v := z
  cases z'
 have I3 := zpL (h1 := h1) (tk := s2.toks + ([] : List (Str × Value)).length) I2 lc f2 hfl hCle (xag _) hDC old hns1 hacc (dl [])
 have fpY : ∀ {us : List Value} {H' : Hp}, (∀ b ∈ fp, H' b = none) -> ∀ b ∈ fp, zml (zem X scope NY s2 H2 G.objs.size fp) [(s2.heap.objs.size, LCg.lst us)] H' b := fun {us H'} hn b hb => by
  have lt := hfl b hb
  have okY := I3.ok
  refine ⟨hn b hb, (okY.exf b hb).1, okY.exfs b hb, .inl hb, (okY.exf b hb).2, fun p hp => ?_⟩
  have e : p = (s2.heap.objs.size, LCg.lst us) := by simpa [zem] using hp
  subst e
  exact xb5 lt
 obtain ⟨hg, ht, he⟩ := hb s2 H2 G.objs.size fp lc.nd
 have loop : ∀ s3 : Shared, s3 = { s2 with heap := h1, toks := s2.toks + ([] : List (Str × Value)).length } ->
   codeAny (model X.prog X.w) X.A (.compLoop (.ListComp elt [⟨tg, iter, ifs, 0⟩] scope pos) 0 (.ref it) (.ref s2.heap.objs.size) (compEnvC scope (ztI X.env scope.names) G.objs.size X.env)) (RR (.ref s2.heap.objs.size) G.objs.size) s3 := by
  rintro s3 rfl
  refine zi6 (fun n s' => ∃ i H' ys us, Inv (zem X scope NY s2 H2 G.objs.size fp) [(s2.heap.objs.size, LCg.lst us)] (List.replicate k none ++ σ) H' s' /\ zbi ys us /\ tn i s'.heap /\ (∀ b ∈ fp, H' b = none) /\ W i n ys H') ?_ m0
   ⟨0, H2, [], [], I3, .nil, T.keep _ _ _ st2 fun b _ o e => old b o e, fun b hb => (f2 b hb).1, w0⟩
  rintro n s3 ⟨i, H3, ys, us, I3, rv, st3, fr3, w3⟩ E'
  obtain ⟨hsz, hturn⟩ := turn i n ys H3 w3
  rcases hturn with ⟨stop, qn⟩ | ⟨go, N, hN, step⟩
  ·refine thn (T.done (zem X scope NY s2 H2 G.objs.size fp) rfl rfl rfl hc i _ s3 _ H3 E' I3 (fpY fr3) st3 stop) fun r s4 ⟨hr, I4⟩ => ?_
   subst hr
   obtain ⟨m4, hn4, _⟩ := I4.loc
   exact fin _ _ H3 s4 ys m4 hCle (I4.pin (s2.heap.objs.size, LCg.lst us) (by simp)).2.1 I4.free hDC hn4 (zuq I2 f2 hCle (xag _) I4 rv (xcq hsz)) qn
  ·refine thn (T.item (zem X scope NY s2 H2 G.objs.size fp) rfl rfl rfl hc i _ s3 _ H3 E' I3 (fpY fr3) st3 go) fun r s4 ⟨u, hr, h4⟩ => ?_
   subst hr
   refine thn h4 fun _ s5 ⟨x, H5, I5, r5, y5, st5, fr5⟩ => ?_
   have I5' := I5.pinned (fpY fr5) (T.obj _ _ st5)
   refine zwL (hg _ s5 _ H5 x u _ I5' r5 (step x H5 y5)) fun _ s6 ⟨σ6, H6, I6, sub6, q6⟩ => ?_
   have keep : ∀ {σ7 : St} {H7 : Hp} {s7 : Shared}, Inv (zem X scope NY s2 H2 G.objs.size fp) ([(s2.heap.objs.size, LCg.lst us)] ++ ziQ fp s5.heap) σ7 H7 s7 -> tn (i + 1) s7.heap /\ (∀ b ∈ fp, H7 b = none) := fun {σ7 H7 s7} I7 => by
    refine ⟨T.keep _ _ _ st5 fun b hb o e => (I7.pin (b, o) (xa9 _ (xa9 _ (zec hb e)))).1, fun b hb => ?_⟩
    obtain ⟨o, e, d⟩ := T.obj _ _ st5 b hb
    exact (I7.pin (b, o) (xa9 _ (xa9 _ (zec hb e)))).2.1
   refine zwL (ht _ s6 σ6 H6 _ I6 q6) fun ok s7 ⟨H7, I7, q7⟩ => ?_
   cases ok with
   | false =>
    rw [if_neg xau] at q7 ⊢
    obtain ⟨m', hm, w7⟩ := hN _ _ q7
    obtain ⟨k1, k2⟩ := keep I7
    exact ⟨m', hm, i + 1, H7, ys, us, (I7.weak (by rw [I7.len, I5.len]) sub6.2).unpinned, rv, k1, k2, w7⟩
   | true =>
    rw [if_pos rfl] at q7 ⊢
    refine zwL (he _ s7 σ6 H7 _ I7 q7) fun y s8 ⟨v, H8, I8, r8, q8⟩ => ?_
    obtain ⟨m', hm, w8⟩ := hN _ _ q8
    obtain ⟨k1, k2⟩ := keep I8
    obtain ⟨pD, nD, neD, nfD, dD⟩ := I8.pin (s2.heap.objs.size, LCg.lst us) (by simp)
    have hul : us.toArray.size <= sizeLine := by rw [xak, <- rv.length]; exact xcq hsz
    refine append_at pD (fun h9 sb9 hD9 => ?_) hul
    have I8' : Inv (zem X scope NY s2 H2 G.objs.size fp) [] (List.replicate k none ++ σ) H8 s8 := (I8.weak (by rw [I8.len, I5.len]) sub6.2).pins_of fun p hp => absurd hp (by simp)
    have hDfp : s2.heap.objs.size ∉ fp := fun z => xbm _ (hfl _ z)
    have I9 : Inv (zem X scope NY s2 H2 G.objs.size fp) [] (List.replicate k none ++ σ) H8 { s8 with heap := h9 } :=
     I8'.turned (t' := s8.toks) (it := s2.heap.objs.size) (fun b o hb e => (sb9.2 b hb).trans e) nD neD (.inr (xag _)) (fun x c e z => by
      obtain ⟨v', o', e1, e2⟩ := I8.cell x c e
      rw [z, pD] at e1
      have e1' : LCg.lst us = o' := Option.some.inj e1
      rw [<- e1'] at e2
      exact dl us v' e2) (fun p hp => absurd hp (by simp [zem]))
    refine ⟨m', hm, i + 1, H8, ys ++ [v], us ++ [y], I9.pins_of fun p hp => ?_, rv.append (.cons r8 .nil), T.keep _ _ _ k1 fun b hb o e => (sb9.2 b fun z => hDfp (z ▸ hb)).trans e, k2, w8⟩
    have e : p = (s2.heap.objs.size, LCg.lst (us ++ [y])) := by simpa using hp
    subst e
    exact ⟨hD9.trans (congrArg some (LCg.lst_snoc us y)), nD, neD, nfD, dl _⟩
 exact codeAny_compStart_list (loop _ rfl) (T.self _ 0 _ _ _ (T.keep _ _ _ st2 fun b _ o e => old b o e) (loop _ rfl))
section
variable {X : Cx} {tg elt iter : Expr} {ifs : List Expr} {scope : Scope} {pos : Pos} {NY : List Str} {k : Nat} {wi : TI} {g : TG} {tc : TT} {te : TE}
theorem zwN (hc : X.calm = true) (lc : LC X k scope NY) (hi : PI X tg iter wi)
  (hb : ∀ (s₀ : Shared) (H₀ : Hp) (C : Addr) (ex : List Addr), NY.Nodup -> PG (zem X scope NY s₀ H₀ C ex) tg g /\ PTs (zem X scope NY s₀ H₀ C ex) ifs tc /\ PE (zem X scope NY s₀ H₀ C ex) elt te)
  (hs : ∀ x, foldedSetIterable iter X.env x = pure x := by intro _; rfl) : PE X (.ListComp elt [⟨tg, iter, ifs, 0⟩] scope pos) (tLC k wi g tc te) := by
 intro pins s σ H Q I h
 rw [eval_ListComp]
 refine wpAny_comprehension_free (use := none) rfl hs (znt fun x hx e => I.ok.has x.1 (lc.free x hx e)) lc.kind lc.names (thn (hi pins s σ H _ I h) fun v s1 h1 => thn h1 fun itv s2 h2 => ?_)
 obtain ⟨it, fp, tn, J, H2, e, I2, T, st2, f2, W, ⟨m0, w0⟩, turn⟩ := h2
 subst e
 refine zqV (RR := fun acc C => compPost (model X.prog X.w) X.A X.xe none (EP X pins σ Q) acc C) hc lc hb I2 T st2 f2 w0 turn fun C D H4 s4 ys m hC nD nC hDC hn I4 q => ?_
 refine ⟨m, hn, fun h' sb => ?_⟩
 have hCn : upd H4 D (.lst ys) C = none := by rw [zak (xay hDC)]; exact nC
 obtain ⟨f0, f1, f2', f3, f4, f5⟩ := I2.fpOk (H' := upd H4 D (.lst ys)) hC hCn
 exact ⟨.ref D, _, I4.turned (t' := s4.toks) (fun b o hb e => (sb.2 b hb).trans e) f0 f1 f3 f4 f5, rfl, q D nD⟩
theorem zwO {i : Nat} {y : Str} {py spos : Pos} (hc : X.calm = true) (hN : X.N.Nodup) (hi' : X.N[i]? = some y) (hy : X.env.kindOf y = some .local) (lc : LC X k scope NY) (hi : PI X tg iter wi)
  (hb : ∀ (s₀ : Shared) (H₀ : Hp) (C : Addr) (ex : List Addr), NY.Nodup -> PG (zem X scope NY s₀ H₀ C ex) tg g /\ PTs (zem X scope NY s₀ H₀ C ex) ifs tc /\ PE (zem X scope NY s₀ H₀ C ex) elt te)
  (hsw : swapsWith (.ListComp elt [⟨tg, iter, ifs, 0⟩] scope pos) (some (.Name y py)) spos.line X.env = pure true := by rfl)
  (hs : ∀ x, foldedSetIterable iter X.env x = pure x := by intro _; rfl) : PS X (.Assign [.Name y py] (.ListComp elt [⟨tg, iter, ifs, 0⟩] scope pos) spos) (zsf (tLC k wi g tc te) (ziP i)) := by
 intro pins s σ H D0 I h
 rw [exec_Assign_Name_used _ _ _ _ hsw]
 refine wpAny_bind (wpAny_standAt (wpAny_bind ?_))
 show wpAny _ X.A (do let _ <- comprehension (.ListComp elt [⟨tg, iter, ifs, 0⟩] scope pos) scope X.env _ (newList []) false (eval iter X.env) (some (assign (.Name y py) X.env))) _ _ s
 refine wpAny_bind (thn (wpAny_comprehension_free (use := some (assign (.Name y py) X.env)) (Q := fun _ s' => SP X pins D0 .next s') rfl hs (znt fun x hx e => I.ok.has x.1 (lc.free x hx e)) lc.kind lc.names
  (thn (hi pins s σ H _ I h) fun v s1 h1 => thn h1 fun itv s2 h2 => ?_)) fun _ s' q => wpAny_pure (wpAny_pure q))
 obtain ⟨it, fp, tn, J, H2, e, I2, T, st2, f2, W, ⟨m0, w0⟩, turn⟩ := h2
 subst e
 refine zqV (RR := fun acc C => compPost (model X.prog X.w) X.A X.xe (some (assign (.Name y py) X.env)) (fun _ s' => SP X pins D0 .next s') acc C) hc lc hb I2 T st2 f2 w0 turn fun C D H4 s4 ys m hC nD nC hDC hn I4 q => ?_
 have hCn : upd H4 D (.lst ys) C = none := by rw [zak (xay hDC)]; exact nC
 obtain ⟨f0, f1, f2', f3, f4, f5⟩ := I2.fpOk (H' := upd H4 D (.lst ys)) hC hCn
 obtain ⟨oC, es, ep, eC, dC, rC⟩ := id hn
 have I5 : Inv X (pins ++ [(C, oC)]) σ (upd H4 D (.lst ys)) s4 := I4.pins_of fun p hp => by
  rcases xbd.mp hp with z | z
  ·exact I4.pin p (xa9 _ z)
  ·have e : p = (C, oC) := by simpa using z
   subst e
   exact ⟨eC, hCn, f1, f2', fun v z => by rw [show (C, oC).2.data = oC.data from rfl, dC] at z; cases z⟩
 show wpAny _ X.A (assign (.Name y py) X.env (.ref D)) _ _ _
 refine wpAny_assign_Name (zeb (v := .ref D) I5 hN hi' (.inl hy) rfl (fun s5 I6 => ?_) (.inr hy))
 refine ⟨m, ⟨oC, es, ep, (I6.pin (C, oC) (by simp)).1, dC, rC⟩, fun h' sb => ?_⟩
 exact ⟨_, _, I6.unpinned.turned (t' := s5.toks) (fun b o hb e => (sb.2 b hb).trans e) f0 f1 f3 f4 f5, q D nD⟩
end
end L2
namespace L2
open PySem.Spec PyProof.Rows
theorem zmt {n k : Nat} (hk : 0 < k) (h : n < 2 ^ k) : n.log2 < k := by
 rcases Nat.eq_zero_or_pos n with h0 | hp
 ·rw [h0]; simpa using hk
 ·exact (Nat.log2_lt (xb5 hp)).mpr h
section
variable {X : Cx}
theorem zpM : OpR X (compareOp .Is) (fun x y H Q => ∃ a b, x = .bl a /\ y = .bl b /\ Q (.bl (a == b)) H) := by
 intro pins s σ H x y v u Q I rx ry h
 obtain ⟨a, b, rfl, rfl, q⟩ := h
 cases rx
 cases ry
 exact is_bool (ziR I q rfl)
theorem zkl : OpR X (compareOp .IsNot) (fun x y H Q => ∃ a b, x = .bl a /\ y = .bl b /\ Q (.bl (a != b)) H) := by
 intro pins s σ H x y v u Q I rx ry h
 obtain ⟨a, b, rfl, rfl, q⟩ := h
 cases rx
 cases ry
 exact isnot_bool (ziR I q rfl)
def gLst (K : xFg) (n : Nat) (t : TGs) : TG := fun v σ H Q => ∃ a xs, v = .ref a /\ SqL K H a xs /\ xs.length = n /\ t xs σ H Q
theorem zur {es : List Expr} {k : Nat} {t : TGs} {n : Nat} {pos : Pos} (hc : X.calm = true) (h : PGs X es t)
  (hn : (assignEach es X.env).length = n := by rfl) (hst : (assignEach es X.env).findIdx? (·.1) = none := by rfl) : PG X (.Tuple es k pos) (gLst X.K n t) := by
 intro pins s σ H v u Q I r hw
 obtain ⟨a, xs, e1, hq, hl, hw⟩ := hw
 subst e1
 cases r
 obtain ⟨its, rv, pl, hz⟩ := I.list hq
 have hsz : (assignEach es X.env).length = its.toArray.size := by simp [hn, <- hl, rv.length]
 rw [assign_Tuple]
 refine wpAny_bind (wpAny_standAt ?_)
 unfold unpack
 rw [hsz, hst]
 refine wpAny_bind (wpAny_holding (PySem.W.kun_itemsOf (I.ok.hd hc) pl.isList fun h' hx => ?_))
 have I1 : Inv X pins σ H { s with heap := h' } := I.kept (t' := s.toks) fun b o e => hx b o (xan (xab e)) e
 exact h pins _ σ H xs _ Q I1 (by simpa using rv) hw
end
end L2
namespace Mth
theorem gcd_step (m n : Nat) : Nat.gcd n (m % n) = Nat.gcd m n := by
 rw [Nat.gcd_comm n (m % n), <- Nat.gcd_rec n m, Nat.gcd_comm]
structure zim (s x y z x' y' z' : Int) : Prop where
 ne : s ≠ 0
 x : x = s * x'
 y : y = s * y'
 z : z = s * z'
theorem zin {s x x' : Int} (h : s ≠ 0) (e : x = s * x') : x.fdiv s = x' := by
 rw [e]; exact Int.mul_fdiv_cancel_left x' h
theorem zeS {s x x' : Int} (h : s ≠ 0) (e : x = s * x') : x'.natAbs <= x.natAbs := by
 rw [e, xcr]
 exact Nat.le_mul_of_pos_left _ (by omega)
theorem zmu (x y z : Int) (h : ¬ (x = 0 /\ y = 0 /\ z = 0)) : ∃ x' y' z', zim ((Nat.gcd (Nat.gcd x.natAbs y.natAbs) z.natAbs : Nat) : Int) x y z x' y' z' := by
 have d1 : (Nat.gcd (Nat.gcd x.natAbs y.natAbs) z.natAbs) ∣ x.natAbs := Nat.dvd_trans (xcz _ _) (xcz _ _)
 have d2 : (Nat.gcd (Nat.gcd x.natAbs y.natAbs) z.natAbs) ∣ y.natAbs := Nat.dvd_trans (xcz _ _) (Nat.gcd_dvd_right _ _)
 have d3 : (Nat.gcd (Nat.gcd x.natAbs y.natAbs) z.natAbs) ∣ z.natAbs := Nat.gcd_dvd_right _ _
 have n0 : Nat.gcd (Nat.gcd x.natAbs y.natAbs) z.natAbs ≠ 0 := by
  intro e
  rw [e] at d1 d2 d3
  exact h ⟨by have := xcv d1; omega, by have := xcv d2; omega, by have := xcv d3; omega⟩
 have c1 : ((Nat.gcd (Nat.gcd x.natAbs y.natAbs) z.natAbs : Nat) : Int) ∣ x := xc3.mp (by rw [xb9]; exact d1)
 have c2 : ((Nat.gcd (Nat.gcd x.natAbs y.natAbs) z.natAbs : Nat) : Int) ∣ y := xc3.mp (by rw [xb9]; exact d2)
 have c3 : ((Nat.gcd (Nat.gcd x.natAbs y.natAbs) z.natAbs : Nat) : Int) ∣ z := xc3.mp (by rw [xb9]; exact d3)
 obtain ⟨x', e1⟩ := c1
 obtain ⟨y', e2⟩ := c2
 obtain ⟨z', e3⟩ := c3
 exact ⟨x', y', z', by omega, e1, e2, e3⟩
theorem zim.neg {s x y z x' y' z' : Int} (p : zim s x y z x' y' z') : zim (0 - s) x y z (-x') (-y') (-z') := by
 refine ⟨by have := p.ne; omega, ?_, ?_, ?_⟩
 ·rw [p.x, xc5, Int.neg_mul_neg]
 ·rw [p.y, xc5, Int.neg_mul_neg]
 ·rw [p.z, xc5, Int.neg_mul_neg]
theorem zgC {a b B : Nat} (ha : a <= B) (hb : b <= B) : Nat.gcd a b <= B := by
 rcases Nat.eq_zero_or_pos a with h | h
 ·rw [h, Nat.gcd_zero_left]; exact hb
 ·exact xa3 (Nat.gcd_le_left b h) ha
end Mth
namespace L2
open PySem.Spec PyProof.Rows
theorem zpN {H : Hp} {p : Addr} (h : H p = none) (o : HO) : zaF H (upd H p o) := fun b u q => by rw [zak (zam q h)]; exact q
theorem zaF.tup {K : xFg} {H H' : Hp} {a : Addr} {xs : List V} (e : zaF H H') (h : SqT K H a xs) : SqT K H' a xs := by
 rcases h with (h | ⟨o, h⟩) | h
 ·exact .inl (.inl (e _ _ h))
 ·exact .inl (.inr ⟨o, e _ _ h⟩)
 ·exact .inr h
theorem zwP {n : Nat} (h : n <= 1000) : n <= sizeLine := xcq (zns h)
section
variable {K : xFg} {a : Addr} {xs : List V} {H : Hp}
theorem lgo (h : SqL K H a xs) : (Itl K a).stop xs.length H /\ ∀ i, i < xs.length -> (Itl K a).go i H /\ ∀ v H', (Itl K a).yld i H v H' -> H' = H /\ xs[i]? = some v :=
 ⟨⟨xs, h, xag _⟩, fun i hi => ⟨⟨xs, xs[i], h, by simp [hi]⟩, fun v H' y => ⟨y.1, y.2 xs h⟩⟩⟩
theorem tgo (h : SqT K H a xs) : (Itt K a).stop xs.length H /\ ∀ i, i < xs.length -> (Itt K a).go i H /\ ∀ v H', (Itt K a).yld i H v H' -> H' = H /\ xs[i]? = some v :=
 ⟨⟨xs, h, xag _⟩, fun i hi => ⟨⟨xs, xs[i], h, by simp [hi]⟩, fun v H' y => ⟨y.1, y.2 xs h⟩⟩⟩
end
end L2
namespace L2
open PySem.Spec PyProof.Rows
structure Fly (B : Heap) (l : List Env) (x : Addr) (cls : Value) (dct : Option Addr) (fl : Value) (h : Heap) : Prop where
 stays : B.StaysIn h
 new : B.get? x = none
 frames : h.FunFrames B l
 obj : ∃ ox vs T oT ts, h.get? x = some ox /\ ox.cls = cls /\ ox.dict = dct /\ ox.data = .fields vs /\ vs[1]? = some (.ref T) /\ B.get? T = none /\ T ≠ x /\ h.get? T = some oT /\ oT.data = .fields ts /\ ts[3]? = some fl
theorem znu (o : Obj) (f : Array Value -> Array Value) : (o.mapFields f).dict = o.dict := by
 obtain ⟨c, d, dt, sl⟩ := o; cases dt <;> rfl
section
variable {M : Model} {A : Around} {E : Value -> Shared -> Prop} {s : Shared} {B : Heap} {env : Env} {outer : List Env} {L x : Addr} {Q : Unit -> Shared -> Prop}
theorem zcs {h : Heap} {y : Addr} {oy : Obj} {ws : Array Value} (ey : h.get? y = some oy) (dy : oy.data = .fields ws) {b : Addr} {o : Obj} (eb : h.get? b = some o) (nf : ∀ us, o.data ≠ .fields us) : b ≠ y := fun z => by
 rw [z, ey] at eb
 have z' : oy = o := Option.some.inj eb
 rw [<- z'] at nf
 exact nf ws dy
theorem zi7 {ox : Obj} {vs : Array Value} {head : Value} {hadNext : Bool} (hfr : A.frames = some (env :: outer)) (hl : s.heap.FunFrames B (env :: outer)) (hf : env.frame = some L)
  (ex : s.heap.get? x = some ox) (hB : B.StaysIn s.heap) (nx : B.get? x = none) (dx : ox.data = .fields vs) (sz : 1 < vs.size)
  (k : ∀ h', Fly B (env :: outer) x ox.cls ox.dict (rawInt L) h' -> s.heap.UpToSlots h' -> Q () { s with heap := h' }) :
  wpAny M A (do let a <- frameOf env; let pl <- entryPlaceOf L hadNext; let b <- EntryCells.newEntry head a .none (rawInt L) .none pl; setField (.ref x) 1 b) Q E s := by
 have nfr : x ∉ (env :: outer).filterMap (·.frame) := fun hm => by
  obtain ⟨_, o, ho, nf⟩ := hl.mem hm
  exact zcs ex dx ho nf rfl
 refine wpAny_bind (wpAny_frameOf_fun hfr hl hf fun g1 so => wpAny_bind (wpAny_entryPlaceOf fun pl hpl => ?_))
 unfold EntryCells.newEntry newFields
 refine wpAny_bind (wpAny_newObj_type ?_ (hpl.sizeOk5 _ _ _ _ _))
 have ex1 : g1.get? x = some ox := (so.2.1 x nfr).trans ex
 have B1 : B.StaysIn g1 := fun b o eb => (so.2.1 b fun hm => by rw [(hl.mem hm).1] at eb; cases eb).trans (hB b o eb)
 generalize eo : ({ cls := .type "traceback", dict := none, data := .fields ([head, .ref L, .none, rawInt L, .none] ++ (if pl.isEmpty then List.replicate 6 Value.none else pl)).toArray } : Obj) = ob
 have ex2 := xaa (h := g1) ob ex1
 refine wpAny_setField ex2 dx sz (k _ ?_ ?_)
 ·have Tx : g1.objs.size ≠ x := xb5 (xab ex1)
  have d3 := Obj.data_mapFields dx (·.setIfInBounds 1 (Value.ref g1.objs.size))
  have e3 := xbu (Obj.mapFields (·.setIfInBounds 1 (Value.ref g1.objs.size))) ex2 (Obj.isFreed_of_fields d3)
  have freeOb : ob.isFreed = false := by rw [<- eo]; rfl
  have T3 := (xbj (g1.push ob) (Obj.mapFields (·.setIfInBounds 1 (Value.ref g1.objs.size))) (xay Tx)).trans (xav g1 freeOb)
  refine ⟨fun b o eb => ?_, nx, hl.of_keeps fun b o eb nf => ?_, _, _, g1.objs.size, ob, _, e3, Obj.cls_mapFields _ _, znu _ _, d3, by simp [sz], B1.fresh, Tx, T3, by rw [<- eo], ?_⟩
  ·rw [xbj _ _ (fun z => by rw [<- z, nx] at eb; cases eb)]
   exact xaa _ (B1 b o eb)
  ·obtain ⟨sl, q⟩ := so.2.2 b o eb
   refine ⟨{ o with slots := sl }, ?_, rfl⟩
   rw [xbj _ _ (xay (zcs ex dx eb nf))]
   exact xaa _ q
  ·rcases hpl with rfl | ⟨_, _, _, _, _, _, _, rfl⟩ <;> simp
 ·intro b o eb nf
  obtain ⟨sl, q⟩ := so.2.2 b o eb
  refine ⟨sl, ?_⟩
  rw [xbj _ _ (xay (zcs ex dx eb nf))]
  exact xaa _ q
theorem zi8 {ox : Obj} {vs : Array Value} (hfr : A.frames = some (env :: outer)) (hl : s.heap.FunFrames B (env :: outer)) (hf : env.frame = some L)
  (ex : s.heap.get? x = some ox) (hB : B.StaysIn s.heap) (nx : B.get? x = none) (dx : ox.data = .fields vs) (v1 : vs[1]? = some .none)
  (k : ∀ h', Fly B (env :: outer) x ox.cls ox.dict (rawInt L) h' -> s.heap.UpToSlots h' -> Q () { s with heap := h' }) : wpAny M A (noteFrame (.ref x) env) Q E s := by
 unfold noteFrame
 simp only [hf]
 refine wpAny_bind (wpAny_field ex dx v1 ?_)
 rw [if_neg (show ¬ ((Value.none != Value.none) = true) by decide)]
 exact zi7 hfr hl hf ex hB nx dx (xa8.mp v1).1 k
theorem zkW {cls : Value} {dct : Option Addr} (hfr : A.frames = some (env :: outer)) (hf : env.frame = some L) (F : Fly B (env :: outer) x cls dct .none s.heap)
  (k : ∀ h', Fly B (env :: outer) x cls dct (rawInt L) h' -> s.heap.UpToSlots h' -> Q () { s with heap := h' }) : wpAny M A (noteFrame (.ref x) env) Q E s := by
 obtain ⟨ox, vs, T, oT, ts, ex, hc, hd, dx, v1, nT, Tx, eT, dT, t3⟩ := F.obj
 subst hc hd
 unfold noteFrame
 simp only [hf]
 refine wpAny_bind (wpAny_field ex dx v1 ?_)
 rw [if_pos (show (Value.ref T != Value.none) = true by simp)]
 refine wpAny_bind (wpAny_field eT dT t3 ?_)
 rw [if_neg (show ¬ ((Value.none == rawInt L) = true) by simp [rawInt])]
 refine wpAny_bind (wpAny_setField eT dT (xa8.mp t3).1 ?_)
 have oth : ∀ b, b ≠ T -> (s.heap.update T (Obj.mapFields (·.setIfInBounds 3 Value.none))).get? b = s.heap.get? b := fun b hb => xbj _ _ (xay hb)
 have up : s.heap.UpToSlots (s.heap.update T (Obj.mapFields (·.setIfInBounds 3 Value.none))) := fun b o eb nf => ⟨o.slots, (oth b (zcs eT dT eb nf)).trans eb⟩
 refine zi7 hfr (F.frames.of_keeps fun b o eb nf => ⟨o, (oth b (zcs eT dT eb nf)).trans eb, rfl⟩) hf ((oth x (xay Tx)).trans ex) (fun b o eb => (oth b fun z => by rw [z, nT] at eb; cases eb).trans (F.stays b o eb)) F.new dx
  (xa8.mp v1).1 fun h' f u => k h' f (up.trans u)
theorem zeT {l : List Env} {cls fl : Value} {dct : Option Addr} (F : Fly B l x cls dct fl s.heap)
  (k : ∀ h', Fly B l x cls dct .none h' -> s.heap.UpToSlots h' -> Q () { s with heap := h' }) : wpAny M A (setFlight (.ref x) none) Q E s := by
 obtain ⟨ox, vs, T, oT, ts, ex, hc, hd, dx, v1, nT, Tx, eT, dT, t3⟩ := F.obj
 have sz : 3 < ts.size := (xa8.mp t3).1
 unfold setFlight
 refine wpAny_bind (wpAny_field ex dx v1 ?_)
 rw [if_pos (show (Value.ref T != Value.none) = true by simp)]
 have oth : ∀ b, b ≠ T -> (s.heap.update T (Obj.mapFields (·.setIfInBounds 3 ((none : Option Addr).elim Value.none fun f => rawInt f)))).get? b = s.heap.get? b := fun b hb => xbj _ _ (xay hb)
 refine wpAny_setField eT dT sz (k _ ⟨fun b o eb => (oth b fun z => by rw [z, nT] at eb; cases eb).trans (F.stays b o eb), F.new, F.frames.of_keeps fun b o eb nf => ⟨o, (oth b (zcs eT dT eb nf)).trans eb, rfl⟩,
  ox, vs, T, _, _, (oth x (xay Tx)).trans ex, hc, hd, dx, v1, nT, Tx, xbu _ eT (Obj.isFreed_of_fields (Obj.data_mapFields dT _)), Obj.data_mapFields dT _, by simp [sz]⟩
  fun b o eb nf => ⟨o.slots, (oth b (zcs eT dT eb nf)).trans eb⟩)
theorem Fly.out {cls : Value} {dct : Option Addr} {fl : Value} {h : Heap} (F : Fly B (env :: outer) x cls dct fl h) : Fly B outer x cls dct fl h := ⟨F.stays, F.new, F.frames.2.2, F.obj⟩
end
end L2
namespace L2
open PySem.Spec PyProof.Rows
theorem zcr.there {P : Program} {w : World} {H : Hp} {h : Heap} {a : Addr} {o : HO} (x : zcr P w H h a o) : ∃ ob, h.get? a = some ob := by
 cases o with
 | lst xs => obtain ⟨_, _, _, _, e⟩ := x; exact ⟨_, e⟩
 | tup xs => obtain ⟨_, _, _, ob, e, _⟩ := x; exact ⟨ob, e⟩
 | dK kvs => obtain ⟨_, _, _, _, o, _, _, e, _⟩ := x; exact ⟨o, e⟩
 | dT kvs => obtain ⟨_, _, _, _, o, _, _, e, _⟩ := x; exact ⟨o, e⟩
 | set S n => obtain ⟨o, _, _, _, e, _⟩ := x; exact ⟨o, e⟩
 | ins C dx fs => obtain ⟨_, _, _, e, _⟩ := x; exact ⟨_, e⟩
 | own y => exact x
 | xd fs => obtain ⟨_, ⟨o, _, _, e, _⟩, _⟩ := x; exact ⟨o, e⟩
 | rng lo hi => obtain ⟨_, _, _, e⟩ := x; exact ⟨_, e⟩
 | frz ob u => obtain ⟨e, _⟩ := x; exact ⟨_, e⟩
 | tbl ps => exact ⟨_, (show h.get? a = some _ from x)⟩
 | met f y => exact ⟨_, (show h.get? a = some _ from x)⟩
 | ext φ => exact x.2.1
structure InB (B : Heap) (fs : List Addr) (h0 : Heap) (H' : Hp) (h' : Heap) : Prop where
 old : ∀ b o, h0.get? b = some o -> b ∉ fs -> ∀ o', h'.get? b = some o' -> B.get? b = some o'
 trk : ∀ b u, H' b = some u -> ∀ o', h'.get? b = some o' -> B.get? b = some o'
def CXe (P : Program) (w : World) : CXT := fun outer H s E e s' => ∃ (x C : Addr) (dct : Option Addr) (H' : Hp) (B : Heap), e = .ref x /\ s'.os = s.os /\ AllBare s'.gens /\ Un (frs outer) [] H H' s.heap s'.heap /\ HOk P w H' s'.heap /\
 Fly B outer x (.ref C) dct .none s'.heap /\ InB B (frs outer) s.heap H' s'.heap /\ H' x = none /\ E (.ref C) dct H'
section
variable {X : Cx} {pins : List (Addr × Obj)} {σ : St} {H H' : Hp} {s s' : Shared} {x C : Addr} {B : Heap} {E : XK} {dct : Option Addr} {M : Model} {EE : Value -> Shared -> Prop}
theorem zio {env : Env} {outer : List Env} {L : Addr} (hf : env.frame = some L) : frs (env :: outer) = L :: frs outer := by
 unfold frs; rw [xcj, hf]
theorem zmv {h' : Heap} {args : List Value} {tk : Nat} (I : Inv X pins σ H s) (hst : X.stack = X.env :: X.outer) (hf : X.env.frame = some X.env.locals) (hex : X.ex = []) (m : Heap.MadeExcOf s.heap h' x (.ref C) args) (hE : E (.ref C) none H) :
  wpAny M X.A (leaving X.env (.ref x)) (fun _ s2 => CXe X.prog X.w X.outer X.H₀ X.s₀ E (.ref x) s2) EE { s with heap := h', toks := tk } := by
 have stk := I.stack
 have hfr : X.A.frames = some (X.env :: X.outer) := by rw [<- hst]; exact I.ok.frames
 rw [hst] at stk
 have fc : frs (X.env :: X.outer) = X.env.locals :: X.fs := zio hf
 have hin : ∀ env ∈ (X.env :: X.outer), ∀ b, env.frame = some b -> b ∈ frs (X.env :: X.outer) := fun env he b hb => xbl.mpr ⟨env, he, hb⟩
 generalize eB : PySem.W.hideAll s.heap (frs (X.env :: X.outer)) = B
 have inB : ∀ b o, s.heap.get? b = some o -> b ∉ frs (X.env :: X.outer) -> B.get? b = some o := fun b o e n => by rw [<- eB]; exact PySem.W.hideAll_get _ e n
 have ofB : ∀ b o, B.get? b = some o -> s.heap.get? b = some o := fun b o e => by rw [<- eB] at e; exact PySem.W.of_hideAll _ e
 have fl0 : s.heap.FunFrames B (X.env :: X.outer) := by rw [<- eB]; exact PySem.W.funFrames_hide stk hin
 have nx : B.get? x = none := by
  cases q : B.get? x with
  | none => rfl
  | some o => have := ofB x o q; rw [m.new] at this; cases this
 obtain ⟨t, et, _, _⟩ := m.there
 have tfree : ∀ b u, H b = some u -> b ∉ frs (X.env :: X.outer) := fun b u e hb => by
  have := I.stkFree b (by rw [hst]; exact hb)
  rw [e] at this; cases this
 have hHx : H x = none := by
  cases q : H x with
  | none => rfl
  | some u =>
   obtain ⟨ob, e⟩ := (I.hok x u q).there
   rw [m.new] at e; cases e
 unfold leaving
 refine wpAny_bind (zi8 (s := { s with heap := h', toks := tk }) hfr (fl0.of_keeps fun b o e _ => ⟨o, m.keeps b o e, rfl⟩) hf et (fun b o e => m.keeps b o (ofB b o e)) nx rfl rfl fun h1 F1 u1 => zeT F1 fun h2 F2 u2 => ?_)
 have up : s.heap.UpToSlots h2 := (Heap.UpToSlots.of_keeps m.keeps).trans (u1.trans u2)
 have keep2 : ∀ b o, s.heap.get? b = some o -> b ∉ frs (X.env :: X.outer) -> h2.get? b = some o := fun b o e n => F2.stays b o (inB b o e n)
 have below : ∀ b o, X.s₀.heap.get? b = some o -> b ∉ X.fs -> b ∉ frs (X.env :: X.outer) := fun b o e nb hb => by
  rw [fc] at hb
  rcases xae.mp hb with z | z
  ·exact absurd (xai (xab e) I.ok.above) (by rw [z]; exact xbm _)
  ·exact nb z
 have noex : ∀ b, b ∉ X.ex := fun b z => by rw [hex] at z; cases z
 have slot2 : ∀ b o, s.heap.get? b = some o -> b ∈ X.fs -> ∃ sl, h2.get? b = some { o with slots := sl } := fun b o e hb => by
  obtain ⟨_, o1, e1, nf⟩ := stk.mem (b := b) (by show b ∈ frs (X.env :: X.outer); rw [fc]; exact xaf _ hb)
  rw [e] at e1; cases e1
  exact up b o e nf
 refine ⟨x, C, none, H, B, rfl, I.os, I.bare, ⟨fun b o e n hb _ => keep2 b o (I.base.keep b o e n hb (noex b)) (below b o e hb), fun b o e n hb _ => ?_, fun b o e n _ => I.base.free b o e n (noex b), fun b o e _ => ?_, I.base.tups, I.base.frzs, I.base.tbls⟩,
  fun b u e => (I.hok b u e).stay (fun c v hc q => keep2 c v q ?_) (fun _ q => q) fun _ _ q => q, F2.out, ⟨fun b o e nb o' e' => ?_, fun b u e o' e' => ?_⟩, hHx, hE⟩
 ·obtain ⟨sl, e1⟩ := I.base.slot b o e n hb (noex b)
  obtain ⟨sl2, e2⟩ := slot2 b _ e1 hb
  exact ⟨sl2, e2⟩
 ·obtain ⟨o1, e1⟩ := I.base.there b o e (noex b)
  by_cases hb : b ∈ X.fs
  ·obtain ⟨sl2, e2⟩ := slot2 b _ e1 hb
   exact ⟨_, e2⟩
  ·exact ⟨o1, keep2 b o1 e1 (below b o e hb)⟩
 ·rcases hc with z | z
  ·rw [z]; exact tfree b u e
  ·exact tfree c _ z
 ·obtain ⟨o1, e1⟩ := I.base.there b o e (noex b)
  have q := inB b o1 e1 (below b o e nb)
  rw [F2.stays b o1 q] at e'
  cases e'; exact q
 ·obtain ⟨o1, e1⟩ := (I.hok b u e).there
  have q := inB b o1 e1 (tfree b u e)
  rw [F2.stays b o1 q] at e'
  cases e'; exact q
theorem zpO {e : Value} (I : Inv X pins σ H s) (hst : X.stack = X.env :: X.outer) (hf : X.env.frame = some X.env.locals) (hex : X.ex = []) (h : CXe X.prog X.w X.stack H s E e s') :
  wpAny M X.A (leaving X.env e) (fun _ s2 => CXe X.prog X.w X.outer X.H₀ X.s₀ E e s2) EE s' := by
 obtain ⟨x, C, dct, H', B, rfl, ho, hg, un, hok, F, ib, nx, hE⟩ := h
 have stk := I.stack
 have hfr : X.A.frames = some (X.env :: X.outer) := by rw [<- hst]; exact I.ok.frames
 rw [hst] at stk F ib un
 have fc : frs (X.env :: X.outer) = X.env.locals :: X.fs := zio hf
 unfold leaving
 refine wpAny_bind (zkW hfr hf F fun h1 F1 u1 => zeT F1 fun h2 F2 u2 => ?_)
 have up : s'.heap.UpToSlots h2 := u1.trans u2
 have below : ∀ b o, X.s₀.heap.get? b = some o -> b ∉ X.fs -> b ∉ frs (X.env :: X.outer) := fun b o e nb hb => by
  rw [fc] at hb
  rcases xae.mp hb with z | z
  ·exact absurd (xai (xab e) I.ok.above) (by rw [z]; exact xbm _)
  ·exact nb z
 have inFs : ∀ b, b ∈ X.fs -> b ∈ frs (X.env :: X.outer) := fun b hb => by rw [fc]; exact xaf _ hb
 have noex : ∀ b, b ∉ X.ex := fun b z => by rw [hex] at z; cases z
 have no0 : ∀ b : Addr, b ∉ ([] : List Addr) := fun b => by simp
 have slot2 : ∀ b o, s.heap.get? b = some o -> H b = none -> b ∈ X.fs -> ∃ sl, h2.get? b = some { o with slots := sl } := fun b o e n hb => by
  obtain ⟨_, o1, e1, nf⟩ := stk.mem (b := b) (inFs b hb)
  rw [e] at e1; cases e1
  obtain ⟨sl, e2⟩ := un.slot b o e n (inFs b hb) (no0 b)
  obtain ⟨sl2, e3⟩ := up b _ e2 nf
  exact ⟨sl2, e3⟩
 have free1 : ∀ b o, X.s₀.heap.get? b = some o -> X.H₀ b = none -> H b = none := fun b o e n => I.base.free b o e n (noex b)
 refine ⟨x, C, dct, H', B, rfl, ho.trans I.os, hg, ⟨fun b o e n hb _ => ?_, fun b o e n hb _ => ?_, fun b o e n _ => ?_, fun b o e _ => ?_, fun b xs q => un.tups b xs (I.base.tups b xs q), fun b o u q => un.frzs b o u (I.base.frzs b o u q), fun b ps q => ?_⟩,
  fun b u e => (hok b u e).stay (fun c v hc q => F2.stays c v ?_) (fun _ q => q) fun _ _ q => q, F2.out, ⟨fun b o e nb o' e' => ?_, fun b u e o' e' => ?_⟩, nx, hE⟩
 ·have e1 := I.base.keep b o e n hb (noex b)
  have e2 := un.keep b o e1 (free1 b o e n) (below b o e hb) (no0 b)
  exact F2.stays b o (ib.old b o e1 (below b o e hb) o e2)
 ·obtain ⟨sl, e1⟩ := I.base.slot b o e n hb (noex b)
  obtain ⟨sl2, e2⟩ := slot2 b _ e1 (free1 b o e n) hb
  exact ⟨sl2, e2⟩
 ·obtain ⟨o1, e1⟩ := I.base.there b o e (noex b)
  exact un.free b o1 e1 (free1 b o e n) (no0 b)
 ·obtain ⟨o1, e1⟩ := I.base.there b o e (noex b)
  obtain ⟨o2, e2⟩ := un.there b o1 e1 (no0 b)
  by_cases hb : b ∈ X.fs
  ·have n : H b = none := I.stkFree b (by rw [hst]; exact inFs b hb)
   obtain ⟨sl2, e3⟩ := slot2 b _ e1 n hb
   exact ⟨_, e3⟩
  ·exact ⟨o2, F2.stays b o2 (ib.old b o1 e1 (below b o e hb) o2 e2)⟩
 ·obtain ⟨m1, e1⟩ := I.base.tbls b ps q
  obtain ⟨m2, e2⟩ := un.tbls b _ e1
  exact ⟨m1 ++ m2, by rw [e2, Array.append_assoc]⟩
 ·rcases hc with z | z
  ·subst z; exact ib.trk c u e v q
  ·exact ib.trk c _ z v q
 ·obtain ⟨o1, e1⟩ := I.base.there b o e (noex b)
  obtain ⟨o2, e2⟩ := un.there b o1 e1 (no0 b)
  have q := ib.old b o1 e1 (below b o e nb) o2 e2
  rw [F2.stays b o2 q] at e'
  cases e'; exact q
 ·obtain ⟨o1, e1⟩ := (hok b u e).there
  have q := ib.trk b u e o1 e1
  rw [F2.stays b o1 q] at e'
  cases e'; exact q
def zkX (x C : Addr) (dct : Option Addr) : HO := .ext fun h => ∃ o, h.get? x = some o /\ o.cls = .ref C /\ o.dict = dct /\ PySem.W.notCls o = true
theorem zhN {h3 : Heap} {tk : Nat} (I : Inv X pins σ H s) (ho : s'.os = s.os) (hg : AllBare s'.gens) (un : Un (frs X.stack) [] H H' s.heap s'.heap) (hok : HOk X.prog X.w H' s'.heap) (F : Fly B X.stack x (.ref C) dct .none h3)
  (ib : InB B (frs X.stack) s.heap H' s'.heap) (up : s'.heap.UpToSlots h3) (nx : H' x = none) : Inv X pins σ (upd H' x (zkX x C dct)) { s' with heap := h3, toks := tk } := by
 have stk := I.stack
 have no0 : ∀ b : Addr, b ∉ ([] : List Addr) := fun b => by simp
 have nex : ∀ b o, s.heap.get? b = some o -> b ∉ frs X.stack -> b ≠ x := fun b o e nb z => by
  obtain ⟨o2, e2⟩ := un.there b o e (no0 b)
  have q := ib.old b o e nb o2 e2
  rw [z, F.new] at q; cases q
 have nfx : ∀ b, b ∈ frs X.stack -> b ≠ x := fun b hb z => by
  obtain ⟨_, o1, e1, nf⟩ := F.frames.mem (b := b) hb
  obtain ⟨ox, vs, T, oT, ts, ex, _, _, dx, _⟩ := F.obj
  rw [z, ex] at e1; cases e1
  exact nf vs dx
 have ne : ∀ b o, s.heap.get? b = some o -> b ≠ x := fun b o e => by
  by_cases hb : b ∈ frs X.stack
  ·exact nfx b hb
  ·exact nex b o e hb
 have hok3 : HOk X.prog X.w (upd H' x (zkX x C dct)) h3 := fun b u e => by
  by_cases hb : b = x
  ·subst hb
   rw [zan] at e; cases e
   obtain ⟨ox, vs, T, oT, ts, ex, hc, hd, dx, _⟩ := F.obj
   have nc : PySem.W.notCls ox = true := by unfold PySem.W.notCls; rw [dx]
   exact ⟨⟨ox, ex, hc, hd, nc⟩, ⟨ox, ex⟩, fun h1 h2 ⟨o, q, r⟩ k => ⟨o, k o q, r⟩⟩
  ·rw [zak hb] at e
   refine (hok b u e).stay (fun c v hc q => F.stays c v ?_) (fun c q => by rw [zak (zam q nx)]; exact q) fun c xs q => by rw [zak (zam q nx)]; exact q
   rcases hc with z | z
   ·subst z; exact ib.trk c u e v q
   ·exact ib.trk c _ z v q
 have U : Un (frs X.stack) [] H (upd H' x (zkX x C dct)) s.heap h3 := by
  refine ⟨fun b o e n hb _ => ?_, fun b o e n hb _ => ?_, fun b o e n _ => ?_, fun b o e _ => ?_, fun b xs q => ?_, fun b o u q => ?_, fun b ps q => ?_⟩
  ·exact F.stays b o (ib.old b o e hb o (un.keep b o e n hb (no0 b)))
  ·obtain ⟨sl, e1⟩ := un.slot b o e n hb (no0 b)
   obtain ⟨_, o1, e2, nf⟩ := stk.mem (b := b) hb
   rw [e] at e2; cases e2
   obtain ⟨sl2, e3⟩ := up b _ e1 nf
   exact ⟨sl2, e3⟩
  ·rw [zak (ne b o e)]; exact un.free b o e n (no0 b)
  ·obtain ⟨o2, e2⟩ := un.there b o e (no0 b)
   by_cases hb : b ∈ frs X.stack
   ·have n : H b = none := I.stkFree b hb
    obtain ⟨sl, e1⟩ := un.slot b o e n hb (no0 b)
    obtain ⟨_, o1, e3, nf⟩ := stk.mem (b := b) hb
    rw [e] at e3; cases e3
    obtain ⟨sl2, e4⟩ := up b _ e1 nf
    exact ⟨_, e4⟩
   ·exact ⟨o2, F.stays b o2 (ib.old b o e hb o2 e2)⟩
  ·have z := un.tups b xs q
   rw [zak (zam z nx)]; exact z
  ·have z := un.frzs b o u q
   rw [zak (zam z nx)]; exact z
  ·obtain ⟨more, z⟩ := un.tbls b ps q
   exact ⟨more, by rw [zak (zam z nx)]; exact z⟩
 have J := I.call (g' := s'.gens) (t' := tk) (d' := s'.drawn) (ch := []) U hok3 hg (fun b z => absurd z (no0 b))
 obtain ⟨hh, g, d, t, os⟩ := s'
 have e : os = s.os := ho
 subst e
 exact J
end
end L2
namespace L2
open PySem.Spec PyProof.Rows PySem.W
section
variable {prog : Program} {w : World} {A : Around} {E : Value -> Shared -> Prop} {s : Shared} {K : Frag} {x D : Addr} {ox : Obj} {od : Option Obj} {name : Str} {tk : Tok}
theorem zi9 {M : Model} {nameV : Value} {Q : Unit -> Shared -> Prop} (X : K.In s.heap) (I : InstAt s.heap x ox D od) (hb : mroIn K D (.type "BaseException") = some true) (hq : Q () s) :
  wpAny M A (checkBuiltinCall "BaseException.__getattribute__" ⟨[.ref x, nameV], []⟩) Q E s := by
 have hk : builtinKind "BaseException.__getattribute__" = some .slot := by decide +kernel
 have hsp : splitId "BaseException.__getattribute__" = some ("BaseException", "__getattribute__") := by decide +kernel
 have ha := F.args_bexc_ga (.ref x) nameV
 obtain ⟨hh, g, d, t, os⟩ := s
 have L0 : Looks M hh (isInstance (.ref x) (.type "BaseException")) true := (I.type (M := M)).andThen (looks_mroIn X hb)
 simp only [checkBuiltinCall, hk, hsp]
 refine wpAny_bind (L0.at ?_)
 repeat (any_goals (first | assumption | wp_step))
theorem zus {R : Result -> Shared -> Prop} {g a : Value} (X : K.In s.heap) (I : InstAt s.heap x ox D od) (hb : mroIn K D (.type "BaseException") = some true) (hf : findObj K D od name = some (.bind g a))
  (h : wpAny (model prog w) A.in1 (call g [a, .ref x, .ref D]) (fun v s' => R (.ok (.ret v)) s') (fun e s' => R (.error e) s') s) :
  codeAny (model prog w) A (.call (.builtin "BaseException.__getattribute__") ⟨[.ref x, .str name tk], []⟩) R s := by
 refine codeAny_call_builtin F.attr_ValueError.ga.plain F.entry_bexc_ga (zi9 X I hb ?_)
 obtain ⟨hh, gg, d, t, os⟩ := s
 have L0 := I.type (M := model prog w)
 have L1 := looks_find (M := model prog w) X I hf
 unfold Builtin.«object.__getattribute__»
 refine wpAny_bind (wpAny_of_eq (a := (Value.ref x, [Value.str name tk])) rfl ?_)
 refine wpAny_bind (wpAny_of_eq (a := name) rfl ?_)
 refine wpAny_bind (L0.at (wpAny_bind (L1.at ?_)))
 show wpAny _ _ (do ret (<- holding [a] (call g [a, Value.ref x, Value.ref D]))) _ _ _
 exact wpAny_bind (wpAny_holding (wpAny_mono h (fun v s' q => wpAny_pure q) fun e s' q => q))
theorem zja {a g : Value} (hc : (clsIn K D).isSome = true) (ha : findIn K (.ref D) name = some (some a)) (hg : specialIn K a "__get__" = some (some g)) (ht : takesIn K a = some true) : findObj K D od name = some (.bind g a) := by
 obtain ⟨cd, hc⟩ := xbb.mp hc
 unfold findObj
 rw [hc, Option.bind_some, ha, Option.bind_some]
 simp [hg, ht]
structure zpu (K : Frag) (D : Addr) : Prop where
 cls : (clsIn K D).isSome = true
 ga : findIn K (.ref D) "__getattribute__" = some (some (.builtin "BaseException.__getattribute__"))
 gh : findIn K (.ref D) "__getattr__" = some none
 base : mroIn K D (.type "BaseException") = some true
 obj : mroIn K D (.type "object") = some true
 ca : findIn K (.ref D) "__class__" = some (some (.builtin "object.__class__"))
 cg : specialIn K (.builtin "object.__class__") "__get__" = some (some (.builtin "getset_descriptor.__get__"))
 ct : takesIn K (.builtin "object.__class__") = some true
theorem znv {Q : Option Value -> Shared -> Prop} (c : zpu K D) (X : K.In s.heap) (I : InstAt s.heap x ox D od) (h : Q (some (.ref D)) { s with toks := s.toks + 1 }) :
  wpAny (model prog w) A (getAttr? (.ref x) "__class__") Q E s := by
 obtain ⟨hh, gg, d, t, os⟩ := s
 have L0 := I.type (M := model prog w)
 have L1 := looks_findIn (M := model prog w) X c.ga
 have L2 := looks_findIn (M := model prog w) X c.gh
 have hf : findObj K D od "__class__" = some (.bind (.builtin "getset_descriptor.__get__") (.builtin "object.__class__")) := zja c.cls c.ca c.cg c.ct
 have hx1 : (onTheHeap (Value.ref D) && Value.builtin "BaseException.__getattribute__" == Value.builtin "object.__getattribute__") = false := by
  rw [show (Value.builtin "BaseException.__getattribute__" == Value.builtin "object.__getattribute__") = false by decide +kernel]; rfl
 unfold getAttr? getAttrBy? getAttrBy
 refine wpAny_bind (wpAny_mkText (wpAny_bind (wpAny_attempt (wpAny_holding (wpAny_bind (L0.at (wpAny_bind (L1.at ?_))))))))
 dsimp only
 rw [hx1, if_neg xau]
 unfold getAttrByItsOwn
 refine wpAny_bind ?_
 show wpAny _ _ (typeLookup (.ref D) "__getattr__") _ _ _
 refine L2.at ?_
 refine wpAny_bind (wpAny_attempt (wpAny_holding ?_))
 show wpAny _ _ (boundAndCalled (.builtin "BaseException.__getattribute__") (.ref x) (.str "__class__" t)) _ _ _
 unfold boundAndCalled
 refine wpAny_bind (wpAny_of_eq (F.attr_ValueError.ga.bind (.ref x)) ?_)
 refine wpAny_call (zus X I c.base hf ?_)
 refine wpAny_call (class_get X I c.obj ?_)
 exact handed_on rfl (wpAny_pure h)
theorem ziq (c : zpu K D) : KitX K (.ref x) (.ref D) (fun h => ∃ ox od, InstAt h x ox D od) where
 ty := fun _ _ _ ⟨_, _, I⟩ => I.type
 it := fun _ _ X _ => by
  obtain ⟨cdD, hcD⟩ := xbb.mp c.cls
  unfold clsIn at hcD
  split at hcD
  ·rename_i c' d' cd' sl' ho
   intro A' Q' E' s' k q
   unfold isType loadHead
   exact wpAny_bind (wpAny_loadPart (k _ _ (X _ _ ho)) (wpAny_pure q))
  ·cases hcD
 ne := fun h tp dd its n sl X htp => by
  obtain ⟨cdD, hcD⟩ := xbb.mp c.cls
  refine Bool.eq_false_iff.mpr fun q => ?_
  have e : D = tp := Value.ref.inj (beq_iff_eq.mp q)
  subst e
  unfold clsIn at hcD
  split at hcD
  ·rename_i c' d' cd' sl' ho
   have z := (X _ _ ho).symm.trans htp
   cases z
  ·cases hcD
 ca := fun X ⟨_, _, I⟩ k => znv c X I k
end
end L2
namespace L2
open PySem.Spec PyProof.Rows
section
variable {P : Program} {w : World} {K : xFg} {mg : Str -> Option Value} {base : Heap}
theorem Fun.okX {CX : CXT} {x qual : Str} {st : Stmt} {f : Addr} {fd : FuncData} {N ps : List Str} {k : Nat} {sp : Sp} (F : Fun K x qual st f fd) (S : zdk N ps (zai st)) (len : ∀ vs H Q E, sp vs H Q E -> vs.length = ps.length)
  (hbody : ∀ (cdv : Value) (A : Around) (outer : List Env) (s : Shared) (H : Hp) (vs : List V) (Q : VK) (E : XK), zeD k (A.deeper (envOfC qual (zai st) s.heap.objs.size f cdv)) -> sp vs H Q E ->
   ∃ t, PSs (zdc CX P w K mg base N qual (zai st) f cdv A outer s H E) (zbs st) t /\ t { nx := fun _ H' => Q .non H', rt := Q } (start N vs) H) : zgj P w K mg base CX (k + 1) f fd ps sp := by
 obtain ⟨oc, od, kV, doc, pm, an, cdv, ct, osl, rfl, lk, hcd⟩ := F.ex
 exact zsq lk hcd S len fun A outer s H vs Q E hr hsp => hbody cdv A outer s H vs Q E hr hsp
theorem zut {N : List Str} {qual : Str} {scope : Scope} {f : Addr} {cdv : Value} {A : Around} {outer : List Env} {s : Shared} {H : Hp} {E : XK} : ziT (CXe P w) (zdc (CXe P w) P w K mg base N qual scope f cdv A outer s H E) E :=
 fun pins σ H1 s1 e s' I h => zpO (X := zdc (CXe P w) P w K mg base N qual scope f cdv A outer s H E) I rfl rfl rfl h
theorem zwQ {X : Cx} : ziT (CXe P w) X E0 := fun _ _ _ _ _ _ _ h => by
 obtain ⟨_, _, _, _, _, _, _, _, _, _, _, _, _, z⟩ := h
 exact z.elim
end
theorem znw {K : xFg} {h : Heap} {C : Addr} {bmB : List Value} {newId : String} (X : K.In h) (q : PySem.W.excIn K C bmB newId = true) :
  ∃ bm N nm qn bs hdct sn sub ab col dd k0 k1 k2 k3 k5 mN, h.get? C = some (excClassObj nm qn C N bs bm hdct sn sub ab col dd k0 k1 k2 k3 k5 newId) /\ h.Ns N mN /\ mN "__init__" = none /\ OwnTail h bmB bm := by
 unfold PySem.W.excIn at q
 split at q
 ·rename_i dd cd sl lk
  split at q
  ·rename_i C' bm k0 k1 k2 k3 nn k5 hm hs
   simp only [xa0, beq_iff_eq, Bool.not_eq_true'] at q
   obtain ⟨⟨⟨⟨⟨rfl, rfl⟩, hdel⟩, ht⟩, hok⟩, hni⟩ := q
   obtain ⟨nm, bs, mro, ns, qn, hd, sn, sub, ab, col, del⟩ := cd
   dsimp only at hm hdel hok hni
   subst hm hdel
   obtain rfl : sl = #[k0, k1, k2, k3, some (.builtin nn), k5] := by
    obtain ⟨l⟩ := sl
    simp only at hs
    rw [hs]
   exact ⟨bm, ns, nm, qn, bs, hd, sn, sub, ab, col, dd, k0, k1, k2, k3, k5, _, X _ _ lk, .of_isNs (PySem.W.isNs_of_in X hok), PySem.W.nsMap_none_of_in X hok hni, PySem.W.tail_of_in X ht⟩
  ·cases q
 ·cases q
def zuu (C : Addr) (ta : TA) (E : XK) : TS := fun _ σ H => ta σ H fun vs H1 => vs.length <= sizeLine /\ E (.ref C) none H1
section
variable {P : Program} {w : World} {K : xFg} {mg : Str -> Option Value} {base : Heap} {N : List Str} {qual : Str} {scope : Scope} {f : Addr} {cdv : Value} {A : Around} {outer : List Env} {s0 : Shared} {H0 : Hp} {E : XK}
theorem zpP {x : Str} {C : Addr} {e0 : Expr} {zbR : List Expr} {np cpos pos : Pos} {ta : TA} (q : PySem.W.excIn K C [.type "ValueError", .type "Exception", .type "BaseException", .type "object"] "ValueError.__new__" = true)
  (hg : Gl (zdc (CXe P w) P w K mg base N qual scope f cdv A outer s0 H0 E) x) (hm : mg x = some (.ref C)) (ha : PA (zdc (CXe P w) P w K mg base N qual scope f cdv A outer s0 H0 E) (e0 :: zbR) ta)
  (hdb : (x == ("__debug__" : Str)) = false := by decide)
  (he : starEach (e0 :: zbR) (envOfC qual scope s0.heap.objs.size f cdv) = (false, eval e0 (envOfC qual scope s0.heap.objs.size f cdv)) :: starEach zbR (envOfC qual scope s0.heap.objs.size f cdv) := by rfl)
  (hpl : (backTo cpos (starEach zbR (envOfC qual scope s0.heap.objs.size f cdv))).any (·.1) = false := by rfl) :
  PS (zdc (CXe P w) P w K mg base N qual scope f cdv A outer s0 H0 E) (.Raise (some (.Call (.Name x np) (e0 :: zbR) [] cpos)) none pos) (zuu C ta E) := by
 intro pins s σ H D I h
 obtain ⟨bm, Nn, nm, qn, bs, hdct, sn, sub, ab, col, dd, k0, k1, k2, k3, k5, mN, hC, hN, hni, T⟩ := znw I.mod.kin q
 refine wpAny_Raise_call_subT (C := C) (nm := nm) (q := qn) (N := Nn) (bs := bs) (bm := bm) (hdct := hdct) (sn := sn) (sub := sub) (ab := ab) (col := col) (dd := dd) (k0 := k0) (k1 := k1) (k2 := k2) (k3 := k3) (k5 := k5)
  PySem.F.excBase_ValueError (mN := mN) (T.hasType PySem.F.excBase_ValueError.hasBase) (I.ok.hd rfl) (by
   show (backTo cpos (starEach (e0 :: zbR) (envOfC qual scope s0.heap.objs.size f cdv))).any (·.1) = false
   rw [he]; show (false || (backTo cpos (starEach zbR (envOfC qual scope s0.heap.objs.size f cdv))).any (·.1)) = false; rw [hpl]; rfl) hni (zfF I hg hm ⟨rfl, ?_⟩ hdb)
 have ha' := ha cpos pins s σ H _ I h
 show wpAny _ _ (evalArgs (.ref C) true (backTo cpos (starEach (e0 :: zbR) (envOfC qual scope s0.heap.objs.size f cdv))) []) _ _ _
 change wpAny _ _ (spliced (backTo cpos (starEach (e0 :: zbR) (envOfC qual scope s0.heap.objs.size f cdv)))) _ _ _ at ha'
 rw [he] at ha' ⊢
 refine Calls.evalArgs_plain (thn ha' fun us s2 ⟨vs, H1, I1, r, hz, hE⟩ => ?_)
 have hl : us.length <= sizeLine := by rw [<- r.length]; exact hz
 exact ⟨rfl, hl, I1.bk _ _ hC, hN.keeps I1.bk, T.keeps I1.bk, fun h' e m => zmv (tk := s2.toks) I1 rfl rfl rfl m hE⟩
end
end L2
namespace L2
open PySem.Spec PyProof.Rows
abbrev TEX := St -> Hp -> VK -> XK -> Prop
abbrev TSX := zm2 -> XK -> St -> Hp -> Prop
def XP (X : Cx) (CX : CXT) (pins : List (Addr × Obj)) (σ : St) (E : XK) (e : Value) (s' : Shared) : Prop := ∃ s1 H1, Inv X pins σ H1 s1 /\ CX X.stack H1 s1 E e s'
def PEX (X : Cx) (CX : CXT) (e : Expr) (t : TEX) : Prop :=
 ∀ (pins : List (Addr × Obj)) (s : Shared) (σ : St) (H : Hp) (Q : VK) (E : XK), Inv X pins σ H s -> t σ H Q E -> wpAny (model X.prog X.w) X.A (eval e X.env) (EP X pins σ Q) (XP X CX pins σ E) s
def PSX (X : Cx) (CX : CXT) (st : Stmt) (t : TSX) : Prop :=
 ∀ (pins : List (Addr × Obj)) (s : Shared) (σ : St) (H : Hp) (D : zm2) (E : XK), Inv X pins σ H s -> t D E σ H -> wpAny (model X.prog X.w) X.A (exec st X.env) (SP X pins D) (XP X CX pins σ E) s
def zwR (X : Cx) (CX : CXT) (st : List Stmt) (t : TSX) : Prop :=
 ∀ (pins : List (Addr × Obj)) (s : Shared) (σ : St) (H : Hp) (D : zm2) (E : XK), Inv X pins σ H s -> t D E σ H -> wpAny (model X.prog X.w) X.A (execs st X.env) (SP X pins D) (XP X CX pins σ E) s
section
variable {X : Cx} {CX : CXT} {k : Nat} {f : Addr} {fd : FuncData} {ps : List Str} {sp : Sp} {dvs : List V} {ds : List Value} {x : Str} {p pos : Pos} {e : Expr} {es : List Expr} {t : TA}
def zuv (sp : Sp) (dvs : List V) (t : TA) : TEX := fun σ H Q E => t σ H fun vs H1 => sp (vs ++ dvs) H1 Q E
theorem zpQ (F : zgj X.prog X.w X.K X.mg X.base CX k f fd ps sp) (hr : zeD k X.A) (hg : Gl X x) (hm : X.mg x = some (.ref f)) (hk : PySem.W.keepIn X.K (.ref f) = true) (hb : zgx X.K fd ps ds) (hd : zbi dvs ds)
  (ha : PA X.nox (e :: es) t) (hdb : (x == ("__debug__" : Str)) = false := by decide) (he : starEach (e :: es) X.env = (false, eval e X.env) :: starEach es X.env := by rfl) (hpl : (backTo pos (starEach es X.env)).any (·.1) = false := by rfl) :
  PEX X CX (.Call (.Name x p) (e :: es) [] pos) (zuv sp dvs t) := by
 intro pins s σ H Q E I h
 refine wpAny_Call_Name_kw (zfF I hg hm ?_ hdb)
 refine PySem.W.callWith_K (h₀ := X.base) I.ok.mod.kin hk (wpAny_mono (ha pos pins s σ H _ (I.wish _) h) (fun us s1 ⟨vs, H1, I1', r, q⟩ => ?_) fun _ _ z => False.elim z) he hpl
 have I1 : Inv X pins σ H1 s1 := I1'.unwish
 refine ⟨I1.kIn, ?_⟩
 have r2 : zbi (vs ++ dvs) (us ++ ds) := r.append hd
 have hl : (us ++ ds).length = ps.length := by rw [<- r2.length]; exact F.len _ _ _ _ q
 refine wpAny_call (codeAny_mono (F.run X.A X.stack s1 H1 ⟨us, []⟩ (us ++ ds) (vs ++ dvs) Q E hr I1.env0 (hb s1 us I1.kIn hl) r2 q) fun r s' hq => ?_)
 cases r with
 | error e => exact ⟨s1, H1, I1, hq⟩
 | ok fl =>
  cases fl with
  | ret u => exact I1.after hq
  | next => exact False.elim hq
  | brk => exact False.elim hq
  | cont => exact False.elim hq
def zwS (t : TEX) : TSX := fun D E σ H => t σ H (fun _ H1 => D.nx σ H1) E
theorem zpR {te : TEX} (he : PEX X CX e te) (hs : swapsWith e none pos.line X.env = pure false := by rfl) : PSX X CX (.Expr e pos) (zwS te) := by
 intro pins s σ H D E I h
 exact wpAny_Expr_any (thn (he pins s σ H _ E I h) fun v s1 ⟨y, H1, I1, r1, q1⟩ => ⟨σ, H1, I1, q1⟩) I.quiet hs
theorem zpS {st : Stmt} {ts : TSX} (h1 : PSX X CX st ts) : zwR X CX [st] ts := by
 intro pins s σ H D E I h
 refine wpAny_execs_cons (thn (h1 pins s σ H D E I h) fun fl s1 q => ?_)
 cases fl with
 | next => exact wpAny_execs_nil q
 | ret v => exact q
 | brk => exact q
 | cont => exact q
end
theorem Inv.gone {X : Cx} {pins : List (Addr × Obj)} {σ : St} {H : Hp} {s : Shared} {h' : Heap} {m : Str -> Option Value} {n : Str} {v : Option Value} {i : Nat} {tk : Nat} (I : Inv X pins σ H s) (hN : X.N.Nodup) (hi : X.N[i]? = some n)
  (hm : ∀ (j : Nat) (y : Str) (v : V), X.N[j]? = some y -> σ[j]? = some (some v) -> Vis X.env.scope y -> ∃ u, zbg v u /\ Look X.env s.heap m y u) (hn : h'.Ns X.env.locals (fun y => if y = n then v else m y)) (hs : Heap.SameBut X.env.locals s.heap h') :
  Inv X pins (σ.set i none) H { s with heap := h', toks := tk } := by
 have neL : ∀ b o, X.s₀.heap.get? b = some o -> b ≠ X.env.locals := fun b o e => xan (xai (xab e) I.ok.above)
 have hiσ : i < σ.length := by rw [I.len]; exact (xah.mp hi).1
 refine ⟨I.ok, I.os, I.bare, ⟨fun b o e nn hb hx => (hs.2 b (neL b o e)).trans (I.base.keep b o e nn hb hx), fun b o e nn hb hx => ?_, I.base.free, fun b o e hx => ?_, I.base.tups, I.base.frzs, I.base.tbls⟩, ⟨_, hn, fun j y v' e1 e2 e3 => ?_⟩, fun y c e => ?_, I.free, I.freeC, fun p hp => ?_, fun b ob e => ?_, by simpa using I.len⟩
 ·obtain ⟨sl, e1⟩ := I.base.slot b o e nn hb hx
  exact ⟨sl, (hs.2 b (neL b o e)).trans e1⟩
 ·obtain ⟨o', e1⟩ := I.base.there b o e hx
  exact ⟨o', (hs.2 b (neL b o e)).trans e1⟩
 ·have hj : j ≠ i := fun z => by rw [z, xa4 hiσ] at e2; cases e2
  rw [xam (xay hj)] at e2
  obtain ⟨u, r, l⟩ := hm j y v' e1 e2 e3
  refine ⟨u, r, ?_⟩
  rcases l with ⟨k, e⟩ | ⟨k, c, e, z⟩
  ·have ny : y ≠ n := fun z => hj (zii hN e1 (z ▸ hi))
   exact .inl ⟨k, by simp [ny, e]⟩
  ·exact .inr ⟨k, c, e, z.sameBut hs (I.cne y c e)⟩
 ·obtain ⟨w', z⟩ := I.cell y c e
  exact ⟨w', z.sameBut hs (I.cne y c e)⟩
 ·obtain ⟨e, nn, ne, nf, d⟩ := I.pin p hp
  exact ⟨(hs.2 p.1 ne).trans e, nn, ne, nf, d⟩
 ·refine (I.hok b ob e).stay (fun c w' hc q => (hs.2 c ?_).trans q) (fun _ q => q) fun _ _ q => q
  rintro rfl
  rcases hc with z | z
  ·rw [<- z, I.free] at e; cases e
  ·rw [I.free] at z; cases z
def hdl (X : Cx) (x : Addr) : Cx := { X with A := X.A.mark (some (.ref x)), calm := false, xe := fun _ _ => False }
section
variable {X : Cx} {pins : List (Addr × Obj)} {σ : St} {H : Hp} {s : Shared} {x : Addr}
theorem Inv.hdl (I : Inv X pins σ H s) (x : Addr) : Inv (hdl X x) pins σ H s :=
 ⟨⟨I.ok.mod, I.ok.kind, I.ok.glob, I.ok.blt, I.ok.above, I.ok.inj, I.ok.has, I.ok.cab, fun z => absurd z (by show ¬ (false = true); decide), I.ok.frames, I.ok.stk, I.ok.exf, I.ok.bs, I.ok.bsz, I.ok.noex, I.ok.exfs, I.ok.funs, I.ok.frf⟩, I.os, I.bare, I.base, I.loc, I.cell, I.free, I.freeC, I.pin, I.hok, I.len⟩
theorem Inv.unhdl (I : Inv (L2.hdl X x) pins σ H s) (ok : X.Ok) : Inv X pins σ H s := ⟨ok, I.os, I.bare, I.base, I.loc, I.cell, I.free, I.freeC, I.pin, I.hok, I.len⟩
end
def tTry (K : xFg) (Dc : Addr) (i : Nat) (tb : TSX) (th : TS) : TS := fun D σ H => ∃ E : XK, tb D E σ H /\ ∀ (C : Addr) (dct : Option Addr) (H' : Hp) (x : Addr), E (.ref C) dct H' -> H' x = none ->
 PySem.W.exmOne K (.ref C) (.ref Dc) = some true /\ th { nx := fun σ' H'' => D.nx (σ'.set i none) H'', rt := fun _ _ => False } (σ.set i (some (.ref x))) (upd H' x (zkX x C dct))
theorem zuw {X : Cx} {body : List Stmt} {c n : Str} {np hpos pos : Pos} {b0 : Stmt} {suite : List Stmt} {tb : TSX} {th : TS} {i : Nat} {Dc : Addr} (hst : X.stack = X.env :: X.outer) (hf : X.env.frame = some X.env.locals)
  (hN : X.N.Nodup) (hi : X.N[i]? = some n) (hn : X.env.scope.names.lookup n = some .local) (hg : Gl X c) (hm : X.mg c = some (.ref Dc)) (hb : zwR X (CXe X.prog X.w) body tb) (hh : ∀ x, PSs (hdl X x) (b0 :: suite) th)
  (hdb : (c == ("__debug__" : Str)) = false := by decide) : PS X (.Try body [.ExceptHandler (some (.Name c np)) (some n) (b0 :: suite) hpos] [] [] pos) (tTry X.K Dc i tb th) := by
 intro pins s σ H D I h
 obtain ⟨Ex, hbody, hhand⟩ := h
 refine wpAny_Try_except (wpAny_mono (hb pins s σ H D Ex I hbody) (fun fl s1 q => ?_) (fun e s1 q => ?_))
 ·cases fl with
  | next => exact wpAny_execs_nil q
  | ret v => exact q
  | brk => exact q
  | cont => exact q
 obtain ⟨s2, H2, I2, x, C, dct, H', B, rfl, ho, hg', un, hok, F, ib, nx, hE⟩ := q
 obtain ⟨hx, hth⟩ := hhand C dct H' x hE nx
 have hfr : X.A.frames = some (X.env :: X.outer) := by rw [<- hst]; exact I.ok.frames
 have F' : Fly B (X.env :: X.outer) x (.ref C) dct .none s1.heap := by rw [<- hst]; exact F
 refine zkW hfr hf F' fun h1 F1 u1 => zeT F1 fun h2 F2 u2 => ?_
 have I3 := zhN (tk := s1.toks) I2 ho hg' un hok (hst ▸ F2) ib (u1.trans u2) nx
 refine wpAny_handleBy_cons (codeAny_handlers_test ?_) (by intro z; cases z)
 refine zfF (X := hdl X x) (I3.hdl x) hg hm ?_ hdb
 obtain ⟨ox, vs, T, oT, ts, ex, hcl, _⟩ := F2.obj
 have LT : PySem.W.Looks (model X.prog X.w) h2 (typeOf (.ref x)) (.ref C) := hcl ▸ (PySem.W.Looks.ld ex).andThen .now
 refine (PySem.W.exm_one (M := model X.prog X.w) I3.kIn LT hx) _ _ _ _ (fun _ _ e => e) ?_
 refine codeAny_handlers_suite_as ?_
 refine zeT F2 fun h3 F3 u3 => ?_
 have I4 := zhN (tk := s1.toks) I2 ho hg' un hok (hst ▸ F3) ib (u1.trans (u2.trans u3)) nx
 refine zeb (X := hdl X x) (v := .ref x) (I4.hdl x) hN hi (.inl hn) rfl (fun s5 I5 => ?_) (.inr hn)
 refine wpAny_mono (hh x pins s5 _ _ _ I5 hth) (fun fl s6 q6 => ?_) fun _ _ z => False.elim z
 cases fl with
 | ret v => obtain ⟨_, _, _, _, _, z⟩ := q6; exact False.elim z
 | brk => obtain ⟨_, _, _, z⟩ := q6; exact False.elim z
 | cont => obtain ⟨_, _, _, z⟩ := q6; exact False.elim z
 | next =>
  obtain ⟨σ6, H6, I6, q⟩ := q6
  have I7 : Inv X pins σ6 H6 s6 := I6.unhdl I.ok
  obtain ⟨m, hnm, hl⟩ := I7.loc
  have hp : (X.env.scope.kind == .class || (X.env.scope.kind == .module && X.env.locals != X.env.globals)) = false := by rw [I.ok.kind]; rfl
  exact wpAny_nameGoes_keeps hn hnm hp fun h' v hn' hs' => ⟨_, H6, I7.gone hN hi hl hn' hs', q⟩
theorem zjb {X : Cx} : zcK X (.builtin "isinstance") (fun xs H Q => ∃ (a C : Addr) (c : V) (cv : Value) (b : Bool), xs = [.ref a, c] /\ H a = some (zkX a C none) /\ ((∃ D, c = .ref D /\ cv = .ref D) \/ ∃ T, c = .ty T /\ cv = .type T) /\ zpu X.K C /\ PySem.W.kitOne X.K (.ref C) cv = some b /\ Q (.bl b) H) := by
 intro pins s σ H xs us Q I r h
 obtain ⟨a, C, c, cv, b, rfl, ha, hc, ec, hk, q⟩ := h
 obtain ⟨u, w', rfl, ru, rw'⟩ := znf r
 obtain rfl : u = Value.ref a := ru
 have e : w' = cv := by
  rcases hc with ⟨D, rfl, rfl⟩ | ⟨T, rfl, rfl⟩
  ·exact rw'
  ·exact rw'
 subst e
 obtain ⟨⟨o, e1, e2, e3, e4⟩, _, _⟩ := I.hok a _ ha
 have hI : PySem.W.InstAt s.heap a o C none := ⟨e1, e2, e4, by rw [e3]; trivial⟩
 exact PySem.W.kia_one (ziq ec) I.kIn ⟨o, none, hI⟩ hk (fun z => nomatch z) fun tk => ⟨.bl b, H, I.tok tk, rfl, q⟩
end L2
namespace L2
open PySem.Spec PyProof.Rows
section
variable {X : Cx}
theorem znx (bs : List Bool) : (List.range bs.length).all (fun i => bs.getD i false) = bs.all id := by
 rw [xcn]
 simp only [xa1, xa7, id]
 constructor
 ·intro h b hb
  obtain ⟨i, hi, rfl⟩ := List.mem_iff_getElem.mp hb
  have q := h i hi
  simpa [List.getD, hi] using q
 ·intro h i hi
  have q := h _ (xb6 hi)
  simpa [List.getD, hi] using q
theorem zpT {bs : List Bool} {its : List Value} (r : zbi (bs.map V.bl) its) {i : Nat} {v : Value} (h : its.toArray[i]? = some v) : v = .bool (bs.getD i false) := by
 have hl := r.length
 rw [xad] at hl
 have hi : i < bs.length := by
  rw [hl]
  have : its[i]? = some v := by simpa using h
  exact (xah.mp this).1
 obtain ⟨u, hu, ru⟩ := r.get (i := i) (x := .bl bs[i]) (by simp [hi])
 have e : its[i]? = some v := by simpa using h
 rw [hu] at e
 cases e
 rw [show v = .bool bs[i] from ru]
 simp [List.getD, hi]
theorem zpU (hc : X.calm = true) : zcK X (.builtin "all") (fun xs H Q => ∃ (p : Addr) (bs : List Bool), xs = [.ref p] /\ SqL X.K H p (bs.map V.bl) /\ Q (.bl (bs.all id)) H) := by
 intro pins s σ H xs us Q I r h
 obtain ⟨p, bs, rfl, hq, q⟩ := h
 obtain ⟨u, rfl, e⟩ := ziS r
 cases e
 obtain ⟨its, rv, pl, hz⟩ := I.list hq
 have hl : its.toArray.size = bs.length := by rw [xak, <- rv.length, xad]
 have hlt : p < s.heap.objs.size := by obtain ⟨o, e, _⟩ := pl.isList; exact xab e
 refine call_all_walk (wpAny_pyIter_list pl.isList ⟨_, _, _, _, _, _, fun i => bs.getD i false, rfl, Walks.list (A := X.A.in1) (I.ok.hd hc) s.heap.objs.size p (xan hlt) its.toArray, ⟨⟨_, xav _ rfl, rfl, rfl⟩, pl.isList.push _⟩, fun i v s' Q' E' hv hQ => ?_, fun h' tk k => ?_⟩)
 ·rw [zpT rv hv]; exact wpAny_truthy_bool hQ
 ·refine ⟨.bl (bs.all id), H, I.kept fun b o e => k b o (fun z => xan (xab e) (by simpa using z)) (xaa _ e), ?_, q⟩
  rw [hl, znx]; rfl
end
end L2
namespace Mth
def zaJ (x y z : Int) : Int := if z ≠ 0 then z else if y ≠ 0 then y else x
def g3 (x y z : Int) : Nat := Nat.gcd (Nat.gcd x.natAbs y.natAbs) z.natAbs
def zdW (x y z : Int) : Int := if zaJ x y z < 0 then 0 - ((g3 x y z : Nat) : Int) else ((g3 x y z : Nat) : Int)
abbrev NZ (x y z : Int) : Prop := ¬ (x = 0 /\ y = 0 /\ z = 0)
theorem zct {x y z : Int} (h : NZ x y z) : zim (zdW x y z) x y z (x.fdiv (zdW x y z)) (y.fdiv (zdW x y z)) (z.fdiv (zdW x y z)) := by
 obtain ⟨x', y', z', p⟩ := zmu x y z h
 have key : ∃ x' y' z', zim (zdW x y z) x y z x' y' z' := by
  unfold zdW
  by_cases c : zaJ x y z < 0
  ·rw [if_pos c]; exact ⟨-x', -y', -z', p.neg⟩
  ·rw [if_neg c]; exact ⟨x', y', z', p⟩
 obtain ⟨x', y', z', p⟩ := key
 rw [zin p.ne p.x, zin p.ne p.y, zin p.ne p.z]
 exact p
theorem zim.nz {s x y z x' y' z' : Int} (p : zim s x y z x' y' z') (h : NZ x y z) : NZ x' y' z' := fun q => h (by rw [p.x, p.y, p.z, q.1, q.2.1, q.2.2]; simp)
theorem zwT {x y z : Int} (h : NZ x y z) : g3 x y z ≠ 0 := by
 unfold g3
 intro e
 have e1 := Nat.eq_zero_of_gcd_eq_zero_left e
 have e2 := Nat.eq_zero_of_gcd_eq_zero_right e
 have e3 := Nat.eq_zero_of_gcd_eq_zero_left e1
 have e4 := Nat.eq_zero_of_gcd_eq_zero_right e1
 exact h ⟨by omega, by omega, by omega⟩
theorem zkY (x y z : Int) : (zdW x y z).natAbs = g3 x y z := by
 unfold zdW
 split <;> omega
theorem zny (s x y z : Int) : g3 (s * x) (s * y) (s * z) = s.natAbs * g3 x y z := by
 unfold g3
 rw [xcr, xcr, xcr, Nat.gcd_mul_left, Nat.gcd_mul_left]
theorem zmw {s : Int} (hs : s ≠ 0) (x y z : Int) : zaJ (s * x) (s * y) (s * z) = s * zaJ x y z := by
 unfold zaJ
 by_cases hz : z = 0
 ·subst hz
  by_cases hy : y = 0
  ·subst hy; simp
  ·have : s * y ≠ 0 := fun e => by rcases xa2.mp e with q | q <;> contradiction
   simp [hy, this]
 ·have : s * z ≠ 0 := fun e => by rcases xa2.mp e with q | q <;> contradiction
  simp [hz, this]
theorem zjc {x y z : Int} (h : NZ x y z) : zaJ x y z ≠ 0 := by
 unfold zaJ
 by_cases hz : z = 0
 ·by_cases hy : y = 0
  ·have : x ≠ 0 := fun e => h ⟨e, hy, hz⟩
   simp [hz, hy, this]
  ·simp [hz, hy]
 ·simp [hz]
theorem zpV {x y z x' y' z' : Int} (h : NZ x y z) (p : zim (zdW x y z) x y z x' y' z') : zdW x' y' z' = 1 := by
 have hg : g3 x y z = (zdW x y z).natAbs * g3 x' y' z' := by
  have e := zny (zdW x y z) x' y' z'
  rw [<- p.x, <- p.y, <- p.z] at e
  exact e
 rw [zkY] at hg
 have n0 := zwT h
 have g1 : g3 x' y' z' = 1 := by
  have : g3 x y z * 1 = g3 x y z * g3 x' y' z' := by rw [Nat.mul_one]; exact hg
  exact (Nat.eq_of_mul_eq_mul_left (Nat.pos_of_ne_zero n0) this).symm
 have hl : zaJ x y z = zdW x y z * zaJ x' y' z' := by
  have e := zmw p.ne x' y' z'
  rw [<- p.x, <- p.y, <- p.z] at e
  exact e
 have ln := zjc (p.nz h)
 have lp : 0 < zaJ x' y' z' := by
  by_cases c : zaJ x y z < 0
  ·have es : zdW x y z < 0 := by unfold zdW; rw [if_pos c]; omega
   rcases (show 0 < zaJ x' y' z' \/ zaJ x' y' z' <= 0 by omega) with q | q
   ·exact q
   ·have q' : zaJ x' y' z' < 0 := by omega
    have := Int.mul_pos_of_neg_of_neg es q'
    rw [<- hl] at this; omega
  ·have es : 0 < zdW x y z := by unfold zdW; rw [if_neg c]; omega
   rcases (show 0 < zaJ x' y' z' \/ zaJ x' y' z' <= 0 by omega) with q | q
   ·exact q
   ·have q' : zaJ x' y' z' < 0 := by omega
    have := Int.mul_neg_of_pos_of_neg es q'
    rw [<- hl] at this; omega
 unfold zdW
 rw [if_neg (by omega), g1]; rfl
theorem zed (x : Int) : x.fdiv 1 = x := by
 rw [Int.fdiv_eq_ediv_of_nonneg _ (by decide)]; exact Int.ediv_one x
theorem zwU {x y z : Int} {B : Nat} (hx : x.natAbs <= B) (hy : y.natAbs <= B) (hz : z.natAbs <= B) : g3 x y z <= B := zgC (zgC hx hy) hz
theorem zsD {x y z : Int} {B : Nat} (hx : x.natAbs <= B) (hy : y.natAbs <= B) (hz : z.natAbs <= B) : (zdW x y z).natAbs <= B := by rw [zkY]; exact zwU hx hy hz
end Mth
namespace Mth
abbrev P3 := Int × Int × Int
def dot (p q : P3) : Int := p.1 * q.1 + p.2.1 * q.2.1 + p.2.2 * q.2.2
def crs (p q : P3) : P3 := (p.2.1 * q.2.2 - p.2.2 * q.2.1, p.2.2 * q.1 - p.1 * q.2.2, p.1 * q.2.1 - p.2.1 * q.1)
abbrev Nz (p : P3) : Prop := NZ p.1 p.2.1 p.2.2
abbrev sOf (p : P3) : Int := zdW p.1 p.2.1 p.2.2
def low (p : P3) : P3 := (p.1.fdiv (sOf p), p.2.1.fdiv (sOf p), p.2.2.fdiv (sOf p))
structure Nrm (p : P3) : Prop where
 nz : Nz p
 one : sOf p = 1
theorem zcL {p : P3} (h : Nz p) : sOf p ≠ 0 /\ p.1 = sOf p * (low p).1 /\ p.2.1 = sOf p * (low p).2.1 /\ p.2.2 = sOf p * (low p).2.2 :=
 ⟨(zct h).ne, (zct h).x, (zct h).y, (zct h).z⟩
theorem zbk {p : P3} (h : Nz p) : Nrm (low p) := ⟨(zct h).nz h, zpV h (zct h)⟩
theorem Nrm.low {p : P3} (h : Nrm p) : Mth.low p = p := by
 unfold Mth.low; rw [h.one, zed, zed, zed]
theorem zir {p q : P3} (h : Nz q) : dot p (low q) = 0 ↔ dot p q = 0 := by
 obtain ⟨h0, h1, h2, h3⟩ := zcL h
 have e : dot p q = sOf q * dot p (low q) := by unfold dot; grind
 rw [e, xa2]
 exact ⟨.inr, fun z => z.resolve_left h0⟩
theorem zsE {p : P3} (h : Nz p) : (low p).1.natAbs <= p.1.natAbs /\ (low p).2.1.natAbs <= p.2.1.natAbs /\ (low p).2.2.natAbs <= p.2.2.natAbs := by
 obtain ⟨h0, h1, h2, h3⟩ := zcL h
 exact ⟨zeS h0 h1, zeS h0 h2, zeS h0 h3⟩
theorem Nrm.last {p : P3} (h : Nrm p) : 0 < zaJ p.1 p.2.1 p.2.2 /\ g3 p.1 p.2.1 p.2.2 = 1 := by
 have h1 := h.one
 have h2 := zjc h.nz
 unfold sOf zdW at h1
 split at h1 <;> constructor <;> omega
theorem zmx {p q : P3} (hp : Nz p) (hq : Nz q) (h : crs p q = (0, 0, 0)) :
  zaJ q.1 q.2.1 q.2.2 * p.1 = zaJ p.1 p.2.1 p.2.2 * q.1 /\ zaJ q.1 q.2.1 q.2.2 * p.2.1 = zaJ p.1 p.2.1 p.2.2 * q.2.1 /\ zaJ q.1 q.2.1 q.2.2 * p.2.2 = zaJ p.1 p.2.1 p.2.2 * q.2.2 := by
 obtain ⟨a, b, c⟩ := p
 obtain ⟨x, y, z⟩ := q
 simp only [crs, Prod.mk.injEq] at h
 obtain ⟨h1, h2, h3⟩ := h
 simp only [Nz, NZ] at hp hq
 unfold zaJ
 simp only
 by_cases hc : c = 0
 ·subst hc
  by_cases hz : z = 0
  ·subst hz
   by_cases hb : b = 0
   ·subst hb
    by_cases hy : y = 0
    ·subst hy; grind
    ·have : a = 0 := by
      have := h3
      simp at this
      exact (xa2.mp this).resolve_right hy
     exact absurd ⟨this, rfl, rfl⟩ hp
   ·by_cases hy : y = 0
    ·subst hy
     have : x = 0 := by
      have := h3
      simp at this
      exact (xa2.mp this).resolve_left hb
     exact absurd ⟨this, rfl, rfl⟩ hq
    ·simp only [ne_eq, not_true_eq_false, if_false, hb, hy, not_false_eq_true, if_true]
     grind
  ·have hb : b = 0 := by
    have := h1
    simp at this
    exact (xa2.mp this).resolve_right hz
   have ha : a = 0 := by
    have := h2
    simp at this
    exact (xa2.mp this).resolve_right hz
   exact absurd ⟨ha, hb, rfl⟩ hp
 ·by_cases hz : z = 0
  ·subst hz
   have hy : y = 0 := by
    have := h1
    simp at this
    exact (xa2.mp this).resolve_left hc
   have hx : x = 0 := by
    have := h2
    simp at this
    exact (xa2.mp this).resolve_left hc
   exact absurd ⟨hx, hy, rfl⟩ hq
  ·simp only [ne_eq, hc, hz, not_false_eq_true, if_true]
   grind
theorem zeU {p q : P3} (hp : Nrm p) (hq : Nrm q) (h : p ≠ q) : Nz (crs p q) := by
 intro hz
 apply h
 obtain ⟨e1, e2, e3⟩ := zmx hp.nz hq.nz (xap hz.1 (xap hz.2.1 hz.2.2))
 obtain ⟨sp, gp⟩ := hp.last
 obtain ⟨sq, gq⟩ := hq.last
 have g1 := zny (zaJ q.1 q.2.1 q.2.2) p.1 p.2.1 p.2.2
 have g2 := zny (zaJ p.1 p.2.1 p.2.2) q.1 q.2.1 q.2.2
 rw [e1, e2, e3, g2, gp, gq] at g1
 have e : zaJ q.1 q.2.1 q.2.2 = zaJ p.1 p.2.1 p.2.2 := by omega
 rw [e] at e1 e2 e3
 have ne : zaJ p.1 p.2.1 p.2.2 ≠ 0 := by omega
 exact xap (xco ne e1) (xap (xco ne e2) (xco ne e3))
def Col (ps : List P3) : Prop := ∀ p ∈ ps, ∀ q ∈ ps, ∀ r ∈ ps, dot p (crs q r) = 0
theorem zsF {L p q r : P3} (hL : Nz L) (hp : dot p L = 0) (hq : dot q L = 0) (hr : dot r L = 0) : dot p (crs q r) = 0 := by
 have e1 : dot p (crs q r) * L.1 = 0 := by unfold dot crs at *; grind
 have e2 : dot p (crs q r) * L.2.1 = 0 := by unfold dot crs at *; grind
 have e3 : dot p (crs q r) * L.2.2 = 0 := by unfold dot crs at *; grind
 by_cases h : dot p (crs q r) = 0
 ·exact h
 ·exact absurd ⟨(xa2.mp e1).resolve_left h, (xa2.mp e2).resolve_left h, (xa2.mp e3).resolve_left h⟩ hL
theorem Col.iff {ps : List P3} {p0 o : P3} (h0 : p0 ∈ ps) (ho : o ∈ ps) (hL : Nz (crs p0 o)) : Col ps ↔ ∀ p ∈ ps, dot p (crs p0 o) = 0 :=
 ⟨fun c p hp => c p hp p0 h0 o ho, fun c p hp q hq r hr => zsF hL (c p hp) (c q hq) (c r hr)⟩
theorem Col.same {ps : List P3} {p0 : P3} (h : ∀ p ∈ ps, p = p0) : Col ps := fun p hp q hq r hr => by
 rw [h p hp, h q hq, h r hr]; unfold dot crs; grind
end Mth
namespace Mth
abbrev M3 := P3 × P3 × P3
def mul (m : M3) (p : P3) : P3 := (dot m.1 p, dot m.2.1 p, dot m.2.2 p)
def det (m : M3) : Int := dot m.1 (crs m.2.1 m.2.2)
theorem zwV (m : M3) (p : P3) : det m * p.1 = dot m.1 p * (crs m.2.1 m.2.2).1 + dot m.2.1 p * (crs m.2.2 m.1).1 + dot m.2.2 p * (crs m.1 m.2.1).1 := by unfold det dot crs; grind
theorem zwW (m : M3) (p : P3) : det m * p.2.1 = dot m.1 p * (crs m.2.1 m.2.2).2.1 + dot m.2.1 p * (crs m.2.2 m.1).2.1 + dot m.2.2 p * (crs m.1 m.2.1).2.1 := by unfold det dot crs; grind
theorem zwX (m : M3) (p : P3) : det m * p.2.2 = dot m.1 p * (crs m.2.1 m.2.2).2.2 + dot m.2.1 p * (crs m.2.2 m.1).2.2 + dot m.2.2 p * (crs m.1 m.2.1).2.2 := by unfold det dot crs; grind
theorem zaQ {a b : Int} (h : a ≠ 0) (e : a * b = 0) : b = 0 := (xa2.mp e).resolve_left h
theorem zqW {m : M3} {p : P3} (h : det m ≠ 0) (hp : Nz p) : Nz (mul m p) := by
 rintro ⟨h1, h2, h3⟩
 have h1 : dot m.1 p = 0 := h1
 have h2 : dot m.2.1 p = 0 := h2
 have h3 : dot m.2.2 p = 0 := h3
 exact hp ⟨zaQ h (by rw [zwV, h1, h2, h3]; simp), zaQ h (by rw [zwW, h1, h2, h3]; simp), zaQ h (by rw [zwX, h1, h2, h3]; simp)⟩
def tms (s : Int) (p : P3) : P3 := (s * p.1, s * p.2.1, s * p.2.2)
theorem zdl {p : P3} (h : Nz p) : p = tms (sOf p) (low p) := by
 obtain ⟨_, h1, h2, h3⟩ := zcL h
 exact xap h1 (xap h2 h3)
theorem zkm (s t : Int) (p q : P3) : crs (tms s p) (tms t q) = tms (s * t) (crs p q) := by
 unfold crs tms; exact xap (by grind) (xap (by grind) (by grind))
theorem zcM {s : Int} {p : P3} (hs : s ≠ 0) (h : tms s p = (0, 0, 0)) : p = (0, 0, 0) := by
 unfold tms at h
 simp only [Prod.mk.injEq] at h
 exact xap (zaQ hs h.1) (xap (zaQ hs h.2.1) (zaQ hs h.2.2))
theorem zga {p : P3} (h : Nz p) : p ≠ (0, 0, 0) := fun e => h (by rw [e]; exact ⟨rfl, rfl, rfl⟩)
theorem zmy {p : P3} (h : p ≠ (0, 0, 0)) : Nz p := fun ⟨a, b, c⟩ => h (xap a (xap b c))
theorem zqX {s : Int} {p : P3} (hs : s ≠ 0) (h : Nz p) : Nz (tms s p) := zmy fun e => zga h (zcM hs e)
theorem zbD {a b : Int} (ha : a ≠ 0) (hb : b ≠ 0) : a * b ≠ 0 := fun e => by rcases xa2.mp e with q | q <;> contradiction
theorem zkn {u v : P3} (hu : Nz u) (hv : Nz v) (h : crs u v = (0, 0, 0)) : low u = low v := by
 refine xba fun hne => ?_
 have hz := zeU (zbk hu) (zbk hv) hne
 have e := h
 rw [zdl hu, zdl hv, zkm] at e
 exact zga hz (zcM (zbD (zcL hu).1 (zcL hv).1) e)
theorem znz {u v : P3} (hu : Nz u) (hv : Nz v) (h : low u = low v) : crs u v = (0, 0, 0) := by
 rw [zdl hu, zdl hv, zkm, h]
 unfold tms crs
 exact xap (by grind) (xap (by grind) (by grind))
theorem zhO {s : Int} {p : P3} (hs : s ≠ 0) (h : Nz p) : low (tms s p) = low p := zkn (zqX hs h) h (by unfold crs tms; exact xap (by grind) (xap (by grind) (by grind)))
end Mth
namespace Mth
def zsG (ns : List Int) : Nat := ns.foldl (fun g n => Nat.gcd g n.natAbs) 0
def zaK : List Int -> Int
 | [] => 0
 | n :: ns => if n = 0 then zaK ns else n
def zej (ns : List Int) : Int := if zaK ns < 0 then -((zsG ns : Nat) : Int) else ((zsG ns : Nat) : Int)
def ztJ (ns : List Int) : List Int := ns.map fun n => n.fdiv (zej ns)
theorem zjd : ∀ (ns : List Int) (g : Nat), (ns.foldl (fun g n => Nat.gcd g n.natAbs) g ∣ g) /\ ∀ n ∈ ns, ns.foldl (fun g n => Nat.gcd g n.natAbs) g ∣ n.natAbs
 | [], g => ⟨Nat.dvd_refl _, fun n h => by cases h⟩
 | m :: ns, g => by
  obtain ⟨h1, h2⟩ := zjd ns (Nat.gcd g m.natAbs)
  refine ⟨Nat.dvd_trans h1 (xcz _ _), fun n hn => ?_⟩
  rcases xae.mp hn with rfl | hn
  ·exact Nat.dvd_trans h1 (Nat.gcd_dvd_right _ _)
  ·exact h2 n hn
theorem zgD {c : Int} (hc : c ≠ 0) : ∀ ns : List Int, zaK (ns.map (c * ·)) = c * zaK ns
 | [] => by simp [zaK]
 | n :: ns => by
  rw [xaz]
  unfold zaK
  by_cases h : n = 0
  ·subst h; simp [zgD hc ns]
  ·rw [if_neg h, if_neg (zbD hc h)]
theorem zeE : ∀ {ns : List Int}, zaK ns ≠ 0 -> zaK ns ∈ ns
 | [], h => absurd rfl h
 | n :: ns, h => by
  unfold zaK at h ⊢
  by_cases e : n = 0
  ·rw [if_pos e] at h ⊢; exact xaf _ (zeE h)
  ·rw [if_neg e]; exact xal
theorem zhP : ∀ {ns : List Int} {n : Int}, n ∈ ns -> n ≠ 0 -> zaK ns ≠ 0
 | m :: ns, n, h, hn => by
  unfold zaK
  by_cases e : m = 0
  ·rw [if_pos e]
   rcases xae.mp h with rfl | h
   ·exact absurd e hn
   ·exact zhP h hn
  ·rw [if_neg e]; exact e
theorem zis {ns : List Int} {n : Int} (h : n ∈ ns) : ((zsG ns : Nat) : Int) ∣ n := Int.ofNat_dvd_left.mpr ((zjd ns 0).2 n h)
theorem zsH {ns : List Int} (h : zaK ns ≠ 0) : zsG ns ≠ 0 := fun e => h (by
 have := zis (zeE h)
 rw [e] at this
 obtain ⟨k, hk⟩ := this
 rw [hk]; simp)
theorem zfG {ns : List Int} (h : zaK ns ≠ 0) : zej ns ≠ 0 := by
 have := zsH h
 unfold zej; split <;> omega
theorem zpW {ns : List Int} {n : Int} (h : n ∈ ns) : zej ns ∣ n := by
 unfold zej; split
 ·exact Int.neg_dvd.mpr (zis h)
 ·exact zis h
theorem zfH {ns : List Int} (h : zaK ns ≠ 0) {n : Int} (hn : n ∈ ns) : n = zej ns * n.fdiv (zej ns) := by
 obtain ⟨k, hk⟩ := zpW hn
 rw [zin (zfG h) hk]; exact hk
theorem zpX {ns : List Int} (h : zaK ns ≠ 0) {n : Int} (hn : n ∈ ns) : (n.fdiv (zej ns)).natAbs <= n.natAbs := zeS (zfG h) (zfH h hn)
theorem zkZ : ∀ (ns : List Int) (g : Nat) (k : Nat), g <= k -> (∀ n ∈ ns, n.natAbs <= k) -> ns.foldl (fun g n => Nat.gcd g n.natAbs) g <= k
 | [], g, k, hg, _ => hg
 | m :: ns, g, k, hg, h => zkZ ns _ k (zgC hg (h m xal)) fun n hn => h n (xaf _ hn)
theorem zsI {ns : List Int} {k : Nat} (h : ∀ n ∈ ns, n.natAbs <= k) : (zej ns).natAbs <= k := by
 have := zkZ ns 0 k (xci _) h
 unfold zej zsG; split <;> omega
end Mth
namespace Mth
theorem znA {s : Int} {p : P3} (h : Nz (tms s p)) : Nz p := zmy fun e => zga h (by rw [e]; unfold tms; simp)
theorem zb3 (p q : P3) : dot p q = dot q p := by unfold dot; grind
end Mth
namespace Mth
def zaf (x y z : P3) : Int := dot x (crs y z)
end Mth
namespace Mth
theorem zpY (p : P3) : crs p p = (0, 0, 0) := by unfold crs; exact xap (by grind) (xap (by grind) (by grind))
theorem zk0 (p q : P3) : dot p (crs p q) = 0 := by unfold dot crs; grind
end Mth
namespace Mth
def C3 (x y z : P3) : Prop := zaf x y z = 0
theorem zpZ (x y z : P3) : zaf y x z = - zaf x y z := by unfold zaf dot crs; grind
theorem zwY (x y z : P3) : zaf x z y = - zaf x y z := by unfold zaf dot crs; grind
theorem C3.s12 {x y z : P3} (h : C3 x y z) : C3 y x z := by unfold C3 at *; rw [zpZ, h]; rfl
theorem C3.s23 {x y z : P3} (h : C3 x y z) : C3 x z y := by unfold C3 at *; rw [zwY, h]; rfl
theorem C3.rot {x y z : P3} (h : C3 x y z) : C3 z x y := h.s23.s12
theorem C3.aab (x y : P3) : C3 x x y := by unfold C3 zaf dot crs; grind
theorem C3.aba (x y : P3) : C3 x y x := (C3.aab x y).s23
theorem C3.baa (x y : P3) : C3 y x x := (C3.aba x y).s12
end Mth
namespace Mth
abbrev P6 := P3 × P3
def qv (q : P6) (p : P3) : Int := q.1.1 * p.1 * p.1 + q.1.2.1 * p.2.1 * p.2.1 + q.1.2.2 * p.2.2 * p.2.2 + q.2.1 * p.1 * p.2.1 + q.2.2.1 * p.1 * p.2.2 + q.2.2.2 * p.2.1 * p.2.2
def bl (q : P6) (p r : P3) : Int := 2 * q.1.1 * p.1 * r.1 + 2 * q.1.2.1 * p.2.1 * r.2.1 + 2 * q.1.2.2 * p.2.2 * r.2.2 + q.2.1 * (p.1 * r.2.1 + p.2.1 * r.1) + q.2.2.1 * (p.1 * r.2.2 + p.2.2 * r.1) + q.2.2.2 * (p.2.1 * r.2.2 + p.2.2 * r.2.1)
def zar (q : P6) : List Int := [q.1.1, q.1.2.1, q.1.2.2, q.2.1, q.2.2.1, q.2.2.2]
def prd (l m : P3) : P6 := ((l.1 * m.1, l.2.1 * m.2.1, l.2.2 * m.2.2), (l.1 * m.2.1 + l.2.1 * m.1, l.1 * m.2.2 + l.2.2 * m.1, l.2.1 * m.2.2 + l.2.2 * m.2.1))
def comb (x y : Int) (q r : P6) : P6 := ((x * q.1.1 - y * r.1.1, x * q.1.2.1 - y * r.1.2.1, x * q.1.2.2 - y * r.1.2.2), (x * q.2.1 - y * r.2.1, x * q.2.2.1 - y * r.2.2.1, x * q.2.2.2 - y * r.2.2.2))
theorem zqY (l m p : P3) : qv (prd l m) p = dot l p * dot m p := by unfold qv prd dot; grind
theorem zsJ (x y : Int) (q r : P6) (p : P3) : qv (comb x y q r) p = x * qv q p - y * qv r p := by unfold qv comb; grind
theorem zqZ (q : P6) (s : Int) (p : P3) : qv q (tms s p) = s * s * qv q p := by unfold qv tms; grind
def zdm (x y z : Int) (a b c : P3) : P3 := (x * a.1 + y * b.1 + z * c.1, x * a.2.1 + y * b.2.1 + z * c.2.1, x * a.2.2 + y * b.2.2 + z * c.2.2)
theorem znB (q : P6) (x y z : Int) (a b c : P3) : qv q (zdm x y z a b c) = x * x * qv q a + y * y * qv q b + z * z * qv q c + x * y * bl q a b + x * z * bl q a c + y * z * bl q b c := by
 unfold qv bl zdm; grind
theorem zit (a b c p : P3) : zdm (zaf p b c) (zaf a p c) (zaf a b p) a b c = tms (zaf a b c) p := by
 unfold zdm tms zaf dot crs; exact xap (by grind) (xap (by grind) (by grind))
def mx (a b c p : P3) : P3 := (zaf p b c * zaf a p c, zaf p b c * zaf a b p, zaf a p c * zaf a b p)
def ub (q : P6) (a b c : P3) : P3 := (bl q a b, bl q a c, bl q b c)
theorem zp1 {q : P6} {a b c : P3} (ha : qv q a = 0) (hb : qv q b = 0) (hc : qv q c = 0) (p : P3) : zaf a b c * zaf a b c * qv q p = dot (mx a b c p) (ub q a b c) := by
 have e := znB q (zaf p b c) (zaf a p c) (zaf a b p) a b c
 rw [zit, zqZ, ha, hb, hc] at e
 rw [e]; unfold dot mx ub; grind
theorem zwZ (a b c d e : P3) : zaf d b c * zaf a e c - zaf a d c * zaf e b c = zaf a b c * zaf d e c := by
 unfold zaf dot crs; grind
def Nz6 (q : P6) : Prop := zaK (zar q) ≠ 0
theorem zsK {q : P6} (h : Nz6 q) : ∃ x ∈ zar q, x ≠ 0 := ⟨_, zeE h, h⟩
theorem zsL {q : P6} (h : ∀ p, qv q p = 0) : ∀ x ∈ zar q, x = 0 := by
 have a1 := h (1, 0, 0)
 have a2 := h (0, 1, 0)
 have a3 := h (0, 0, 1)
 have a4 := h (1, 1, 0)
 have a5 := h (1, 0, 1)
 have a6 := h (0, 1, 1)
 unfold qv at a1 a2 a3 a4 a5 a6
 simp only [xbw, Int.mul_one, Int.add_zero, Int.zero_add] at a1 a2 a3 a4 a5 a6
 intro x hx
 simp only [zar, xae, xaq, or_false] at hx
 rcases hx with rfl | rfl | rfl | rfl | rfl | rfl <;> omega
theorem zux {q : P6} {p : P3} (h : qv q p ≠ 0) : Nz6 q := fun e => by
 have z : ∀ x ∈ zar q, x = 0 := fun x hx => by
  refine xba fun hne => ?_
  exact zhP hx hne e
 have a1 := z q.1.1 (by simp [zar])
 have a2 := z q.1.2.1 (by simp [zar])
 have a3 := z q.1.2.2 (by simp [zar])
 have a4 := z q.2.1 (by simp [zar])
 have a5 := z q.2.2.1 (by simp [zar])
 have a6 := z q.2.2.2 (by simp [zar])
 exact h (by unfold qv; rw [a1, a2, a3, a4, a5, a6]; simp)
theorem zp2 {ns : List Int} (h : zaK ns ≠ 0) : ns = (ztJ ns).map (zej ns * ·) := by
 unfold ztJ
 rw [xb7]
 conv => lhs; rw [<- List.map_id ns]
 exact List.map_congr_left fun n hn => zfH h hn
theorem zsM {ns : List Int} (h : zaK ns ≠ 0) : zaK (ztJ ns) ≠ 0 := fun e => by
 have e2 := zgD (zfG h) (ztJ ns)
 rw [<- zp2 h, e, xbw] at e2
 exact h e2
def zgE (q : P6) : P6 := ((q.1.1.fdiv (zej (zar q)), q.1.2.1.fdiv (zej (zar q)), q.1.2.2.fdiv (zej (zar q))), (q.2.1.fdiv (zej (zar q)), q.2.2.1.fdiv (zej (zar q)), q.2.2.2.fdiv (zej (zar q))))
theorem zje (q : P6) : zar (zgE q) = ztJ (zar q) := rfl
theorem zq0 {q : P6} (h : Nz6 q) (p : P3) : qv q p = zej (zar q) * qv (zgE q) p := by
 have m : ∀ x ∈ zar q, x = zej (zar q) * x.fdiv (zej (zar q)) := fun x hx => zfH h hx
 have a1 := m q.1.1 (by simp [zar])
 have a2 := m q.1.2.1 (by simp [zar])
 have a3 := m q.1.2.2 (by simp [zar])
 have a4 := m q.2.1 (by simp [zar])
 have a5 := m q.2.2.1 (by simp [zar])
 have a6 := m q.2.2.2 (by simp [zar])
 have e : qv q p = qv ((zej (zar q) * (zgE q).1.1, zej (zar q) * (zgE q).1.2.1, zej (zar q) * (zgE q).1.2.2), (zej (zar q) * (zgE q).2.1, zej (zar q) * (zgE q).2.2.1, zej (zar q) * (zgE q).2.2.2)) p := by
  congr 1
  exact xap (xap a1 (xap a2 a3)) (xap a4 (xap a5 a6))
 rw [e]
 generalize zej (zar q) = s
 generalize zgE q = r
 unfold qv; grind
theorem zbW {q : P6} (h : Nz6 q) {p : P3} : qv (zgE q) p = 0 ↔ qv q p = 0 := by
 rw [zq0 h p]
 constructor
 ·intro e; rw [e, xbw]
 ·intro e; exact zaQ (zfG h) e
def zeV (a b c d e : P3) : P6 := comb (dot (low (crs a c)) e * dot (low (crs b d)) e) (dot (low (crs a b)) e * dot (low (crs c d)) e) (prd (low (crs a b)) (low (crs c d))) (prd (low (crs a c)) (low (crs b d)))
theorem znC (a b c d e p : P3) : qv (zeV a b c d e) p = dot (low (crs a c)) e * dot (low (crs b d)) e * (dot (low (crs a b)) p * dot (low (crs c d)) p) - dot (low (crs a b)) e * dot (low (crs c d)) e * (dot (low (crs a c)) p * dot (low (crs b d)) p) := by
 unfold zeV; rw [zsJ, zqY, zqY]
structure G5 (a b c d e : P3) : Prop where
 abc : ¬ C3 a b c
 abd : ¬ C3 a b d
 abe : ¬ C3 a b e
 acd : ¬ C3 a c d
 ace : ¬ C3 a c e
 ade : ¬ C3 a d e
 bcd : ¬ C3 b c d
 bce : ¬ C3 b c e
 bde : ¬ C3 b d e
 cde : ¬ C3 c d e
theorem zaz {a b c : P3} (h : ¬ C3 a b c) : Nz (crs a b) := fun ⟨z1, z2, z3⟩ => h (by
 refine C3.rot (C3.rot (?_ : C3 c a b))
 show dot c (crs a b) = 0
 unfold dot; rw [z1, z2, z3]; simp)
theorem zke {a b p : P3} (h : Nz (crs a b)) : dot (low (crs a b)) p = 0 ↔ C3 p a b := by
 rw [zb3, zir h]; rfl
theorem znD {a b c d e : P3} (g : G5 a b c d e) : Nz6 (zeV a b c d e) := by
 have zab := zaz g.abc
 have zac := zaz (fun h => g.abc (C3.s23 h) : ¬ C3 a c b)
 have zcd := zaz g.cde
 have zbd := zaz g.bde
 refine zux (p := zdm 1 1 0 a b c) ?_
 rw [znC]
 have ld : ∀ l : P3, dot l (zdm 1 1 0 a b c) = dot l a + dot l b := fun l => by unfold dot zdm; grind
 have z1 : dot (low (crs a b)) a = 0 := (zke zab).mpr (C3.aab _ _)
 have z2 : dot (low (crs a b)) b = 0 := (zke zab).mpr (C3.aba _ _)
 have z3 : dot (low (crs a c)) a = 0 := (zke zac).mpr (C3.aab _ _)
 have z4 : dot (low (crs b d)) b = 0 := (zke zbd).mpr (C3.aab _ _)
 have y1 : dot (low (crs a c)) b ≠ 0 := fun z => g.abc (C3.s12 ((zke zac).mp z))
 have y2 : dot (low (crs b d)) a ≠ 0 := fun z => g.abd ((zke zbd).mp z)
 have y3 : dot (low (crs a b)) e ≠ 0 := fun z => g.abe (C3.rot (C3.rot ((zke zab).mp z)))
 have y4 : dot (low (crs c d)) e ≠ 0 := fun z => g.cde (C3.rot (C3.rot ((zke zcd).mp z)))
 rw [ld, ld, ld, ld, z1, z2, z3, z4]
 intro h
 have : dot (low (crs a b)) e * dot (low (crs c d)) e * (dot (low (crs a c)) b * dot (low (crs b d)) a) = 0 := by
  simp only [Int.add_zero, Int.zero_add, Int.zero_mul, xbw, xc5] at h
  omega
 exact zbD (zbD y3 y4) (zbD y1 y2) this
theorem zq1 {a b c d e : P3} (g : G5 a b c d e) : qv (zeV a b c d e) a = 0 /\ qv (zeV a b c d e) b = 0 /\ qv (zeV a b c d e) c = 0 /\ qv (zeV a b c d e) d = 0 /\ qv (zeV a b c d e) e = 0 := by
 have zab := zaz g.abc
 have zac := zaz (fun h => g.abc (C3.s23 h) : ¬ C3 a c b)
 have zcd := zaz g.cde
 have zbd := zaz g.bde
 have z1 : dot (low (crs a b)) a = 0 := (zke zab).mpr (C3.aab _ _)
 have z2 : dot (low (crs a b)) b = 0 := (zke zab).mpr (C3.aba _ _)
 have z3 : dot (low (crs a c)) a = 0 := (zke zac).mpr (C3.aab _ _)
 have z4 : dot (low (crs a c)) c = 0 := (zke zac).mpr (C3.aba _ _)
 have z5 : dot (low (crs c d)) c = 0 := (zke zcd).mpr (C3.aab _ _)
 have z6 : dot (low (crs c d)) d = 0 := (zke zcd).mpr (C3.aba _ _)
 have z7 : dot (low (crs b d)) b = 0 := (zke zbd).mpr (C3.aab _ _)
 have z8 : dot (low (crs b d)) d = 0 := (zke zbd).mpr (C3.aba _ _)
 refine ⟨?_, ?_, ?_, ?_, ?_⟩ <;> rw [znC]
 ·rw [z1, z3]; simp
 ·rw [z2, z7]; simp
 ·rw [z5, z4]; simp
 ·rw [z6, z8]; simp
 ·rw [xc6 (dot (low (crs a b)) e * dot (low (crs c d)) e)]; omega
end Mth
namespace Mth
def grd (q : P6) (x : P3) : P3 := (2 * q.1.1 * x.1 + q.2.1 * x.2.1 + q.2.2.1 * x.2.2, 2 * q.1.2.1 * x.2.1 + q.2.1 * x.1 + q.2.2.2 * x.2.2, 2 * q.1.2.2 * x.2.2 + q.2.2.1 * x.1 + q.2.2.2 * x.2.1)
theorem znE (q : P6) (x y : P3) : dot (grd q x) y = bl q x y := by unfold dot grd bl; grind
theorem zgF (q : P6) (x : P3) : bl q x x = 2 * qv q x := by unfold bl qv; grind
theorem zgG (q : P6) (x y : P3) : bl q x y = bl q y x := by unfold bl; grind
theorem zuy (q : P6) (w x y z : Int) (a b c p : P3) : bl q (zdm x y z a b c) p = x * bl q a p + y * bl q b p + z * bl q c p := by unfold bl zdm; grind
theorem zuz (q : P6) (s : Int) (x p : P3) : bl q (tms s x) p = s * bl q x p := by unfold bl tms; grind
theorem zw0 {q : P6} {a b c d e : P3} (g : G5 a b c d e) (hq : Nz6 q) (qa : qv q a = 0) (qb : qv q b = 0) (qc : qv q c = 0) (qd : qv q d = 0) (qe : qv q e = 0) : bl q a b ≠ 0 := by
 intro h0
 have D0 : zaf a b c ≠ 0 := g.abc
 have k1 := zp1 qa qb qc d
 have k2 := zp1 qa qb qc e
 rw [qd, xbw] at k1
 rw [qe, xbw] at k2
 have zd : zaf a b d ≠ 0 := g.abd
 have ze : zaf a b e ≠ 0 := g.abe
 have m1 : zaf d b c * bl q a c + zaf a d c * bl q b c = 0 := by
  refine zaQ zd ?_
  unfold dot mx ub at k1; simp only [h0] at k1; rw [k1]; grind
 have m2 : zaf e b c * bl q a c + zaf a e c * bl q b c = 0 := by
  refine zaQ ze ?_
  unfold dot mx ub at k2; simp only [h0] at k2; rw [k2]; grind
 have pl := zwZ a b c d e
 have nz : zaf a b c * zaf d e c ≠ 0 := zbD D0 (fun h => g.cde (C3.rot h))
 have e1 : bl q a c = 0 := by
  refine zaQ nz ?_
  rw [<- pl]
  have x1 : zaf a e c * (zaf d b c * bl q a c + zaf a d c * bl q b c) = 0 := by rw [m1]; simp
  have x2 : zaf a d c * (zaf e b c * bl q a c + zaf a e c * bl q b c) = 0 := by rw [m2]; simp
  grind
 have e2 : bl q b c = 0 := by
  refine zaQ nz ?_
  rw [<- pl]
  have x1 : zaf e b c * (zaf d b c * bl q a c + zaf a d c * bl q b c) = 0 := by rw [m1]; simp
  have x2 : zaf d b c * (zaf e b c * bl q a c + zaf a e c * bl q b c) = 0 := by rw [m2]; simp
  grind
 obtain ⟨x, hx, hx0⟩ := zsK hq
 refine hx0 (zsL (fun p => ?_) x hx)
 have k := zp1 qa qb qc p
 have : dot (mx a b c p) (ub q a b c) = 0 := by unfold dot ub; rw [h0, e1, e2]; simp
 rw [this] at k
 exact zaQ (zbD D0 D0) k
structure On5 (q : P6) (a b c d e : P3) : Prop where
 g : G5 a b c d e
 nz : Nz6 q
 a : qv q a = 0
 b : qv q b = 0
 c : qv q c = 0
 d : qv q d = 0
 e : qv q e = 0
theorem G5.rot3 {a b c d e : P3} (g : G5 a b c d e) : G5 b c a d e := ⟨fun h => g.abc h.rot, g.bcd, g.bce, fun h => g.abd h.s12, fun h => g.abe h.s12, g.bde, fun h => g.acd h.s12, fun h => g.ace h.s12, g.cde, g.ade⟩
theorem On5.rot3 {q : P6} {a b c d e : P3} (o : On5 q a b c d e) : On5 q b c a d e := ⟨o.g.rot3, o.nz, o.b, o.c, o.a, o.d, o.e⟩
theorem On5.ab {q : P6} {a b c d e : P3} (o : On5 q a b c d e) : bl q a b ≠ 0 := zw0 o.g o.nz o.a o.b o.c o.d o.e
theorem On5.bc {q : P6} {a b c d e : P3} (o : On5 q a b c d e) : bl q b c ≠ 0 := o.rot3.ab
theorem On5.ac {q : P6} {a b c d e : P3} (o : On5 q a b c d e) : bl q a c ≠ 0 := by rw [zgG]; exact o.rot3.rot3.ab
theorem On5.by3 {q : P6} {a b c d e : P3} (o : On5 q a b c d e) (x : P3) :
  zaf a b c * bl q x a = zaf a x c * bl q a b + zaf a b x * bl q a c /\ zaf a b c * bl q x b = zaf x b c * bl q a b + zaf a b x * bl q b c /\ zaf a b c * bl q x c = zaf x b c * bl q a c + zaf a x c * bl q b c := by
 have h := fun p => zuy q 0 (zaf x b c) (zaf a x c) (zaf a b x) a b c p
 simp only [zit, zuz] at h
 have ha := h a
 have hb := h b
 have hc := h c
 rw [zgF, o.a] at ha
 rw [zgF, o.b] at hb
 rw [zgF, o.c] at hc
 rw [zgG q b a, zgG q c a] at ha
 rw [zgG q c b] at hb
 refine ⟨?_, ?_, ?_⟩ <;> omega
theorem On5.grd_nz {q : P6} {a b c d e : P3} (o : On5 q a b c d e) {x : P3} (hx : Nz x) : Nz (grd q x) := fun hz => by
 have z : ∀ y, bl q x y = 0 := fun y => by
  rw [<- znE]; unfold dot; rw [hz.1, hz.2.1, hz.2.2]; simp
 obtain ⟨h1, h2, h3⟩ := o.by3 x
 rw [z, xbw] at h1 h2 h3
 have n1 := o.ab
 have n2 := o.ac
 have n3 := o.bc
 have D0 : zaf a b c ≠ 0 := o.g.abc
 have e1 : zaf x b c = 0 := by
  refine zaQ (zbD n1 n2) (zaQ (show (2 : Int) ≠ 0 by decide) ?_)
  generalize zaf x b c = x1 at *
  generalize zaf a x c = x2 at *
  generalize zaf a b x = x3 at *
  generalize bl q a b = A at *
  generalize bl q a c = B at *
  generalize bl q b c = C at *
  have y1 : C * (x2 * A + x3 * B) = 0 := by rw [<- h1]; simp
  have y2 : B * (x1 * A + x3 * C) = 0 := by rw [<- h2]; simp
  have y3 : A * (x1 * B + x2 * C) = 0 := by rw [<- h3]; simp
  grind
 rw [e1] at h2 h3
 have e3 : zaf a b x = 0 := zaQ n3 (by rw [xc6]; omega)
 have e2 : zaf a x c = 0 := zaQ n3 (by rw [xc6]; omega)
 have l := zit a b c x
 rw [e1, e2, e3] at l
 exact zga hx (zcM D0 (l.symm.trans (by unfold zdm; simp)))
theorem On5.touch {q : P6} {a b c d e : P3} (o : On5 q a b c d e) {x : P3} (h0 : bl q a x = 0) (hq : qv q x = 0) : crs a x = (0, 0, 0) := by
 obtain ⟨h1, _, _⟩ := o.by3 x
 rw [zgG, h0, xbw] at h1
 have k := zp1 o.a o.b o.c x
 rw [hq, xbw] at k
 have n1 := o.ab
 have n2 := o.ac
 have n3 := o.bc
 have D0 : zaf a b c ≠ 0 := o.g.abc
 have z : zaf a x c * zaf a b x = 0 := by
  refine zaQ n3 ?_
  unfold dot mx ub at k
  simp only at k
  generalize zaf x b c = x1 at *
  generalize zaf a x c = x2 at *
  generalize zaf a b x = x3 at *
  have y1 : x1 * (x2 * bl q a b + x3 * bl q a c) = 0 := by rw [<- h1]; simp
  grind
 have e2 : zaf a x c = 0 /\ zaf a b x = 0 := by
  rcases xa2.mp z with z | z
  ·rw [z] at h1; exact ⟨z, zaQ n2 (by rw [xc6]; omega)⟩
  ·rw [z] at h1; exact ⟨zaQ n1 (by rw [xc6]; omega), z⟩
 have l := zit a b c x
 rw [e2.1, e2.2] at l
 refine zcM D0 ?_
 have : tms (zaf a b c) (crs a x) = crs a (tms (zaf a b c) x) := by unfold tms crs; exact xap (by grind) (xap (by grind) (by grind))
 rw [this, <- l]
 unfold zdm crs; exact xap (by grind) (xap (by grind) (by grind))
theorem zjf (A B M : P3) : crs (crs A B) M = zdm (dot A M) (- dot B M) 0 B A A := by
 unfold crs zdm dot; exact xap (by grind) (xap (by grind) (by grind))
theorem zee (L b c : P3) : crs L (crs b c) = zdm (dot L c) (- dot L b) 0 b c c := by
 unfold crs zdm dot; exact xap (by grind) (xap (by grind) (by grind))
def q0 (a b c d e x : P3) : Int := zaf e a c * zaf e b d * (zaf x a b * zaf x c d) - zaf e a b * zaf e c d * (zaf x a c * zaf x b d)
def b0 (a b c d e p : P3) : Int := zaf e a c * zaf e b d * (zaf p a b * zaf a c d) - zaf e a b * zaf e c d * (zaf p a c * zaf a b d)
def x6 (a c d p : P3) : P3 := crs (crs a p) (crs c d)
def x7 (a b d e : P3) : P3 := crs (crs a b) (crs d e)
def x8 (a b c d e p : P3) : P3 := crs (crs (x6 a c d p) (x7 a b d e)) (crs b c)
def x9 (a b c d e p : P3) : P3 := crs (crs a p) (crs e (x8 a b c d e p))
theorem d67 (u v s r : Int) (c d e x : P3) : dot (crs (zdm v (-u) 0 c d d) (zdm s (-r) 0 d e e)) x = v * s * zaf x c d - v * r * zaf x c e + u * r * zaf x d e := by
 unfold dot crs zdm zaf dot crs; grind
theorem d8 (β γ : Int) (b c e x : P3) : dot x (crs e (zdm β (-γ) 0 b c c)) = β * zaf x e b - γ * zaf x e c := by
 unfold dot crs zdm zaf dot crs; grind
theorem zw1 (a c d p : P3) : x6 a c d p = zdm (zaf d a p) (- zaf c a p) 0 c d d := by
 unfold x6; rw [zee, zb3 (crs a p), zb3 (crs a p)]; rfl
theorem zuA (a b d e : P3) : x7 a b d e = zdm (zaf e a b) (- zaf d a b) 0 d e e := by
 unfold x7; rw [zee, zb3 (crs a b), zb3 (crs a b)]; rfl
def be (a b c d e p : P3) : Int := zaf d a p * zaf e a b * zaf c c d - zaf d a p * zaf d a b * zaf c c e + zaf c a p * zaf d a b * zaf c d e
def ga (a b c d e p : P3) : Int := zaf d a p * zaf e a b * zaf b c d - zaf d a p * zaf d a b * zaf b c e + zaf c a p * zaf d a b * zaf b d e
theorem zw2 (a b c d e p : P3) : x8 a b c d e p = zdm (be a b c d e p) (- ga a b c d e p) 0 b c c := by
 unfold x8; rw [zee, zw1, zuA, d67, d67]; rfl
theorem co1 (c d e x y : P3) : zaf c d e * zaf c x y = zaf c x e * zaf c d y - zaf c d x * zaf c y e := by unfold zaf dot crs; grind
theorem co2 (c d e x y : P3) : zaf c d e * zaf d x y = zaf c d x * zaf y d e - zaf x d e * zaf c d y := by unfold zaf dot crs; grind
theorem co3 (c d e x y : P3) : zaf c d e * zaf e x y = zaf x d e * zaf c y e - zaf c x e * zaf y d e := by unfold zaf dot crs; grind
theorem zuB (c d e x y z : P3) : zaf c d e * zaf x y z = zaf x d e * zaf c y z + zaf c x e * zaf d y z + zaf c d x * zaf e y z := by unfold zaf dot crs; grind
theorem rot3 (x y z : P3) : zaf x y z = zaf y z x := by unfold zaf dot crs; grind
theorem zuC (a b c d e p : P3) (hD : zaf c d e ≠ 0) : be a b c d e p * zaf p e b - ga a b c d e p * zaf p e c = - q0 a b c d e p := by
 have k1 : zaf c c d = 0 := C3.aab _ _
 have k2 : zaf c c e = 0 := C3.aab _ _
 have u := co1 c d e a p
 have v := co2 c d e a p
 have s := co3 c d e a b
 have r := co2 c d e a b
 have w := co3 c d e b p
 have t1 := co1 c d e p a
 have t2 := co2 c d e p b
 have t3 := zuB c d e p a b
 have t4 := co1 c d e a b
 have f1 : zaf p e b = zaf e b p := rot3 _ _ _
 have f2 : zaf p e c = zaf c p e := (rot3 _ _ _).symm
 have f3 : zaf b c d = zaf c d b := rot3 _ _ _
 have f4 : zaf b c e = - zaf c b e := zpZ _ _ _
 have f5 : zaf e a c = - zaf c a e := by unfold zaf dot crs; grind
 have f6 : zaf e b d = zaf b d e := rot3 _ _ _
 have f7 : zaf p c d = zaf c d p := rot3 _ _ _
 have f8 : zaf e c d = zaf c d e := rot3 _ _ _
 have f9 : zaf p a c = zaf c p a := (rot3 _ _ _).symm
 have f10 : zaf p b d = zaf d p b := (rot3 _ _ _).symm
 unfold be ga q0
 rw [k1, k2, f1, f2, f3, f4, f5, f6, f7, f8, f9, f10]
 generalize zaf c a p = U at *
 generalize zaf d a p = V at *
 generalize zaf e a b = S at *
 generalize zaf d a b = Rr at *
 generalize zaf e b p = W at *
 generalize zaf c p a = T1 at *
 generalize zaf d p b = T2 at *
 generalize zaf p a b = T3 at *
 generalize zaf c a b = T4 at *
 generalize zaf c d e = Dd at *
 generalize zaf c a e = a2 at *
 generalize zaf c d a = a3 at *
 generalize zaf a d e = a1 at *
 generalize zaf c b e = b2 at *
 generalize zaf c d b = b3 at *
 generalize zaf b d e = b1 at *
 generalize zaf c p e = p2 at *
 generalize zaf c d p = p3 at *
 generalize zaf p d e = p1 at *
 have n3 := zbD (zbD hD hD) hD
 have fin : Dd * Dd * Dd * ((V * S * 0 - V * Rr * 0 + U * Rr * Dd) * W - (V * S * b3 - V * Rr * -b2 + U * Rr * b1) * p2 + (-a2 * b1 * (T3 * p3) - S * Dd * (T1 * T2))) = 0 := by
  have e1 : Dd * Dd * Dd * ((V * S * 0 - V * Rr * 0 + U * Rr * Dd) * W - (V * S * b3 - V * Rr * -b2 + U * Rr * b1) * p2 + (-a2 * b1 * (T3 * p3) - S * Dd * (T1 * T2)))
   = Dd * ((Dd * U) * (Dd * Rr) * (Dd * W) - ((Dd * V) * (Dd * S) * b3 + (Dd * V) * (Dd * Rr) * b2 + (Dd * U) * (Dd * Rr) * b1) * p2 - a2 * b1 * (p1 * (Dd * T4) + p2 * (Dd * Rr) + p3 * (Dd * S)) * p3 - (Dd * S) * (Dd * T1) * (Dd * T2)) + Dd * Dd * a2 * b1 * p3 * (p1 * T4 + p2 * Rr + p3 * S - Dd * T3) := by grind
  rw [e1, u, v, s, r, w, t1, t2, t4, t3]
  grind
 have := zaQ n3 fin
 omega
theorem zuD (a b c d e p : P3) (hD : zaf c d e ≠ 0) : be a b c d e p * zaf a e b - ga a b c d e p * zaf a e c = - b0 a b c d e p := by
 have k1 : zaf c c d = 0 := C3.aab _ _
 have k2 : zaf c c e = 0 := C3.aab _ _
 have u := co1 c d e a p
 have v := co2 c d e a p
 have s := co3 c d e a b
 have r := co2 c d e a b
 have w := co3 c d e b a
 have t3 := zuB c d e p a b
 have t4 := co1 c d e a b
 have f1 : zaf a e b = - zaf e a b := zpZ _ _ _
 have f2 : zaf a e c = zaf c a e := (rot3 _ _ _).symm
 have f3 : zaf b c d = zaf c d b := rot3 _ _ _
 have f4 : zaf b c e = - zaf c b e := zpZ _ _ _
 have f5 : zaf e a c = - zaf c a e := by unfold zaf dot crs; grind
 have f6 : zaf e b d = zaf b d e := rot3 _ _ _
 have f7 : zaf a c d = zaf c d a := rot3 _ _ _
 have f8 : zaf e c d = zaf c d e := rot3 _ _ _
 have f9 : zaf p a c = - zaf c a p := by unfold zaf dot crs; grind
 have f10 : zaf a b d = zaf d a b := (rot3 _ _ _).symm
 unfold be ga b0
 rw [k1, k2, f1, f2, f3, f4, f5, f6, f7, f8, f9, f10]
 generalize zaf c a p = U at *
 generalize zaf d a p = V at *
 generalize zaf e a b = S at *
 generalize zaf d a b = Rr at *
 generalize zaf p a b = T3 at *
 generalize zaf c a b = T4 at *
 generalize zaf c d e = Dd at *
 generalize zaf c a e = a2 at *
 generalize zaf c d a = a3 at *
 generalize zaf a d e = a1 at *
 generalize zaf c b e = b2 at *
 generalize zaf c d b = b3 at *
 generalize zaf b d e = b1 at *
 generalize zaf c p e = p2 at *
 generalize zaf c d p = p3 at *
 generalize zaf p d e = p1 at *
 have n3 := zbD (zbD hD hD) hD
 have fin : Dd * Dd * Dd * ((V * S * 0 - V * Rr * 0 + U * Rr * Dd) * -S - (V * S * b3 - V * Rr * -b2 + U * Rr * b1) * a2 + (-a2 * b1 * (T3 * a3) - S * Dd * (-U * Rr))) = 0 := by
  have e1 : Dd * Dd * Dd * ((V * S * 0 - V * Rr * 0 + U * Rr * Dd) * -S - (V * S * b3 - V * Rr * -b2 + U * Rr * b1) * a2 + (-a2 * b1 * (T3 * a3) - S * Dd * (-U * Rr)))
   = Dd * (- ((Dd * V) * (Dd * S) * b3 + (Dd * V) * (Dd * Rr) * b2 + (Dd * U) * (Dd * Rr) * b1) * a2 - a2 * b1 * (p1 * (Dd * T4) + p2 * (Dd * Rr) + p3 * (Dd * S)) * a3) + Dd * Dd * a2 * b1 * a3 * (p1 * T4 + p2 * Rr + p3 * S - Dd * T3) := by grind
  rw [e1, u, v, s, r, t4, t3]
  grind
 have := zaQ n3 fin
 omega
theorem zuE (a b c d e p : P3) (hD : zaf c d e ≠ 0) : x9 a b c d e p = zdm (q0 a b c d e p) (- b0 a b c d e p) 0 a p p := by
 unfold x9
 rw [zjf, zw2, d8, d8, zuC a b c d e p hD, zuD a b c d e p hD]
 unfold zdm; exact xap (by grind) (xap (by grind) (by grind))
end Mth
namespace Mth
theorem zjg {x l m : P3} (h1 : dot x l = 0) (h2 : dot x m ≠ 0) (hl : Nz l) : Nz (crs l m) := zmy fun e => by
 have k : crs x (crs l m) = zdm (dot x m) (- dot x l) 0 l m m := zee x l m
 rw [e, h1] at k
 refine zga hl (zcM h2 ?_)
 have z : crs x (0, 0, 0) = (0, 0, 0) := by unfold crs; simp
 rw [z] at k
 rw [k]; unfold tms zdm; simp
theorem zjh {u v : P3} (hu : Nz u) (hv : Nz v) (h : Nz (crs u v)) : low u ≠ low v := fun e => zga h (znz hu hv e)
theorem zfI {u v : P3} (hu : Nz u) (hv : Nz v) (h : Nz (crs u v)) : Nz (crs (low u) (low v)) /\ low (crs (low u) (low v)) = low (crs u v) := by
 have e : crs u v = tms (sOf u * sOf v) (crs (low u) (low v)) := by
  conv => lhs; rw [zdl hu, zdl hv]
  exact zkm _ _ _ _
 rw [e] at h
 have z := znA h
 exact ⟨z, by rw [e, zhO (zbD (zcL hu).1 (zcL hv).1) z]⟩
theorem zfW {a b : P3} (h : Nz (crs a b)) (x : P3) : zaf x a b = sOf (crs a b) * dot (low (crs a b)) x := by
 have e := zdl h
 show dot x (crs a b) = _
 conv => lhs; rw [e]
 generalize sOf (crs a b) = s
 generalize low (crs a b) = l
 unfold dot tms; grind
theorem zuF {a b c d e : P3} (g : G5 a b c d e) : ∃ k, k ≠ 0 /\ ∀ x, q0 a b c d e x = k * qv (zeV a b c d e) x := by
 have zab := zaz g.abc
 have zac := zaz (fun h => g.abc (C3.s23 h) : ¬ C3 a c b)
 have zcd := zaz g.cde
 have zbd := zaz g.bde
 refine ⟨sOf (crs a c) * sOf (crs b d) * (sOf (crs a b) * sOf (crs c d)), zbD (zbD (zcL zac).1 (zcL zbd).1) (zbD (zcL zab).1 (zcL zcd).1), fun x => ?_⟩
 unfold q0
 rw [znC, zfW zac e, zfW zbd e, zfW zab x, zfW zcd x, zfW zab e, zfW zcd e, zfW zac x, zfW zbd x]
 grind
theorem zuG (a b c d e p : P3) : q0 a b c d e (zdm 1 1 0 a p p) = q0 a b c d e p + b0 a b c d e p := by
 have l : ∀ y z : P3, zaf (zdm 1 1 0 a p p) y z = zaf a y z + zaf p y z := fun y z => by unfold zaf zdm dot; grind
 have z1 : zaf a a b = 0 := C3.aab _ _
 have z2 : zaf a a c = 0 := C3.aab _ _
 unfold q0 b0
 rw [l, l, l, l, z1, z2]
 grind
def zeW (q : P6) (a p : P3) : P3 := zdm (qv q p) (- bl q a p) 0 a p p
theorem znF {a b c d e : P3} (g : G5 a b c d e) (p : P3) : ∃ k, k ≠ 0 /\ x9 a b c d e p = tms k (zeW (zgE (zeV a b c d e)) a p) := by
 obtain ⟨k, hk, h⟩ := zuF g
 have zn := znD g
 have hq : ∀ x, q0 a b c d e x = k * zej (zar (zeV a b c d e)) * qv (zgE (zeV a b c d e)) x := fun x => by rw [h x, zq0 zn x, Int.mul_assoc]
 have ks := zbD hk (zfG zn)
 generalize k * zej (zar (zeV a b c d e)) = K at hq ks
 have qa : qv (zgE (zeV a b c d e)) a = 0 := (zbW zn).mpr (zq1 g).1
 refine ⟨K, ks, ?_⟩
 have hb : b0 a b c d e p = K * bl (zgE (zeV a b c d e)) a p := by
  have e1 := zuG a b c d e p
  rw [hq, hq, znB, qa] at e1
  generalize b0 a b c d e p = u at *
  generalize bl (zgE (zeV a b c d e)) a p = w at *
  generalize qv (zgE (zeV a b c d e)) p = v at *
  grind
 rw [zuE a b c d e p g.cde, hq, hb]
 unfold zeW zdm tms; exact xap (by grind) (xap (by grind) (by grind))
theorem On5.meet_nz {q : P6} {a b c d e : P3} (o : On5 q a b c d e) {p : P3} (h : Nz (crs a p)) : Nz (zeW q a p) := zmy fun z => by
 have e1 : crs a (zeW q a p) = tms (- bl q a p) (crs a p) := by unfold zeW zdm tms crs; exact xap (by grind) (xap (by grind) (by grind))
 have e2 : crs (zeW q a p) p = tms (qv q p) (crs a p) := by unfold zeW zdm tms crs; exact xap (by grind) (xap (by grind) (by grind))
 have z1 : crs a (0, 0, 0) = (0, 0, 0) := by unfold crs; simp
 have z2 : crs (0, 0, 0) p = (0, 0, 0) := by unfold crs; simp
 rw [z, z1] at e1
 rw [z, z2] at e2
 have b1 : bl q a p = 0 := xba fun n => zga h (zcM (s := - bl q a p) (by omega) e1.symm)
 have q1 : qv q p = 0 := xba fun n => zga h (zcM n e2.symm)
 exact zga h (o.touch b1 q1)
theorem zsN {q : P6} {a : P3} (qa : qv q a = 0) (p : P3) : qv q (zeW q a p) = 0 := by
 unfold zeW
 rw [znB, qa]
 have e : bl q p p = 2 * qv q p := zgF q p
 generalize bl q a p = w at *
 generalize qv q p = v at *
 grind
theorem zp3 (q : P6) (a p : P3) : zaf a p (zeW q a p) = 0 := by
 unfold zeW zaf zdm dot crs; grind
theorem zuH {q : P6} {a p : P3} (na : Nrm a) (h : Nz (crs a p)) (hm : Nz (zeW q a p)) : low (zeW q a p) = a ↔ bl q a p = 0 := by
 have e1 : crs a (zeW q a p) = tms (- bl q a p) (crs a p) := by unfold zeW zdm tms crs; exact xap (by grind) (xap (by grind) (by grind))
 constructor
 ·intro e
  have z := znz na.nz hm (by rw [na.low, e])
  rw [z] at e1
  exact xba fun n => zga h (zcM (s := - bl q a p) (by omega) e1.symm)
 ·intro e
  rw [e] at e1
  have : low a = low (zeW q a p) := zkn na.nz hm (by rw [e1]; unfold tms; simp)
  rw [<- this, na.low]
theorem zuI {q : P6} {a p : P3} (np : Nrm p) (hm : Nz (zeW q a p)) (h : qv q p = 0) : low (zeW q a p) = p := by
 have e1 : crs p (zeW q a p) = (0, 0, 0) := by
  unfold zeW; rw [h]; unfold zdm crs; exact xap (by grind) (xap (by grind) (by grind))
 have : low p = low (zeW q a p) := zkn np.nz hm e1
 rw [<- this, np.low]
theorem zko {a b c d e : P3} (g : G5 a b c d e) : On5 (zgE (zeV a b c d e)) a b c d e := by
 have zn := znD g
 obtain ⟨a0, a1, a2, a3, a4⟩ := zq1 g
 exact ⟨g, zsM zn, (zbW zn).mpr a0, (zbW zn).mpr a1, (zbW zn).mpr a2, (zbW zn).mpr a3, (zbW zn).mpr a4⟩
structure zw3 (a b c d e p : P3) : Prop where
 l : Nz (crs a p)
 cd : Nz (crs c d)
 ab : Nz (crs a b)
 de : Nz (crs d e)
 bc : Nz (crs b c)
 n6 : Nz (x6 a c d p)
 n7 : Nz (x7 a b d e)
 l67 : Nz (crs (x6 a c d p) (x7 a b d e))
 n8 : Nz (x8 a b c d e p)
 l48 : Nz (crs e (x8 a b c d e p))
 n9 : Nz (x9 a b c d e p)
theorem zuJ {a b c d e p : P3} (g : G5 a b c d e) (h : Nz (crs a p)) : zw3 a b c d e p := by
 have cd : Nz (crs c d) := zaz g.cde
 have ab : Nz (crs a b) := zaz g.abc
 have de : Nz (crs d e) := zaz (fun h => g.ade h.rot : ¬ C3 d e a)
 have bc : Nz (crs b c) := zaz g.bcd
 have n6 : Nz (x6 a c d p) := zjg (x := a) (zk0 a p) g.acd h
 have n7 : Nz (x7 a b d e) := zjg (x := a) (zk0 a b) g.ade ab
 have on1 : ∀ u v : P3, dot v (crs u v) = 0 := fun u v => by unfold dot crs; grind
 have on2 : ∀ u v : P3, dot (crs u v) v = 0 := fun u v => by unfold dot crs; grind
 have l67 : Nz (crs (x6 a c d p) (x7 a b d e)) := by
  refine zjg (x := crs c d) (by rw [zb3]; exact on2 _ _) ?_ n6
  have : dot (crs c d) (x7 a b d e) = - (zaf d a b * zaf e c d) := by rw [zuA]; unfold zaf zdm dot crs; grind
  rw [this]
  have := zbD (show zaf d a b ≠ 0 from fun h => g.abd (C3.rot (C3.rot h))) (show zaf e c d ≠ 0 from fun h => g.cde (C3.rot (C3.rot h)))
  omega
 have n8 : Nz (x8 a b c d e p) := by
  refine zjg (x := x7 a b d e) (on1 _ _) ?_ l67
  have : dot (x7 a b d e) (crs b c) = - (zaf b d e * zaf a b c) := by unfold x7; rw [zjf]; unfold zaf zdm dot crs; grind
  rw [this]
  have := zbD (show zaf b d e ≠ 0 from g.bde) (show zaf a b c ≠ 0 from g.abc)
  omega
 have l48 : Nz (crs e (x8 a b c d e p)) := by
  have hh : Nz (crs (x8 a b c d e p) e) := zjg (x := crs b c) (by rw [zb3]; exact on2 _ _) (by rw [zb3]; exact (show zaf e b c ≠ 0 from fun h => g.bce (C3.rot (C3.rot h)))) n8
  refine zmy fun z => zga hh ?_
  have : crs (x8 a b c d e p) e = tms (-1) (crs e (x8 a b c d e p)) := by unfold crs tms; exact xap (by grind) (xap (by grind) (by grind))
  rw [this, z]; unfold tms; simp
 obtain ⟨k, hk, e9⟩ := znF g p
 exact ⟨h, cd, ab, de, bc, n6, n7, l67, n8, l48, by rw [e9]; exact zqX hk ((zko g).meet_nz h)⟩
theorem zw3.low9 {a b c d e p : P3} (g : G5 a b c d e) (D : zw3 a b c d e p) : low (x9 a b c d e p) = low (zeW (zgE (zeV a b c d e)) a p) := by
 obtain ⟨k, hk, e9⟩ := znF g p
 have := D.n9
 rw [e9] at this ⊢
 rw [zhO hk (znA this)]
end Mth
namespace SetT
open PySem.SetTable
theorem zk1 : ∀ (n : Nat) (l : List Nat), (∀ j, j < n -> j ∈ l) -> n <= l.length
 | 0, _, _ => xci _
 | n + 1, l, h => by
  have hn : n ∈ l := h n (xc0 _)
  have := zk1 n (l.erase n) fun j hj => (List.mem_erase_of_ne (by omega)).mpr (h j (by omega))
  rw [List.length_erase_of_mem hn] at this
  have : 0 < l.length := List.length_pos_of_mem hn
  omega
theorem no_has (j : Nat) : has #[] j = false := rfl
theorem slot_cases {t : SetTable} (hd : t.dummies = #[]) (j : Nat) : t.slot j = .empty \/ ∃ i, t.slot j = .live i /\ t.place[i]? = some j := by
 unfold slot
 simp only
 by_cases h : (t.place[below t.place j]? == some j) = true
 ·rw [if_pos h]
  exact .inr ⟨_, rfl, eq_of_beq h⟩
 ·rw [if_neg h, hd, no_has]
  exact .inl rfl
theorem zmz {t : SetTable} (hd : t.dummies = #[]) {n : Nat} (hn : t.place.size < n) : ∃ j, j < n /\ t.slot j = .empty := by
 refine xba fun h => ?_
 have : n <= t.place.toList.length := zk1 n _ fun j hj => by
  rcases slot_cases hd j with e | ⟨i, _, hi⟩
  ·exact absurd ⟨j, hj, e⟩ h
  ·rw [<- xax] at hi
   exact xbe hi
 rw [xas] at this
 omega
def iter (t : SetTable) : Nat -> Probe -> Probe
 | 0, p => p
 | k + 1, p => iter t k (t.advance p)
theorem iter_add (t : SetTable) : ∀ (a b : Nat) (p : Probe), iter t (a + b) p = iter t b (iter t a p)
 | 0, b, p => by rw [xbo]; rfl
 | a + 1, b, p => by rw [Nat.succ_add]; exact iter_add t a b (t.advance p)
theorem adv_dummy (t : SetTable) (p : Probe) : (t.advance p).dummy = p.dummy := by
 unfold advance; split <;> rfl
def start (mask i perturb : Nat) : Probe := { j := i, more := runEnd mask i - i, i, perturb, dummy := none }
theorem zk2 (mask i : Nat) : runEnd mask i - i <= 9 := by unfold runEnd; split <;> omega
theorem znG {t : SetTable} : ∀ (m : Nat) (p : Probe), p.more = m -> p.dummy = none -> iter t (m + 1) p = start t.mask (leap t.mask p.i p.perturb).1 (leap t.mask p.i p.perturb).2
 | 0, p, hm, hd => by
  show t.advance p = _
  unfold advance start
  rw [if_neg (by omega), hd]
 | m + 1, p, hm, hd => by
  show iter t (m + 1) (t.advance p) = _
  have e : t.advance p = { p with j := p.j + 1, more := p.more - 1 } := by unfold advance; rw [if_pos (by omega)]
  rw [e]
  exact znG m { p with j := p.j + 1, more := p.more - 1 } (by show p.more - 1 = m; omega) hd
def zbl (mask : Nat) : Nat -> Nat × Nat -> Nat × Nat
 | 0, s => s
 | n + 1, s => zbl mask n (leap mask s.1 s.2)
theorem zeF (mask : Nat) : ∀ (n : Nat) (s : Nat × Nat), zbl mask (n + 1) s = leap mask (zbl mask n s).1 (zbl mask n s).2
 | 0, _ => rfl
 | n + 1, s => zeF mask n (leap mask s.1 s.2)
theorem zgH {t : SetTable} : ∀ (n : Nat) (s : Nat × Nat), ∃ k, k <= 10 * n /\ iter t k (start t.mask s.1 s.2) = start t.mask (zbl t.mask n s).1 (zbl t.mask n s).2
 | 0, s => ⟨0, xag _, rfl⟩
 | n + 1, s => by
  obtain ⟨k, hk, e⟩ := zgH n (leap t.mask s.1 s.2)
  have hr := znG (t := t) _ (start t.mask s.1 s.2) rfl rfl
  refine ⟨(runEnd t.mask s.1 - s.1 + 1) + k, ?_, ?_⟩
  ·have := zk2 t.mask s.1; omega
  ·rw [iter_add]
   have hr : iter t (runEnd t.mask s.1 - s.1 + 1) (start t.mask s.1 s.2) = start t.mask (leap t.mask s.1 s.2).1 (leap t.mask s.1 s.2).2 := hr
   rw [hr]; exact e
theorem zen (mask : Nat) : ∀ (n : Nat) (s : Nat × Nat), (zbl mask n s).2 = s.2 / 32 ^ n
 | 0, s => by simp [zbl]
 | n + 1, s => by
  rw [zeF]
  show (zbl mask n s).2 / 32 = _
  rw [zen mask n s, Nat.div_div_eq_div_mul, <- Nat.pow_succ]
def zuK (mask : Nat) : Nat -> Nat -> Nat
 | 0, i => i
 | n + 1, i => zuK mask n ((i * 5 + 1) % (mask + 1))
theorem zgI (mask : Nat) : ∀ (n i : Nat), zbl mask n (i, 0) = (zuK mask n i, 0)
 | 0, i => rfl
 | n + 1, i => by
  show zbl mask n (leap mask i 0) = _
  have : leap mask i 0 = ((i * 5 + 1) % (mask + 1), 0) := by unfold leap; simp
  rw [this, zgI mask n]; rfl
theorem zhQ (mask : Nat) : ∀ (a b : Nat) (s : Nat × Nat), zbl mask (a + b) s = zbl mask b (zbl mask a s)
 | 0, b, s => by rw [xbo]; rfl
 | a + 1, b, s => by rw [Nat.succ_add]; exact zhQ mask a b (leap mask s.1 s.2)
theorem all7 : (List.range 8).all (fun i => (List.range 8).all fun j => (List.range 8).any fun n => zuK 7 n i == j) = true := by decide +kernel
theorem zw4 : (List.range 32).all (fun i => (List.range 32).all fun j => (List.range 32).any fun n => zuK 31 n i == j) = true := by decide +kernel
theorem zp4 {mask : Nat} (hm : mask = 7 \/ mask = 31) {i j : Nat} (hi : i <= mask) (hj : j <= mask) : ∃ n, n <= mask /\ zuK mask n i = j := by
 rcases hm with rfl | rfl
 ·have h := xa1.mp (xa1.mp all7 i (xa7.mpr (by omega))) j (xa7.mpr (by omega))
  obtain ⟨n, h1, h2⟩ := List.any_eq_true.mp h
  exact ⟨n, by have := xa7.mp h1; omega, eq_of_beq h2⟩
 ·have h := xa1.mp (xa1.mp zw4 i (xa7.mpr (by omega))) j (xa7.mpr (by omega))
  obtain ⟨n, h1, h2⟩ := List.any_eq_true.mp h
  exact ⟨n, by have := xa7.mp h1; omega, eq_of_beq h2⟩
theorem znH {mask : Nat} (n : Nat) {s : Nat × Nat} (hs : s.1 <= mask) : (zbl mask n s).1 <= mask := by
 cases n with
 | zero => exact hs
 | succ n =>
  rw [zeF]
  show (_ % (mask + 1)) <= mask
  have := xcs ((zbl mask n s).1 * 5 + 1 + (zbl mask n s).2 / 32) (show 0 < mask + 1 by omega)
  omega
theorem zhR {mask : Nat} (hm : mask = 7 \/ mask = 31) {s : Nat × Nat} (hs : s.1 <= mask) (hb : s.2 < 2 ^ 64) {j : Nat} (hj : j <= mask) : ∃ n, n <= mask + 13 /\ (zbl mask n s).1 = j := by
 have e : (zbl mask 13 s).2 = 0 := by rw [zen]; exact Nat.div_eq_of_lt (xai hb (by decide))
 obtain ⟨n, h1, h2⟩ := zp4 hm (znH 13 hs) hj
 refine ⟨13 + n, by omega, ?_⟩
 rw [zhQ]
 have : zbl mask 13 s = ((zbl mask 13 s).1, 0) := xap rfl e
 rw [this, zgI]; exact h2
theorem znI (h : Int) : bits h < 2 ^ 64 := by
 unfold bits
 have h1 := xbx h (show (2 ^ 64 : Int) ≠ 0 by decide)
 have h2 := xb1 h (show (0 : Int) < 2 ^ 64 by decide)
 omega
theorem meets_empty {t : SetTable} (hd : t.dummies = #[]) (hm : t.mask = 7 \/ t.mask = 31) (hs : t.place.size <= t.mask) (h : Int) : ∃ k, k < 10 * turns t.mask /\ t.slot (iter t k (t.probeStart h)).j = .empty := by
 obtain ⟨j, hj, he⟩ := zmz hd (n := t.mask + 1) (by omega)
 have hi : bits h % (t.mask + 1) <= t.mask := by have := xcs (bits h) (show 0 < t.mask + 1 by omega); omega
 obtain ⟨n, h1, h2⟩ := zhR hm (s := (bits h % (t.mask + 1), bits h)) hi (znI h) (show j <= t.mask by omega)
 obtain ⟨k, hk, e⟩ := zgH (t := t) n (bits h % (t.mask + 1), bits h)
 refine ⟨k, by unfold turns; omega, ?_⟩
 have e : iter t k (t.probeStart h) = _ := e
 rw [e]
 show t.slot (zbl t.mask n (bits h % (t.mask + 1), bits h)).1 = .empty
 rw [h2]; exact he
theorem fm_all {α β : Type} (f : α -> Option β) : ∀ l : List α, (∀ a ∈ l, (f a).isSome = true) -> (l.filterMap f).length = l.length
 | [], _ => rfl
 | a :: l, h => by
  obtain ⟨b, hb⟩ := xbb.mp (h a xal)
  rw [xa6 hb, xar, xar, fm_all f l fun x hx => h x (xaf _ hx)]
theorem ziu {β : Type} (f : Nat -> Option β) : ∀ l : List Nat, (l.filterMap fun j => (f j).map (j, ·)).length = (l.filterMap f).length
 | [] => rfl
 | a :: l => by
  cases h : f a with
  | none => rw [xbc (by rw [h]; rfl), xbc h, ziu f l]
  | some b => rw [xa6 (by rw [h]; rfl), xa6 h, xar, xar, ziu f l]
theorem zk3 {β : Type} {f g : Nat -> Option β} : ∀ l : List Nat, (∀ x ∈ l, g x = f x) -> l.filterMap g = l.filterMap f
 | [], _ => rfl
 | a :: l, h => by
  have ih := zk3 l fun x hx => h x (xaf _ hx)
  have ha := h a xal
  cases e : f a with
  | none => rw [xbc e, xbc (by rw [ha]; exact e), ih]
  | some b => rw [xa6 e, xa6 (by rw [ha]; exact e), ih]
theorem zq2 {β : Type} {f g : Nat -> Option β} {j : Nat} (hj : f j = none) (hg : (g j).isSome = true) (ho : ∀ i, i ≠ j -> g i = f i) : ∀ l : List Nat, l.Nodup -> j ∈ l -> (l.filterMap g).length = (l.filterMap f).length + 1
 | a :: l, hn, hm => by
  rw [xcm] at hn
  by_cases e : a = j
  ·subst e
   obtain ⟨b, hb⟩ := xbb.mp hg
   have same : l.filterMap g = l.filterMap f := zk3 l fun x hx => ho x fun z => hn.1 (z ▸ hx)
   rw [xa6 hb, xbc hj, xar, same]
  ·have hm' : j ∈ l := (xae.mp hm).elim (fun z => absurd z.symm e) id
   have ih := zq2 hj hg ho l hn.2 hm'
   cases h : f a with
   | none => rw [xbc h, xbc (by rw [ho a e]; exact h), ih]
   | some b => rw [xa6 h, xa6 (by rw [ho a e]; exact h), xar, xar, ih]
def cnt (n : Nat) (owner : Array (Option Nat)) : Nat := ((List.range n).filterMap fun j => owner.getD j none).length
theorem zp5 {n : Nat} {owner : Array (Option Nat)} (h : cnt n owner < n) : ∃ j, j < n /\ owner.getD j none = none := by
 refine xba fun q => ?_
 have : cnt n owner = (List.range n).length := fm_all _ _ fun j hj => by
  cases e : owner.getD j none with
  | none => exact absurd ⟨j, xa7.mp hj, e⟩ q
  | some b => rfl
 rw [List.length_range] at this
 omega
theorem ziv {owner : Array (Option Nat)} {j : Nat} (h : j < owner.size) (a b : Option Nat) : owner.getD j a = owner.getD j b := by
 rw [xaw, xaw, xbg h]; rfl
theorem zsO {mask : Nat} {owner : Array (Option Nat)} : ∀ (n fuel i perturb : Nat), (owner.getD (zbl mask n (i, perturb)).1 (some 0)).isNone = true -> n < fuel -> ∃ j, SetTable.layClean.free mask owner fuel i perturb = some j /\ (owner.getD j (some 0)).isNone = true := by
 intro n
 induction n with
 | zero =>
  intro fuel i perturb h hf
  obtain ⟨f, rfl⟩ : ∃ f, fuel = f + 1 := ⟨fuel - 1, by omega⟩
  unfold SetTable.layClean.free
  cases hx : (List.range (runEnd mask i + 1 - i)).find? fun k => (owner.getD (i + k) (some 0)).isNone with
  | some k => exact ⟨i + k, rfl, List.find?_some (p := fun k => (owner.getD (i + k) (some 0)).isNone) hx⟩
  | none =>
   have := List.find?_eq_none.mp hx 0 (xa7.mpr (by unfold runEnd; split <;> omega))
   exact absurd h this
 | succ n ih =>
  intro fuel i perturb h hf
  obtain ⟨f, rfl⟩ : ∃ f, fuel = f + 1 := ⟨fuel - 1, by omega⟩
  unfold SetTable.layClean.free
  cases hx : (List.range (runEnd mask i + 1 - i)).find? fun k => (owner.getD (i + k) (some 0)).isNone with
  | some k => exact ⟨i + k, rfl, List.find?_some (p := fun k => (owner.getD (i + k) (some 0)).isNone) hx⟩
  | none => exact ih f _ _ h (by omega)
theorem znJ {mask : Nat} (hm : mask = 7 \/ mask = 31) : ∀ (hs : List Int) (owner : Array (Option Nat)) (k : Nat), owner.size = mask + 1 -> cnt (mask + 1) owner = k -> (∀ j v, owner.getD j none = some v -> v < k) -> k + hs.length <= mask + 1 ->
  ∃ owner', hs.foldl (fun acc h => do
   let (owner, k) <- acc
   let j <- SetTable.layClean.free mask owner (turns mask) (bits h % (mask + 1)) (bits h)
   pure (owner.setIfInBounds j (some k), k + 1)) (some (owner, k)) = some (owner', k + hs.length) /\ cnt (mask + 1) owner' = k + hs.length /\ ∀ j v, owner'.getD j none = some v -> v < k + hs.length
 | [], owner, k, _, h2, h3, _ => ⟨owner, rfl, h2, h3⟩
 | h :: hs, owner, k, h1, h2, h3, h4 => by
  rw [xar] at h4 ⊢
  obtain ⟨j, hj, he⟩ := zp5 (n := mask + 1) (owner := owner) (by omega)
  have hi : bits h % (mask + 1) <= mask := by have := xcs (bits h) (show 0 < mask + 1 by omega); omega
  obtain ⟨n, q1, q2⟩ := zhR hm (s := (bits h % (mask + 1), bits h)) hi (znI h) (show j <= mask by omega)
  obtain ⟨j', f1, f2⟩ := zsO (mask := mask) (owner := owner) n (turns mask) (bits h % (mask + 1)) (bits h) (by rw [q2, ziv (by omega) (some 0) none, he]; rfl) (by unfold turns; omega)
  have hj' : j' < owner.size := by
   refine xba fun z => ?_
   rw [xaw, Array.getElem?_eq_none (by omega)] at f2
   cases f2
  have hn : owner.getD j' none = none := by
   rw [ziv hj' none (some 0)]
   exact Option.isNone_iff_eq_none.mp f2
  have hset : ∀ i, (owner.setIfInBounds j' (some k)).getD i none = if i = j' then some k else owner.getD i none := by
   intro i
   rw [xaw, xaw, Array.getElem?_setIfInBounds]
   by_cases e : i = j'
   ·subst e; rw [if_pos rfl, if_pos rfl, if_pos hj']; rfl
   ·rw [if_neg (xay e), if_neg e]
  obtain ⟨o', g1, g2, g3⟩ := znJ hm hs (owner.setIfInBounds j' (some k)) (k + 1) (by rw [Array.size_setIfInBounds]; exact h1) (by
   unfold cnt
   rw [zq2 (f := fun j => owner.getD j none) (j := j') hn (by rw [hset, if_pos rfl]; rfl) (fun i hi => by rw [hset, if_neg hi]) _ List.nodup_range (xa7.mpr (by omega))]
   rw [<- h2]; rfl) (by
   intro i v hv
   rw [hset] at hv
   by_cases e : i = j'
   ·rw [if_pos e] at hv; cases hv; omega
   ·rw [if_neg e] at hv; have := h3 i v hv; omega) (by omega)
  refine ⟨o', ?_, by rw [g2]; omega, fun i v hv => by have := g3 i v hv; omega⟩
  rw [List.foldl_cons]
  have e1 : (do
   let (owner, k) <- some (owner, k)
   let j <- SetTable.layClean.free mask owner (turns mask) (bits h % (mask + 1)) (bits h)
   pure (owner.setIfInBounds j (some k), k + 1)) = some (owner.setIfInBounds j' (some k), k + 1) := by
   show (SetTable.layClean.free mask owner (turns mask) (bits h % (mask + 1)) (bits h)).bind _ = _
   rw [f1]; rfl
  rw [e1, g1]
  congr 2
  omega
theorem znK (t : SetTable) (hashes : Array Int) {n : Nat} (hn : hashes.size = n) (h : n <= 32) : ∃ t' order, t.relaid hashes 20 = some (t', order) /\ t'.mask = 31 /\ t'.dummies = #[] /\ t'.place.size = n /\ order.size = n /\ ∀ k ∈ order.toList, k < n := by
 have e0 : sizeAbove 20 - 1 = 31 := by decide
 obtain ⟨o, g1, g2, g3⟩ := znJ (mask := 31) (.inr rfl) hashes.toList (Array.replicate 32 none) 0 (by simp) (by decide) (by
  intro j v hv
  rw [xaw, Array.getElem?_replicate] at hv
  split at hv <;> cases hv) (by rw [xas]; omega)
 rw [xbo, xas, hn] at g2
 have hl : layClean 31 hashes = some o := by
  unfold layClean
  rw [<- Array.foldl_toList, g1]; rfl
 unfold relaid
 rw [e0]
 unfold laid
 rw [hl]
 refine ⟨_, _, rfl, rfl, rfl, ?_, ?_, ?_⟩
 ·show (List.toArray _).size = n
  rw [xak, xad, ziu, <- g2]; rfl
 ·show (List.toArray _).size = n
  rw [xak, xad, ziu, <- g2]; rfl
 ·intro k hk
  rw [xda] at hk
  obtain ⟨⟨j, v⟩, hm, rfl⟩ := xbf.mp hk
  obtain ⟨i, hi, hv⟩ := xbl.mp hm
  cases hx : o.getD i none with
  | none => rw [hx] at hv; cases hv
  | some u =>
   rw [hx] at hv
   have hv : some (i, u) = some (j, v) := hv
   cases hv
   have := g3 _ _ hx
   rw [xbo, xas, hn] at this
   exact this
end SetT
namespace SetT
open PySem.SetTable
theorem zuL {t : SetTable} : ∀ (k : Nat) (p : Probe), k <= p.more -> (iter t k p).j = p.j + k
 | 0, p, _ => rfl
 | k + 1, p, h => by
  show (iter t k (t.advance p)).j = _
  have e : t.advance p = { p with j := p.j + 1, more := p.more - 1 } := by unfold advance; rw [if_pos (by omega)]
  rw [e, zuL k _ (by show k <= p.more - 1; omega)]
  show p.j + 1 + k = _
  omega
theorem zq3 (mask i : Nat) (h : i <= mask) : i + (runEnd mask i - i) <= mask := by unfold runEnd; split <;> omega
theorem znL {t : SetTable} : ∀ (k : Nat) (p : Probe), p.j + p.more <= t.mask -> (iter t k p).j <= t.mask
 | 0, p, h => by show p.j <= _; omega
 | k + 1, p, h => by
  show (iter t k (t.advance p)).j <= _
  refine znL k _ ?_
  unfold advance
  split
  ·show p.j + 1 + (p.more - 1) <= _; omega
  ·refine zq3 _ _ ?_
   show (_ % (t.mask + 1)) <= t.mask
   have := xcs (p.i * 5 + 1 + p.perturb / 32) (show 0 < t.mask + 1 by omega)
   omega
theorem zmA {t : SetTable} {owner : Array (Option Nat)} : ∀ (fuel i perturb j : Nat), SetTable.layClean.free t.mask owner fuel i perturb = some j ->
  ∃ m, m < 10 * fuel /\ (iter t m (start t.mask i perturb)).j = j /\ (owner.getD j (some 0)).isNone = true /\ ∀ m', m' < m -> (owner.getD (iter t m' (start t.mask i perturb)).j (some 0)).isNone = false := by
 intro fuel
 induction fuel with
 | zero => intro i perturb j h; cases h
 | succ f ih =>
  intro i perturb j h
  unfold SetTable.layClean.free at h
  have hr := zk2 t.mask i
  have jk : ∀ k, k <= runEnd t.mask i - i -> (iter t k (start t.mask i perturb)).j = i + k := fun k hk => zuL k (start t.mask i perturb) hk
  cases hx : (List.range (runEnd t.mask i + 1 - i)).find? fun k => (owner.getD (i + k) (some 0)).isNone with
  | some k =>
   rw [hx] at h
   have h : some (i + k) = some j := h
   cases h
   have hp : (owner.getD (i + k) (some 0)).isNone = true := List.find?_some (p := fun k => (owner.getD (i + k) (some 0)).isNone) hx
   obtain ⟨_, as, bs, e, nb⟩ := List.find?_eq_some_iff_append.mp hx
   have hk : k < runEnd t.mask i + 1 - i := by
    have := List.mem_of_find?_eq_some hx
    exact xa7.mp this
   have re : i <= runEnd t.mask i := by unfold runEnd; split <;> omega
   refine ⟨k, by omega, jk k (by omega), hp, fun m' hm => ?_⟩
   rw [jk m' (by omega)]
   have : m' ∈ as := by
    have e2 : (as ++ k :: bs)[m']? = some m' := by rw [<- e, List.getElem?_range (by omega)]
    have ek : as.length = k := by
     have e3 : (as ++ k :: bs)[as.length]? = some k := by rw [xcd (xag _), Nat.sub_self]; rfl
     rw [<- e, List.getElem?_range] at e3
     ·exact Option.some.inj e3
     ·have := congrArg List.length e
      rw [List.length_range, xbr, xar] at this
      omega
    rw [xb4 (by omega)] at e2
    exact xbe e2
   simpa using nb m' this
  | none =>
   rw [hx] at h
   have h : SetTable.layClean.free t.mask owner f (leap t.mask i perturb).1 (leap t.mask i perturb).2 = some j := h
   obtain ⟨m, m1, m2, m3, m4⟩ := ih _ _ j h
   have rt : iter t (runEnd t.mask i - i + 1) (start t.mask i perturb) = start t.mask (leap t.mask i perturb).1 (leap t.mask i perturb).2 := znG (t := t) _ (start t.mask i perturb) rfl rfl
   have no := List.find?_eq_none.mp hx
   have re : i <= runEnd t.mask i := by unfold runEnd; split <;> omega
   refine ⟨(runEnd t.mask i - i + 1) + m, by omega, by rw [iter_add, rt]; exact m2, m3, fun m' hm => ?_⟩
   by_cases hc : m' <= runEnd t.mask i - i
   ·rw [jk m' hc]
    exact Bool.eq_false_iff.mpr (no m' (xa7.mpr (by omega)))
   ·obtain ⟨u, rfl⟩ : ∃ u, m' = (runEnd t.mask i - i + 1) + u := ⟨m' - (runEnd t.mask i - i + 1), by omega⟩
    rw [iter_add, rt]
    exact m4 u (by omega)
def zw5 (t : SetTable) (owner : Array (Option Nat)) (hf : Nat -> Int) (k : Nat) : Prop :=
 ∀ c, c < k -> ∃ j, j <= t.mask /\ owner.getD j none = some c /\ ∃ m, m < 10 * turns t.mask /\ (iter t m (t.probeStart (hf c))).j = j /\ ∀ m', m' < m -> (owner.getD (iter t m' (t.probeStart (hf c))).j none).isSome = true
theorem ziw {t : SetTable} (h : Int) (m : Nat) : (iter t m (t.probeStart h)).j <= t.mask := by
 refine znL m _ ?_
 show bits h % (t.mask + 1) + (runEnd t.mask (bits h % (t.mask + 1)) - bits h % (t.mask + 1)) <= t.mask
 refine zq3 _ _ ?_
 have := xcs (bits h) (show 0 < t.mask + 1 by omega)
 omega
theorem zji {t : SetTable} (hf : Nat -> Int) : ∀ (hs : List Int) (owner owner' : Array (Option Nat)) (k k' : Nat), owner.size = t.mask + 1 -> (∀ i, i < hs.length -> hs[i]? = some (hf (k + i))) -> zw5 t owner hf k ->
  hs.foldl (fun acc h => do
   let (owner, k) <- acc
   let j <- SetTable.layClean.free t.mask owner (turns t.mask) (bits h % (t.mask + 1)) (bits h)
   pure (owner.setIfInBounds j (some k), k + 1)) (some (owner, k)) = some (owner', k') -> owner'.size = t.mask + 1 /\ zw5 t owner' hf (k + hs.length)
 | [], owner, owner', k, k', h1, _, h3, e => by
  have e : some (owner, k) = some (owner', k') := e
  cases e
  exact ⟨h1, h3⟩
 | h :: hs, owner, owner', k, k', h1, h2, h3, e => by
  rw [List.foldl_cons] at e
  have hh : hf k = h := by have := h2 0 (by simp); simpa using this.symm
  cases hfr : SetTable.layClean.free t.mask owner (turns t.mask) (bits h % (t.mask + 1)) (bits h) with
  | none =>
   exfalso
   have e1 : (do
    let (owner, k) <- some (owner, k)
    let j <- SetTable.layClean.free t.mask owner (turns t.mask) (bits h % (t.mask + 1)) (bits h)
    pure (owner.setIfInBounds j (some k), k + 1)) = (none : Option (Array (Option Nat) × Nat)) := by
    show (SetTable.layClean.free t.mask owner (turns t.mask) (bits h % (t.mask + 1)) (bits h)).bind _ = _
    rw [hfr]; rfl
   rw [e1] at e
   have nn : ∀ l : List Int, l.foldl (fun acc h => do
    let (owner, k) <- acc
    let j <- SetTable.layClean.free t.mask owner (turns t.mask) (bits h % (t.mask + 1)) (bits h)
    pure (owner.setIfInBounds j (some k), k + 1)) (none : Option (Array (Option Nat) × Nat)) = none := by
    intro l
    induction l with
    | nil => rfl
    | cons a l ih => rw [List.foldl_cons]; exact ih
   rw [nn] at e
   cases e
  | some j' =>
   have e1 : (do
    let (owner, k) <- some (owner, k)
    let j <- SetTable.layClean.free t.mask owner (turns t.mask) (bits h % (t.mask + 1)) (bits h)
    pure (owner.setIfInBounds j (some k), k + 1)) = some (owner.setIfInBounds j' (some k), k + 1) := by
    show (SetTable.layClean.free t.mask owner (turns t.mask) (bits h % (t.mask + 1)) (bits h)).bind _ = _
    rw [hfr]; rfl
   rw [e1] at e
   obtain ⟨m, m1, m2, m3, m4⟩ := zmA (t := t) _ _ _ _ hfr
   have m2 : (iter t m (t.probeStart h)).j = j' := m2
   have m4 : ∀ m', m' < m -> (owner.getD (iter t m' (t.probeStart h)).j (some 0)).isNone = false := m4
   have jl : j' <= t.mask := by rw [<- m2]; exact ziw h m
   have hn : owner.getD j' none = none := by
    rw [ziv (by omega) none (some 0)]
    exact Option.isNone_iff_eq_none.mp m3
   have hset : ∀ i, (owner.setIfInBounds j' (some k)).getD i none = if i = j' then some k else owner.getD i none := by
    intro i
    rw [xaw, xaw, Array.getElem?_setIfInBounds]
    by_cases e : i = j'
    ·subst e; rw [if_pos rfl, if_pos rfl, if_pos (by omega)]; rfl
    ·rw [if_neg (xay e), if_neg e]
   have keep : ∀ i, (owner.getD i none).isSome = true -> ((owner.setIfInBounds j' (some k)).getD i none).isSome = true := fun i hi => by
    rw [hset]; split
    ·rfl
    ·exact hi
   have L2 : zw5 t (owner.setIfInBounds j' (some k)) hf (k + 1) := by
    intro c hc
    by_cases ec : c = k
    ·subst ec
     refine ⟨j', jl, by rw [hset, if_pos rfl], m, m1, by rw [hh]; exact m2, fun m' hm => ?_⟩
     rw [hh]
     refine keep _ ?_
     have := m4 m' hm
     rw [ziv (by have := ziw (t := t) h m'; omega) none (some 0)]
     cases hx : owner.getD (iter t m' (t.probeStart h)).j (some 0) with
     | none => rw [hx] at this; cases this
     | some _ => rfl
    ·obtain ⟨j, j1, j2, m, n1, n2, n3⟩ := h3 c (by omega)
     refine ⟨j, j1, ?_, m, n1, n2, fun m' hm => keep _ (n3 m' hm)⟩
     rw [hset, if_neg (fun z => by rw [z, hn] at j2; cases j2)]
     exact j2
   have := zji hf hs _ owner' (k + 1) k' (by rw [Array.size_setIfInBounds]; exact h1) (fun i hi => by
    have := h2 (i + 1) (by simp; omega)
    rw [xcw] at this
    rw [this, show k + (i + 1) = k + 1 + i by omega]) L2 e
   rw [xar, show k + (hs.length + 1) = k + 1 + hs.length by omega]
   exact this
theorem fm_get {α β : Type} (f : α -> Option β) : ∀ (l : List α), (∀ a ∈ l, (f a).isSome = true) -> ∀ i : Nat, (l.filterMap f)[i]? = (l[i]?).bind f
 | [], _, i => by simp
 | a :: l, h, i => by
  obtain ⟨b, hb⟩ := xbb.mp (h a xal)
  rw [xa6 hb]
  cases i with
  | zero => simp [hb]
  | succ i => rw [xcw, xcw]; exact fm_get f l (fun x hx => h x (xaf _ hx)) i
theorem znM {β : Type} (f : Nat -> Option β) : ∀ l : List Nat, l.Pairwise (· < ·) -> ((l.filterMap fun j => (f j).map (j, ·)).map (·.1)).Pairwise (· < ·)
 | [], _ => List.Pairwise.nil
 | a :: l, h => by
  rw [List.pairwise_cons] at h
  cases e : f a with
  | none => rw [xbc (by rw [e]; rfl)]; exact znM f l h.2
  | some b =>
   rw [xa6 (b := (a, b)) (by rw [e]; rfl), xaz, List.pairwise_cons]
   refine ⟨fun x hx => ?_, znM f l h.2⟩
   obtain ⟨⟨j, v⟩, hm, rfl⟩ := xbf.mp hx
   obtain ⟨i, hi, hv⟩ := xbl.mp hm
   cases hx : f i with
   | none => rw [hx] at hv; cases hv
   | some u =>
    rw [hx] at hv
    have hv : some (i, u) = some (j, v) := hv
    cases hv
    exact h.1 _ hi
theorem zq4 {β : Type} {f : Nat -> Option β} {l : List Nat} {j : Nat} {b : β} (hj : j ∈ l) (hb : f j = some b) : (j, b) ∈ l.filterMap fun j => (f j).map (j, ·) := xbl.mpr ⟨j, hj, by rw [hb]; rfl⟩
end SetT
namespace DL
open L2
inductive D where
 | non | bl (b : Bool) | int (i : Int) | str (x : Str) | ty (n : String) | cls (c : Str)
 | tup (xs : List D) | lst (xs : List D) | dct (ks : List Key) (vs : List D) | exc (c : Str) (as : List D)
instance : Inhabited D := ⟨.non⟩
inductive R (α : Type) where
 | ok (a : α) | err (e : D) | bad
def R.bind {α β : Type} : R α -> (α -> R β) -> R β
 | .ok a, k => k a
 | .err e, _ => .err e
 | .bad, _ => .bad
def RW {α : Type} (r : R α) (Q : α -> Prop) (E : D -> Prop) : Prop := match r with
 | .ok a => Q a
 | .err e => E e
 | .bad => False
theorem RW.mono {α : Type} {r : R α} {Q Q' : α -> Prop} {E E' : D -> Prop} (h : RW r Q E) (hq : ∀ a, r = .ok a -> Q a -> Q' a) (he : ∀ e, E e -> E' e) : RW r Q' E' := by
 cases r with
 | ok a => exact hq a rfl h
 | err e => exact he e h
 | bad => exact h
theorem RW.of_bind {α β : Type} {r : R α} {k : α -> R β} {Q : β -> Prop} {E : D -> Prop} (h : RW (r.bind k) Q E) : RW r (fun a => RW (k a) Q E) E := by
 cases r with
 | ok a => exact h
 | err e => exact h
 | bad => exact h
def zcN : List Str := ["ChalkError", "NoPlace", "Same", "NoFloor", "Endless", "NoDeed", "NoText", "NoName", "TooMany", "NoChange", "NoFrame", "NoValue", "Unlike", "NoRatio", "NoBow", "NoRow"]
def zjj (c d : Str) : Option Bool := bif zcN.contains c && zcN.contains d then some (c == d || d == "ChalkError") else none
structure zkf (K : xFg) (mg : Str -> Option Value) (c : Str) (C : Addr) : Prop where
 here : mg c = some (.ref C)
 exc : zpu K C
 isi : ∀ d Dd b, zjj c d = some b -> mg d = some (.ref Dd) -> PySem.W.kitOne K (.ref C) (.ref Dd) = some b
 val : PySem.W.kitOne K (.ref C) (.type "ValueError") = some true
 ctc : ∀ d Dd, zjj c d = some true -> mg d = some (.ref Dd) -> PySem.W.exmOne K (.ref C) (.ref Dd) = some true
def znN (G : Hp) (dct : Option Addr) (vs : List V) : Prop := (dct = none /\ vs = []) \/ ∃ dx v, dct = some dx /\ vs = [v] /\ G dx = some (.xd [("at", v)])
mutual
def Rep (K : xFg) (mg : Str -> Option Value) (G : Hp) : D -> V -> Prop
 | .non, v => v = .non
 | .bl b, v => v = .bl b
 | .int i, v => v = .int i
 | .str x, v => v = .str x
 | .ty n, v => v = .ty n
 | .cls c, v => ∃ C, v = .ref C /\ mg c = some (.ref C)
 | .tup ds, v => ∃ a vs, v = .ref a /\ SqT K G a vs /\ Reps K mg G ds vs
 | .lst ds, v => ∃ a vs, v = .ref a /\ SqL K G a vs /\ Reps K mg G ds vs
 | .dct ks ds, v => ∃ a vs, v = .ref a /\ Rd G a (.dK (ks.zip vs)) /\ ks.length = vs.length /\ Reps K mg G ds vs
 | .exc c as, v => ∃ x C dct vs, v = .ref x /\ G x = some (zkX x C dct) /\ zkf K mg c C /\ znN G dct vs /\ Reps K mg G as vs
def Reps (K : xFg) (mg : Str -> Option Value) (G : Hp) : List D -> List V -> Prop
 | [], vs => vs = []
 | d :: ds, vs => ∃ v r, vs = v :: r /\ Rep K mg G d v /\ Reps K mg G ds r
end
def ExcR (K : xFg) (mg : Str -> Option Value) (G : Hp) (e : D) (C : Addr) (dct : Option Addr) : Prop := ∃ c as vs, e = .exc c as /\ zkf K mg c C /\ znN G dct vs /\ Reps K mg G as vs
section
variable {K : xFg} {mg : Str -> Option Value} {G G' H H' : Hp}
theorem zaF.sqT {a : Addr} {xs : List V} (e : zaF G G') (h : SqT K G a xs) : SqT K G' a xs := e.tup h
theorem zaF.rd {a : Addr} {u : HO} (e : zaF G G') (h : Rd G a u) : Rd G' a u := by
 rcases h with h | ⟨o, h⟩
 ·exact .inl (e _ _ h)
 ·exact .inr ⟨o, e _ _ h⟩
theorem znN.mono {dct : Option Addr} {vs : List V} (e : zaF G G') (h : znN G dct vs) : znN G' dct vs := by
 rcases h with h | ⟨dx, v, h1, h2, h3⟩
 ·exact .inl h
 ·exact .inr ⟨dx, v, h1, h2, e _ _ h3⟩
mutual
theorem Rep.mono (e : zaF G G') : ∀ {d : D} {v : V}, Rep K mg G d v -> Rep K mg G' d v
 | .non, _, h => h
 | .bl _, _, h => h
 | .int _, _, h => h
 | .str _, _, h => h
 | .ty _, _, h => h
 | .cls _, _, h => h
 | .tup _, _, ⟨a, vs, h1, h2, h3⟩ => ⟨a, vs, h1, zaF.sqT e h2, Reps.mono e h3⟩
 | .lst _, _, ⟨a, vs, h1, h2, h3⟩ => ⟨a, vs, h1, e.seq h2, Reps.mono e h3⟩
 | .dct _ _, _, ⟨a, vs, h1, h2, h3, h4⟩ => ⟨a, vs, h1, zaF.rd e h2, h3, Reps.mono e h4⟩
 | .exc _ _, _, ⟨x, C, dct, vs, h1, h2, h3, h4, h5⟩ => ⟨x, C, dct, vs, h1, e _ _ h2, h3, h4.mono e, Reps.mono e h5⟩
theorem Reps.mono (e : zaF G G') : ∀ {ds : List D} {vs : List V}, Reps K mg G ds vs -> Reps K mg G' ds vs
 | [], _, h => h
 | _ :: _, _, ⟨v, r, h1, h2, h3⟩ => ⟨v, r, h1, Rep.mono e h2, Reps.mono e h3⟩
end
theorem Reps.length : ∀ {ds : List D} {vs : List V}, Reps K mg G ds vs -> ds.length = vs.length
 | [], _, h => by cases h; rfl
 | _ :: _, _, ⟨v, r, h1, _, h3⟩ => by cases h1; rw [xar, xar, Reps.length h3]
theorem Reps.nil : Reps K mg G [] [] := rfl
theorem Reps.cons {d : D} {v : V} {ds : List D} {vs : List V} (h : Rep K mg G d v) (t : Reps K mg G ds vs) : Reps K mg G (d :: ds) (v :: vs) := ⟨v, vs, rfl, h, t⟩
theorem Reps.append : ∀ {ds es : List D} {vs ws : List V}, Reps K mg G ds vs -> Reps K mg G es ws -> Reps K mg G (ds ++ es) (vs ++ ws)
 | [], _, _, _, h, t => by cases h; exact t
 | _ :: _, _, _, _, ⟨v, r, h1, h2, h3⟩, t => by cases h1; exact ⟨v, r ++ _, rfl, h2, h3.append t⟩
theorem Reps.get : ∀ {ds : List D} {vs : List V} {i : Nat} {d : D}, Reps K mg G ds vs -> ds[i]? = some d -> ∃ v, vs[i]? = some v /\ Rep K mg G d v
 | [], _, _, _, _, e => by simp at e
 | _ :: _, _, 0, _, ⟨v, r, h1, h2, _⟩, e => by simp at e; subst e; subst h1; exact ⟨v, rfl, h2⟩
 | _ :: ds, _, i + 1, d, ⟨v, r, h1, _, h3⟩, e => by
  subst h1
  obtain ⟨w, e1, e2⟩ := Reps.get (i := i) (d := d) h3 (by simpa using e)
  exact ⟨w, by simpa using e1, e2⟩
theorem Reps.drop : ∀ {ds : List D} {vs : List V} (n : Nat), Reps K mg G ds vs -> Reps K mg G (ds.drop n) (vs.drop n)
 | _, _, 0, h => h
 | [], _, _ + 1, h => by cases h; exact rfl
 | _ :: _, _, n + 1, ⟨_, _, h1, _, h3⟩ => by subst h1; exact h3.drop n
theorem Reps.take : ∀ {ds : List D} {vs : List V} (n : Nat), Reps K mg G ds vs -> Reps K mg G (ds.take n) (vs.take n)
 | _, _, 0, h => by simp only [List.take_zero]; exact rfl
 | [], _, _ + 1, h => by cases h; exact rfl
 | _ :: _, _, n + 1, ⟨v, _, h1, h2, h3⟩ => by subst h1; exact ⟨v, _, rfl, h2, h3.take n⟩
theorem Reps.ints (ns : List Int) : Reps K mg G (ns.map D.int) (ns.map V.int) := by
 induction ns with
 | nil => exact rfl
 | cons n r ih => exact ⟨_, _, rfl, rfl, ih⟩
theorem Reps.of_ints : ∀ {ns : List Int} {vs : List V}, Reps K mg G (ns.map D.int) vs -> vs = ns.map V.int
 | [], _, h => h
 | _ :: _, _, ⟨_, _, h1, h2, h3⟩ => by subst h1; cases h2; rw [Reps.of_ints h3]; rfl
theorem Reps.of_bools : ∀ {bs : List Bool} {vs : List V}, Reps K mg G (bs.map D.bl) vs -> vs = bs.map V.bl
 | [], _, h => h
 | _ :: _, _, ⟨_, _, h1, h2, h3⟩ => by subst h1; cases h2; rw [Reps.of_bools h3]; rfl
theorem Reps.at {ds : List D} {vs : List V} {i : Int} {d : D} (h : Reps K mg G ds vs) (e : atI ds i = some d) : ∃ v, atI vs i = some v /\ Rep K mg G d v := by
 unfold atI at e ⊢
 rw [h.length] at e
 cases q : ixN vs.length i with
 | none => rw [q] at e; cases e
 | some j => rw [q] at e; exact h.get e
structure zbh (G H G' H' : Hp) : Prop where
 g : zaF G G'
 h : zaF H H'
 e : zaF G' H'
 c : ∀ a o, H a = some o -> G a = none -> G' a = none
theorem zbh.refl (e : zaF G H) : zbh G H G H := ⟨zaF.refl _, zaF.refl _, e, fun _ _ _ h => h⟩
theorem zbh.trans {G1 H1 : Hp} (a : zbh G H G1 H1) (b : zbh G1 H1 G' H') : zbh G H G' H' :=
 ⟨a.g.trans b.g, a.h.trans b.h, b.e, fun x o p q => b.c x o (a.h x o p) (a.c x o p q)⟩
theorem zcn {p : Addr} {o : HO} (h : H p = none) : zaF H (upd H p o) := zpN h o
theorem zbh.pub {p : Addr} {o : HO} (e : zaF G H) (h : H p = none) : zbh G H (upd G p o) (upd H p o) := by
 refine ⟨zcn (e.free h), zcn h, fun b u q => ?_, fun a u p1 q1 => ?_⟩
 ·by_cases hb : b = p
  ·subst hb; rw [zan] at q ⊢; exact q
  ·rw [zak hb] at q ⊢; exact e b u q
 ·have hb : a ≠ p := zam p1 h
  rw [zak hb]; exact q1
theorem zbh.hid {p : Addr} {o : HO} (e : zaF G H) (h : H p = none) : zbh G H G (upd H p o) :=
 ⟨zaF.refl _, zcn h, e.trans (zcn h), fun _ _ _ q => q⟩
theorem zbh.heap (e : zaF G H) (h : zaF H H') : zbh G H G H' := ⟨zaF.refl _, h, e.trans h, fun _ _ _ q => q⟩
end
abbrev DSt := List (Option D)
structure Ok0 (K : xFg) (mg : Str -> Option Value) (σd : DSt) (σ : St) (G H : Hp) : Prop where
 ext : zaF G H
 len : σd.length = σ.length
 val : ∀ (i : Nat) (d : D), σd[i]? = some (some d) -> ∃ v, σ[i]? = some (some v) /\ Rep K mg G d v
section
variable {K : xFg} {mg : Str -> Option Value} {G G' H H' : Hp} {σd : DSt} {σ : St}
theorem Ok0.step (o : Ok0 K mg σd σ G H) (s : zbh G H G' H') : Ok0 K mg σd σ G' H' :=
 ⟨s.e, o.len, fun i d q => let ⟨v, h1, h2⟩ := o.val i d q; ⟨v, h1, h2.mono s.g⟩⟩
theorem Ok0.set {i : Nat} {d : D} {v : V} (o : Ok0 K mg σd σ G H) (h : Rep K mg G d v) : Ok0 K mg (σd.set i (some d)) (σ.set i (some v)) G H := by
 refine ⟨o.ext, by simp [o.len], fun j e q => ?_⟩
 by_cases hj : j = i
 ·subst hj
  have hl : j < σd.length := by have := (xah.mp q).1; simpa using this
  rw [xa4 hl] at q
  cases q
  exact ⟨v, by rw [xa4 (by rw [<- o.len]; exact hl)], h⟩
 ·rw [xam (xay hj)] at q ⊢
  exact o.val j e q
theorem Ok0.cons {x : Option D} {y : Option V} (o : Ok0 K mg σd σ G H) (h : ∀ d, x = some d -> ∃ v, y = some v /\ Rep K mg G d v) : Ok0 K mg (x :: σd) (y :: σ) G H := by
 refine ⟨o.ext, by simp [o.len], fun j e q => ?_⟩
 cases j with
 | zero =>
  have q' : x = some e := by simpa using q
  obtain ⟨v, h1, h2⟩ := h e q'
  exact ⟨v, by simp [h1], h2⟩
 | succ j => exact o.val j e (by simpa using q)
theorem Ok0.nones (o : Ok0 K mg σd σ G H) : ∀ k : Nat, Ok0 K mg (List.replicate k none ++ σd) (List.replicate k none ++ σ) G H
 | 0 => o
 | k + 1 => (Ok0.nones o k).cons (x := none) (y := none) (fun d e => by cases e)
end
section
variable (K : xFg) (mg : Str -> Option Value) (E : XK)
def zao (Q : VK) (G H : Hp) (d : D) : Prop := ∀ v G' H', zbh G H G' H' -> Rep K mg G' d v -> Q v H'
def zeX (Q : Bool -> Hp -> Prop) (G H : Hp) (b : Bool) : Prop := ∀ G' H', zbh G H G' H' -> Q b H'
def zk4 (Q : List V -> Hp -> Prop) (G H : Hp) (ds : List D) : Prop := ∀ vs G' H', zbh G H G' H' -> Reps K mg G' ds vs -> Q vs H'
def zfX (Q : VK) (G H : Hp) (ds : List D) : Prop := ∀ a vs G' H', zbh G H G' H' -> H a = none -> H' a = some (.lst vs) -> G' a = none -> Reps K mg G' ds vs -> Q (.ref a) H'
def zaM (G H : Hp) (e : D) : Prop := ∀ G' H' C dct, zbh G H G' H' -> ExcR K mg G' e C dct -> E (.ref C) dct H'
def tE (f : DSt -> R D) : TE := fun σ H Q => ∃ G σd, Ok0 K mg σd σ G H /\ RW (f σd) (zao K mg Q G H) (zaM K mg E G H)
def tT (f : DSt -> R Bool) : TT := fun σ H Q => ∃ G σd, Ok0 K mg σd σ G H /\ RW (f σd) (zeX Q G H) (zaM K mg E G H)
def tAr (f : DSt -> R (List D)) : TA := fun σ H Q => ∃ G σd, Ok0 K mg σd σ G H /\ RW (f σd) (zk4 K mg Q G H) (zaM K mg E G H)
def tFr (f : DSt -> R (List D)) : TE := fun σ H Q => ∃ G σd, Ok0 K mg σd σ G H /\ RW (f σd) (zfX K mg Q G H) (zaM K mg E G H)
end
def DE (X : Cx) (E : XK) (e : Expr) (f : DSt -> R D) : Prop := PE X e (tE X.K X.mg E f)
def DT (X : Cx) (E : XK) (e : Expr) (f : DSt -> R Bool) : Prop := PT X e (tT X.K X.mg E f)
def DW (X : Cx) (E : XK) (e : Expr) (f : DSt -> R Bool) : Prop := PW X e (tT X.K X.mg E f)
def DA (X : Cx) (E : XK) (es : List Expr) (f : DSt -> R (List D)) : Prop := PA X es (tAr X.K X.mg E f)
def DF (X : Cx) (E : XK) (e : Expr) (f : DSt -> R (List D)) : Prop := PE X e (tFr X.K X.mg E f)
section
variable {X : Cx} {E : XK} {K : xFg} {mg : Str -> Option Value} {G G1 H H1 : Hp}
theorem PE.mono' {e : Expr} {t t' : TE} (h : PE X e t) (m : ∀ σ H Q, t' σ H Q -> t σ H Q) : PE X e t' := fun pins s σ H Q I q => h pins s σ H Q I (m σ H Q q)
theorem PT.mono' {e : Expr} {t t' : TT} (h : PT X e t) (m : ∀ σ H Q, t' σ H Q -> t σ H Q) : PT X e t' := fun pins s σ H Q I q => h pins s σ H Q I (m σ H Q q)
theorem PW.mono' {e : Expr} {t t' : TT} (h : PW X e t) (m : ∀ σ H Q, t' σ H Q -> t σ H Q) : PW X e t' := fun wh pins s σ H Q I q => h wh pins s σ H Q I (m σ H Q q)
theorem PA.mono' {es : List Expr} {t t' : TA} (h : PA X es t) (m : ∀ σ H Q, t' σ H Q -> t σ H Q) : PA X es t' := fun pos pins s σ H Q I q => h pos pins s σ H Q I (m σ H Q q)
theorem PS.mono' {st : Stmt} {t t' : TS} (h : PS X st t) (m : ∀ D σ H, t' D σ H -> t D σ H) : PS X st t' := fun pins s σ H D I q => h pins s σ H D I (m D σ H q)
theorem PSs.mono' {st : List Stmt} {t t' : TS} (h : PSs X st t) (m : ∀ D σ H, t' D σ H -> t D σ H) : PSs X st t' := fun pins s σ H D I q => h pins s σ H D I (m D σ H q)
theorem zao.step {Q : VK} {d : D} (h : zao K mg Q G H d) (s : zbh G H G1 H1) : zao K mg Q G1 H1 d := fun v G' H' s' r => h v G' H' (s.trans s') r
theorem zaM.step {e : D} (h : zaM K mg E G H e) (s : zbh G H G1 H1) : zaM K mg E G1 H1 e := fun G' H' C dct s' r => h G' H' C dct (s.trans s') r
theorem zeX.step {Q : Bool -> Hp -> Prop} {b : Bool} (h : zeX Q G H b) (s : zbh G H G1 H1) : zeX Q G1 H1 b := fun G' H' s' => h G' H' (s.trans s')
theorem zfX.step {Q : VK} {ds : List D} (h : zfX K mg Q G H ds) (s : zbh G H G1 H1) : zfX K mg Q G1 H1 ds := fun a vs G' H' s' n e g r => h a vs G' H' (s.trans s') (s.h.free n) e g r
theorem zao.now {Q : VK} {d : D} {v : V} (h : zao K mg Q G H d) (e : zaF G H) (r : Rep K mg G d v) : Q v H := h v G H (.refl e) r
theorem DF.de {e : Expr} {f : DSt -> R (List D)} (h : DF X E e f) : DE X E e (fun σ => (f σ).bind fun ds => .ok (.lst ds)) := by
 refine PE.mono' h fun σ H Q ⟨G, σd, ok, q⟩ => ⟨G, σd, ok, q.of_bind.mono (fun ds _ q => ?_) fun _ z => z⟩
 intro a vs G' H' s n e g r
 have q' : zao X.K X.mg Q G H (.lst ds) := q
 have sg : zaF G' (upd G' a (.lst vs)) := zcn g
 refine q' (.ref a) (upd G' a (.lst vs)) H' ⟨s.g.trans sg, s.h, fun b u p => ?_, fun b u p1 p2 => ?_⟩ ⟨a, vs, rfl, SqL.of zan, r.mono sg⟩
 ·by_cases hb : b = a
  ·subst hb; rw [zan] at p; cases p; exact e
  ·rw [zak hb] at p; exact s.e b u p
 ·have hb : b ≠ a := zam p1 n
  rw [zak hb]; exact s.c b u p1 p2
def zae (i : Nat) : DSt -> R D := fun σ => match σ[i]? with
 | some (some d) => .ok d
 | _ => .bad
theorem zuM (i : Nat) {x : Str} {pos : Pos} (hN : X.N[i]? = some x := by rfl) (hv : Vis X.env.scope x := by first | exact Or.inl rfl | exact Or.inr (Or.inl rfl) | exact Or.inr (Or.inr rfl)) (hd : (x == ("__debug__" : Str)) = false := by decide)
  (hcd : (x == ("__classdict__" : Str)) = false := by decide) : DE X E (.Name x pos) (zae i) := by
 refine PE.mono' (pv i hN hv hd hcd) fun σ H Q ⟨G, σd, ok, q⟩ => ?_
 unfold zae at q
 split at q
 ·rename_i d e
  obtain ⟨v, h1, h2⟩ := ok.val i d e
  exact ⟨v, h1, zao.now q ok.ext h2⟩
 ·exact q.elim
def eC (d : D) : DSt -> R D := fun _ => .ok d
theorem zeY {i j pos} : DE X E (.Constant (.int i) j pos) (eC (.int i)) := PE.mono' ztT fun _ _ _ ⟨_, _, ok, q⟩ => zao.now q ok.ext rfl
theorem zw6 {b j pos} : DE X E (.Constant (.bool b) j pos) (eC (.bl b)) := PE.mono' zwn fun _ _ _ ⟨_, _, ok, q⟩ => zao.now q ok.ext rfl
theorem zq5 {j pos} : DE X E (.Constant .none j pos) (eC .non) := PE.mono' ztU fun _ _ _ ⟨_, _, ok, q⟩ => zao.now q ok.ext rfl
theorem znO {x j pos} : DE X E (.Constant (.str x) j pos) (eC (.str x)) := PE.mono' ztV fun _ _ _ ⟨_, _, ok, q⟩ => zao.now q ok.ext rfl
theorem znP {x : Str} {d : D} {v : V} {u : Value} {pos : Pos} (hm : X.mg x = some u) (r : zbg v u) (rp : ∀ G, Rep X.K X.mg G d v) (hg : Gl X x := by rfl) (hd : (x == ("__debug__" : Str)) = false := by decide) : DE X E (.Name x pos) (eC d) :=
 PE.mono' (zsa hg hm r hd) fun _ _ _ ⟨_, _, ok, q⟩ => zao.now q ok.ext (rp _)
theorem zq6 {x : Str} {C : Addr} {pos : Pos} (hm : X.mg x = some (.ref C)) (hg : Gl X x := by rfl) (hd : (x == ("__debug__" : Str)) = false := by decide) : DE X E (.Name x pos) (eC (.cls x)) :=
 znP hm (v := .ref C) rfl (fun _ => ⟨C, rfl, hm⟩) hg hd
theorem zgJ {x : Str} {n : String} {pos : Pos} (hm : X.mg x = none) (hv : bootBuiltins x = some (.type n) := by rfl) (hg : Gl X x := by rfl) (hn : x ≠ "__name__" := by decide) (hd : (x == ("__debug__" : Str)) = false := by decide) : DE X E (.Name x pos) (eC (.ty n)) :=
 PE.mono' (zsb hg hm hv (v := .ty n) rfl hn hd) fun _ _ _ ⟨_, _, ok, q⟩ => zao.now q ok.ext rfl
def zuN {α : Type} : DSt -> R α := fun _ => .bad
def OpD (K : xFg) (mg : Str -> Option Value) (r : R2) (g : D -> D -> R D) : Prop :=
 ∀ (G H : Hp) (a b : D) (x y : V) (Q : VK), zaF G H -> Rep K mg G a x -> Rep K mg G b y -> RW (g a b) (zao K mg Q G H) (fun _ => False) -> r x y H Q
def eOp (g : D -> D -> R D) (fa fb : DSt -> R D) : DSt -> R D := fun σ => (fa σ).bind fun x => (fb σ).bind fun y => g x y
theorem zcu {f : DSt -> R D} {α : Type} {k : D -> R α} {σ : St} {H : Hp} {Q : VK} {P : Hp -> Hp -> α -> Prop} {G : Hp} {σd : DSt}
  (ok : Ok0 K mg σd σ G H) (q : RW ((f σd).bind k) (P G H) (zaM K mg E G H))
  (h : ∀ d v G' H', zbh G H G' H' -> Ok0 K mg σd σ G' H' -> Rep K mg G' d v -> RW (k d) (P G H) (zaM K mg E G' H') -> Q v H') : tE K mg E f σ H Q :=
 ⟨G, σd, ok, q.of_bind.mono (fun d _ q v G' H' s r => h d v G' H' s (ok.step s) r (q.mono (fun _ _ z => z) fun e z => z.step s)) fun _ z => z⟩
theorem noX {α : Type} {r : R α} {Q : α -> Prop} {E' : D -> Prop} (hr : ∀ e, r ≠ .err e) (h : RW r Q E') : RW r Q (fun _ => False) := by
 cases r with
 | ok a => exact h
 | err e => exact absurd rfl (hr e)
 | bad => exact h
def zfJ (g : D -> D -> R D) : Prop := ∀ a b e, g a b ≠ .err e
theorem zk5 {r : R2} {g : D -> D -> R D} (hd : OpD X.K X.mg r g) (hn : zfJ g) {fa fb : DSt -> R D} {σ : St} {H : Hp} {Q : VK} (h : tE X.K X.mg E (eOp g fa fb) σ H Q) : tOp r (tE X.K X.mg E fa) (tE X.K X.mg E fb) σ H Q := by
 obtain ⟨G, σd, ok, q⟩ := h
 refine zcu (P := zao X.K X.mg Q) ok q fun a x G1 H1 s1 ok1 r1 q1 => ?_
 refine zcu (P := fun _ _ => zao X.K X.mg Q G H) ok1 q1 fun b y G2 H2 s2 ok2 r2 q2 => ?_
 exact hd G2 H2 a b x y Q ok2.ext (r1.mono s2.g) r2 (noX (hn a b) (q2.mono (fun _ _ z => z.step (s1.trans s2)) fun _ z => z))
variable {a b c : Expr} {fa fb fc : DSt -> R D} {pos : Pos}
theorem zmB {op : Operator} {r : R2} {g : D -> D -> R D} (ho : OpR X (binaryOp op) r) (hd : OpD X.K X.mg r g) (hn : zfJ g) (ha : DE X E a fa) (hb : DE X E b fb) : DE X E (.BinOp a op b pos) (eOp g fa fb) :=
 PE.mono' (zwx ho ha hb) fun _ _ _ h => zk5 hd hn h
theorem zuO {op : CmpOp} {r : R2} {g : D -> D -> R D} (ho : OpR X (compareOp op) r) (hd : OpD X.K X.mg r g) (hn : zfJ g) (ha : DE X E a fa) (hb : DE X E b fb) (hm : behindInMarks op b = false := by first | exact za3 _ (by decide) (by decide) | rfl) : DE X E (.Compare a [op] [b] pos) (eOp g fa fb) :=
 PE.mono' (zsk ho ha hb hm) fun _ _ _ h => zk5 hd hn h
def asB : D -> R Bool
 | .bl b => .ok b
 | _ => .bad
def zau (f : DSt -> R D) : DSt -> R Bool := fun σ => (f σ).bind asB
theorem zix {t : TE} {f : DSt -> R D} (h : ∀ σ H Q, tE X.K X.mg E f σ H Q -> t σ H Q) {σ : St} {H : Hp} {Q : Bool -> Hp -> Prop} (q : tT X.K X.mg E (zau f) σ H Q) : zsl t σ H Q := by
 obtain ⟨G, σd, ok, q⟩ := q
 refine h σ H _ ⟨G, σd, ok, q.of_bind.mono (fun d _ q v G' H' s r => ?_) fun _ z => z⟩
 cases d with
 | bl k => cases r; exact ⟨k, rfl, (show zeX Q G H k from q) G' H' s⟩
 | _ => exact (show False from q).elim
theorem zuP {op : CmpOp} {r : R2} {g : D -> D -> R D} (ho : OpR X (compareOp op) r) (hd : OpD X.K X.mg r g) (hn : zfJ g) (ha : DE X E a fa) (hb : DE X E b fb) (hm : behindInMarks op b = false := by first | exact za3 _ (by decide) (by decide) | rfl) : DT X E (.Compare a [op] [b] pos) (zau (eOp g fa fb)) :=
 PT.mono' (zsm ho ha hb hm) fun _ _ _ q => zix (fun _ _ _ h => zk5 hd hn h) q
def zhS (g g' : D -> D -> R D) (fa fb fc : DSt -> R D) : DSt -> R D := fun σ => (fa σ).bind fun x => (fb σ).bind fun y => (g x y).bind fun z => (asB z).bind fun k => bif k then (fc σ).bind fun w => g' y w else .ok (.bl false)
theorem znQ {r r' : R2} {g g' : D -> D -> R D} (hd : OpD X.K X.mg r g) (hn : zfJ g) (hd' : OpD X.K X.mg r' g') (hn' : zfJ g') {σ : St} {H : Hp} {Q : VK} (h : tE X.K X.mg E (zhS g g' fa fb fc) σ H Q) :
  zqS r r' (tE X.K X.mg E fa) (tE X.K X.mg E fb) (tE X.K X.mg E fc) σ H Q := by
 obtain ⟨G, σd, ok, q⟩ := h
 refine zcu (P := zao X.K X.mg Q) ok q fun a x G1 H1 s1 ok1 r1 q1 => ?_
 refine zcu (P := fun _ _ => zao X.K X.mg Q G H) ok1 q1 fun b y G2 H2 s2 ok2 r2 q2 => ?_
 refine hd G2 H2 a b x y _ ok2.ext (r1.mono s2.g) r2 ?_
 have s12 := s1.trans s2
 cases ez : g a b with
 | bad => rw [ez] at q2; exact q2.elim
 | err e => exact absurd ez (hn a b e)
 | ok z =>
  rw [ez] at q2
  intro v G3 H3 s3 r3
  cases z with
  | bl k =>
   cases r3
   have ok3 := ok2.step s3
   have s13 := s12.trans s3
   refine ⟨k, rfl, ?_⟩
   cases k with
   | false =>
    rw [if_neg xau]
    have q3 : zao X.K X.mg Q G H (.bl false) := q2
    exact q3 _ G3 H3 s13 rfl
   | true =>
    rw [if_pos rfl]
    have q3 : RW ((fc σd).bind fun w => g' b w) (zao X.K X.mg Q G H) (zaM X.K X.mg E G2 H2) := q2
    refine zcu (k := fun w => g' b w) (P := fun _ _ => zao X.K X.mg Q G H) ok3 (q3.mono (fun _ _ z => z) fun _ z => z.step s3) fun c w G4 H4 s4 ok4 r4 q4 => ?_
    exact hd' G4 H4 b c y w Q ok4.ext (r2.mono (s3.g.trans s4.g)) r4 (noX (hn' b c) (q4.mono (fun _ _ z => z.step (s13.trans s4)) fun _ z => z))
  | _ => exact (show False from q2).elim
theorem zp6 {op op' : CmpOp} {r r' : R2} {g g' : D -> D -> R D} (ho : OpR X (compareOp op) r) (hd : OpD X.K X.mg r g) (hn : zfJ g) (ho' : OpR X (compareOp op') r') (hd' : OpD X.K X.mg r' g') (hn' : zfJ g') (ha : DE X E a fa) (hb : DE X E b fb) (hc : DE X E c fc)
  (hm : lastMarks [op, op'] [b, c] = false := by with_unfolding_all rfl) : DT X E (.Compare a [op, op'] [b, c] pos) (zau (zhS g g' fa fb fc)) :=
 PT.mono' (zpE ho ho' ha hb hc hm) fun _ _ _ q => zix (fun _ _ _ h => znQ hd hn hd' hn' h) q
theorem zeZ {e : Expr} {f : DSt -> R D} (h : DE X E e f) (he : ∀ whole, isTrue e X.env whole = (do let v <- whole; standAt e.pos; holding [v] (truthy v)) := by intro _; rfl) : DT X E e (zau f) :=
 PT.mono' (ztW h he) fun σ H Q q => zix (t := tE X.K X.mg E f) (fun _ _ _ h => h) q
theorem DW.dt {e : Expr} {f : DSt -> R Bool} (h : DW X E e f) : DT X E e f := h _
variable {zbR : List Expr} {ga gb : DSt -> R Bool}
def ztK (fa fb : DSt -> R Bool) : DSt -> R Bool := fun σ => (fa σ).bind fun k => bif k then fb σ else .ok false
def eOr (fa fb : DSt -> R Bool) : DSt -> R Bool := fun σ => (fa σ).bind fun k => bif k then .ok true else fb σ
def zhT (fa : DSt -> R Bool) : DSt -> R Bool := fun σ => (fa σ).bind fun k => .ok (!k)
theorem zkp {f : DSt -> R Bool} {α : Type} {k : Bool -> R α} {σ : St} {H : Hp} {Q : Bool -> Hp -> Prop} {P : α -> Prop} {G : Hp} {σd : DSt}
  (ok : Ok0 K mg σd σ G H) (q : RW ((f σd).bind k) P (zaM K mg E G H))
  (h : ∀ b G' H', zbh G H G' H' -> Ok0 K mg σd σ G' H' -> RW (k b) P (zaM K mg E G' H') -> Q b H') : tT K mg E f σ H Q :=
 ⟨G, σd, ok, q.of_bind.mono (fun d _ q G' H' s => h d G' H' s (ok.step s) (q.mono (fun _ _ z => z) fun e z => z.step s)) fun _ z => z⟩
theorem zkq (ha : DT X E a ga) : DW X E (.BoolOp .And [a] pos) ga := zsc ha
theorem zk6 (ha : DT X E a ga) : DW X E (.BoolOp .Or [a] pos) ga := ztX ha
theorem znR (ha : DT X E a ga) (hb : DW X E (.BoolOp .And (b :: zbR) pos) gb) : DW X E (.BoolOp .And (a :: b :: zbR) pos) (ztK ga gb) := by
 refine PW.mono' (ztY ha hb) fun σ H Q ⟨G, σd, ok, q⟩ => ?_
 refine zkp ok q fun k G' H' s ok' q' => ?_
 cases k with
 | true => rw [if_pos rfl]; exact ⟨G', σd, ok', q'.mono (fun _ _ z => z.step s) fun _ z => z⟩
 | false => rw [if_neg xau]; exact (show zeX Q G H false from q') G' H' s
theorem zhr (ha : DT X E a ga) (hb : DW X E (.BoolOp .Or (b :: zbR) pos) gb) : DW X E (.BoolOp .Or (a :: b :: zbR) pos) (eOr ga gb) := by
 refine PW.mono' (zwo ha hb) fun σ H Q ⟨G, σd, ok, q⟩ => ?_
 refine zkp ok q fun k G' H' s ok' q' => ?_
 cases k with
 | true => rw [if_pos rfl]; exact (show zeX Q G H true from q') G' H' s
 | false => rw [if_neg xau]; exact ⟨G', σd, ok', q'.mono (fun _ _ z => z.step s) fun _ z => z⟩
theorem zdX (ha : DT X E a ga) : DT X E (.UnaryOp .Not a pos) (zhT ga) := by
 refine PT.mono' (ztZ ha) fun σ H Q ⟨G, σd, ok, q⟩ => ?_
 exact zkp ok q fun k G' H' s _ q' => (show zeX Q G H (!k) from q') G' H' s
def zp7 (fa fb : DSt -> R D) : DSt -> R D := fun σ => (fa σ).bind fun x => (asB x).bind fun k => bif k then fb σ else .ok (.bl false)
def vOr (fa fb : DSt -> R D) : DSt -> R D := fun σ => (fa σ).bind fun x => (asB x).bind fun k => bif k then .ok (.bl true) else fb σ
def ztL (fa : DSt -> R D) : DSt -> R D := fun σ => (fa σ).bind fun x => (asB x).bind fun k => .ok (.bl !k)
theorem znS {op} {f : DSt -> R D} (h : DE X E a f) : DE X E (.BoolOp op [a] pos) f := zt0 h
theorem zhU (ha : DE X E a fa) (hb : DE X E (.BoolOp .And (b :: zbR) pos) fb) : DE X E (.BoolOp .And (a :: b :: zbR) pos) (zp7 fa fb) := by
 refine PE.mono' (zt1 ha hb) fun σ H Q ⟨G, σd, ok, q⟩ => ?_
 refine zcu (P := zao X.K X.mg Q) ok q fun d v G' H' s ok' r q' => ?_
 cases d with
 | bl k =>
  cases r
  refine ⟨k, rfl, ?_⟩
  cases k with
  | true => rw [if_pos rfl]; exact ⟨G', σd, ok', q'.mono (fun _ _ z => z.step s) fun _ z => z⟩
  | false => rw [if_neg xau]; exact (show zao X.K X.mg Q G H (.bl false) from q') _ G' H' s rfl
 | _ => exact (show False from q').elim
theorem zw7 (ha : DE X E a fa) (hb : DE X E (.BoolOp .Or (b :: zbR) pos) fb) : DE X E (.BoolOp .Or (a :: b :: zbR) pos) (vOr fa fb) := by
 refine PE.mono' (zwr ha hb) fun σ H Q ⟨G, σd, ok, q⟩ => ?_
 refine zcu (P := zao X.K X.mg Q) ok q fun d v G' H' s ok' r q' => ?_
 cases d with
 | bl k =>
  cases r
  refine ⟨k, rfl, ?_⟩
  cases k with
  | true => rw [if_pos rfl]; exact (show zao X.K X.mg Q G H (.bl true) from q') _ G' H' s rfl
  | false => rw [if_neg xau]; exact ⟨G', σd, ok', q'.mono (fun _ _ z => z.step s) fun _ z => z⟩
 | _ => exact (show False from q').elim
theorem znT (ha : DE X E a fa) : DE X E (.UnaryOp .Not a pos) (ztL fa) := by
 refine PE.mono' (zt2 ha) fun σ H Q ⟨G, σd, ok, q⟩ => ?_
 refine zcu (P := zao X.K X.mg Q) ok q fun d v G' H' s ok' r q' => ?_
 cases d with
 | bl k => cases r; exact ⟨k, rfl, (show zao X.K X.mg Q G H (.bl !k) from q') _ G' H' s rfl⟩
 | _ => exact (show False from q').elim
def eIf (c : DSt -> R Bool) (fa fb : DSt -> R D) : DSt -> R D := fun σ => (c σ).bind fun k => bif k then fa σ else fb σ
def UnD (K : xFg) (mg : Str -> Option Value) (r : V -> Hp -> VK -> Prop) (g : D -> R D) : Prop :=
 ∀ (G H : Hp) (a : D) (x : V) (Q : VK), zaF G H -> Rep K mg G a x -> RW (g a) (zao K mg Q G H) (fun _ => False) -> r x H Q
def eUn (g : D -> R D) (fa : DSt -> R D) : DSt -> R D := fun σ => (fa σ).bind g
theorem zw8 {op : UnaryOp} {r : V -> Hp -> VK -> Prop} {g : D -> R D} (ho : UnR X (unaryOp op) r) (hd : UnD X.K X.mg r g) (hn : ∀ a e, g a ≠ .err e) (ha : DE X E a fa) : DE X E (.UnaryOp op a pos) (eUn g fa) := by
 refine PE.mono' (zwy ho ha) fun σ H Q ⟨G, σd, ok, q⟩ => ?_
 refine zcu (P := zao X.K X.mg Q) ok q fun d v G' H' s ok' r q' => ?_
 exact hd G' H' d v Q ok'.ext r (noX (hn d) (q'.mono (fun _ _ z => z.step s) fun _ z => z))
def zaj : DSt -> R (List D) := fun _ => .ok []
def zaa (fa : DSt -> R D) (fs : DSt -> R (List D)) : DSt -> R (List D) := fun σ => (fa σ).bind fun x => (fs σ).bind fun xs => .ok (x :: xs)
variable {es : List Expr} {fs : DSt -> R (List D)}
theorem zbE : DA X E [] zaj := PA.mono' zqT fun σ H Q ⟨G, σd, ok, q⟩ => (show zk4 X.K X.mg Q G H [] from q) [] G H (.refl ok.ext) Reps.nil
theorem zay (ha : DE X E a fa) (hr : DA X E es fs) (hs : starEach (a :: es) X.env = (false, eval a X.env) :: starEach es X.env := by rfl) : DA X E (a :: es) (zaa fa fs) := by
 refine PA.mono' (znj ha hr hs) fun σ H Q ⟨G, σd, ok, q⟩ => ?_
 refine zcu (P := zk4 X.K X.mg Q) ok q fun d v G' H' s ok' r q' => ?_
 refine ⟨G', σd, ok', q'.of_bind.mono (fun ds _ z vs G2 H2 s2 r2 => ?_) fun _ z => z⟩
 exact (show zk4 X.K X.mg Q G H (d :: ds) from z) _ G2 H2 (s.trans s2) (Reps.cons (r.mono s2.g) r2)
def few (n : Nat) : Bool := decide (n <= 1000)
theorem znU {n : Nat} (h : few n = true) : n <= sizeLine := zwP (of_decide_eq_true h)
def zgk (fs : DSt -> R (List D)) : DSt -> R D := fun σ => (fs σ).bind fun ds => bif few ds.length then .ok (.tup ds) else .bad
theorem znV {α : Type} {k : List D -> R α} {σ : St} {H : Hp} {Q : List V -> Hp -> Prop} {P : α -> Prop} {G : Hp} {σd : DSt}
  (ok : Ok0 K mg σd σ G H) (q : RW ((fs σd).bind k) P (zaM K mg E G H))
  (h : ∀ ds vs G' H', zbh G H G' H' -> Ok0 K mg σd σ G' H' -> Reps K mg G' ds vs -> RW (k ds) P (zaM K mg E G' H') -> Q vs H') : tAr K mg E fs σ H Q :=
 ⟨G, σd, ok, q.of_bind.mono (fun ds _ q vs G' H' s r => h ds vs G' H' s (ok.step s) r (q.mono (fun _ _ z => z) fun e z => z.step s)) fun _ z => z⟩
theorem zuQ {x1} (h : DA X E es fs) : DE X E (.Tuple es x1 pos) (zgk fs) := by
 refine PE.mono' (zuh h) fun σ H Q ⟨G, σd, ok, q⟩ => ?_
 refine znV (P := zao X.K X.mg Q G H) ok q fun ds vs G' H' s ok' r q' => ?_
 cases hf : few ds.length with
 | false => rw [hf] at q'; exact (show False from q').elim
 | true =>
  rw [hf] at q'
  have q2 : zao X.K X.mg Q G H (.tup ds) := q'
  refine ⟨by rw [<- r.length]; exact znU hf, fun p hp => ?_⟩
  have s2 : zbh G' H' (upd G' p (.tup vs)) (upd H' p (.tup vs)) := .pub ok'.ext hp
  exact q2 _ _ _ (s.trans s2) ⟨p, vs, rfl, SqT.of zan, r.mono s2.g⟩
def zgb (fs : DSt -> R (List D)) : DSt -> R (List D) := fun σ => (fs σ).bind fun ds => bif few ds.length then .ok ds else .bad
theorem zuR (h : DA X E es fs) : DF X E (.List es pos) (zgb fs) := by
 refine PE.mono' (zui h) fun σ H Q ⟨G, σd, ok, q⟩ => ?_
 refine znV (P := zfX X.K X.mg Q G H) ok q fun ds vs G' H' s ok' r q' => ?_
 cases hf : few ds.length with
 | false => rw [hf] at q'; exact (show False from q').elim
 | true =>
  rw [hf] at q'
  have q2 : zfX X.K X.mg Q G H ds := q'
  refine ⟨by rw [<- r.length]; exact znU hf, fun p hp => ?_⟩
  exact q2 p vs G' _ (s.trans (.hid ok'.ext hp)) (s.h.free hp) zan (ok'.ext.free hp) r
def gIx : D -> D -> R D
 | .tup xs, .int i => match atI xs i with
  | some d => .ok d
  | none => .bad
 | .lst xs, .int i => match atI xs i with
  | some d => .ok d
  | none => .bad
 | _, _ => .bad
theorem zw9 : zfJ gIx := by
 intro a b e h
 cases a <;> cases b <;> simp only [gIx] at h <;> first | exact absurd h (by simp) | (split at h <;> cases h)
theorem zxa : OpD K mg (fun x y H Q => rIxL K x y H Q \/ rIxT K x y H Q) gIx := by
 intro G H a b x y Q e ra rb q
 cases b with
 | int i =>
  cases rb
  cases a with
  | lst xs =>
   obtain ⟨p, vs, rfl, h1, h2⟩ := ra
   cases ed : atI xs i with
   | none => simp only [gIx, ed] at q; exact q.elim
   | some d =>
    simp only [gIx, ed] at q
    obtain ⟨v, h3, h4⟩ := h2.at ed
    exact .inl ⟨p, vs, i, v, rfl, rfl, e.seq h1, h3, zao.now q e h4⟩
  | tup xs =>
   obtain ⟨p, vs, rfl, h1, h2⟩ := ra
   cases ed : atI xs i with
   | none => simp only [gIx, ed] at q; exact q.elim
   | some d =>
    simp only [gIx, ed] at q
    obtain ⟨v, h3, h4⟩ := h2.at ed
    exact .inr ⟨p, vs, i, v, rfl, rfl, zaF.sqT e h1, h3, zao.now q e h4⟩
  | _ => exact (show False from q).elim
 | _ => cases a <;> exact (show False from q).elim
theorem zp8 (ha : DE X E a fa) (hb : DE X E b fb) (hs : znn b := by intro _ _; rfl) : DE X E (.Subscript a b pos) (eOp gIx fa fb) :=
 PE.mono' (zwG (zsx.or zun) ha hb hs) fun _ _ _ h => zk5 zxa zw9 h
end
def spD (K : xFg) (mg : Str -> Option Value) (m : List D -> R D) : Sp := fun vs H Q E => ∃ G ds, zaF G H /\ Reps K mg G ds vs /\ RW (m ds) (zao K mg Q G H) (zaM K mg E G H)
structure zaC (P : Program) (w : World) (K : xFg) (mg : Str -> Option Value) (base : Heap) (k : Nat) (x : Str) (m : List D -> R D) : Prop where
 ex : ∃ (f : Addr) (fd : FuncData) (ps : List Str), zgj P w K mg base (CXe P w) k f fd ps (spD K mg m) /\ mg x = some (.ref f) /\ PySem.W.keepIn K (.ref f) = true /\ zgx K fd ps []
theorem zaC.mono {P : Program} {w : World} {K : xFg} {mg : Str -> Option Value} {base : Heap} {j k : Nat} {x : Str} {m : List D -> R D} (F : zaC P w K mg base j x m) (h : j <= k) : zaC P w K mg base k x m := by
 obtain ⟨f, fd, ps, h1, h2⟩ := F.ex
 exact ⟨f, fd, ps, h1.mono h, h2⟩
structure XC (X : Cx) (E : XK) (k : Nat) : Prop where
 calm : X.calm = true
 room : zeD k X.A
 pass : ziT (CXe X.prog X.w) X E
def zaq (m : List D -> R D) (fs : DSt -> R (List D)) : DSt -> R D := fun σ => (fs σ).bind m
def zgK (K : xFg) (mg : Str -> Option Value) (r : List V -> Hp -> VK -> Prop) (g : List D -> R D) : Prop :=
 ∀ (G H : Hp) (ds : List D) (vs : List V) (Q : VK), zaF G H -> Reps K mg G ds vs -> RW (g ds) (zao K mg Q G H) (fun _ => False) -> r vs H Q
def R.noerr {α : Type} : R α -> R α
 | .ok a => .ok a
 | _ => .bad
def zcv (g : List D -> R D) (fs : DSt -> R (List D)) : DSt -> R D := fun σ => (fs σ).bind fun ds => (g ds).noerr
theorem zcO {α : Type} {r : R α} {Q : α -> Prop} {E' : D -> Prop} (h : RW r.noerr Q E') : ∃ a, r = .ok a /\ Q a := by
 cases r with
 | ok a => exact ⟨a, rfl, h⟩
 | err e => exact (show False from h).elim
 | bad => exact (show False from h).elim
section
variable {X : Cx} {E : XK} {k : Nat} {x : Str} {m : List D -> R D} {p pos : Pos} {e : Expr} {es : List Expr} {fs : DSt -> R (List D)}
theorem znW (C : XC X E k) (F : zaC X.prog X.w X.K X.mg X.base k x m) (ha : DA X E (e :: es) fs) (hg : Gl X x := by rfl) (hdb : (x == ("__debug__" : Str)) = false := by decide)
  (he : starEach (e :: es) X.env = (false, eval e X.env) :: starEach es X.env := by rfl) (hpl : (backTo pos (starEach es X.env)).any (·.1) = false := by rfl) : DE X E (.Call (.Name x p) (e :: es) [] pos) (zaq m fs) := by
 obtain ⟨f, fd, ps, h1, h2, h3, h4⟩ := F.ex
 refine PE.mono' (zsp h1 C.room hg h2 h3 h4 .nil C.pass ha hdb he hpl) fun σ H Q ⟨G, σd, ok, q⟩ => ?_
 refine ⟨G, σd, ok, q.of_bind.mono (fun ds hds z vs G' H' s r => ?_) fun _ z => z⟩
 show spD X.K X.mg m (vs ++ []) H' Q E
 rw [xcl]
 exact ⟨G', ds, s.e, r, z.mono (fun _ _ z => z.step s) fun _ z => z.step s⟩
theorem zhV {id : String} {r : List V -> Hp -> VK -> Prop} {g : List D -> R D} (hc : zcK X (.builtin id) r) (hd : zgK X.K X.mg r g) (hm : X.mg x = none) (hv : bootBuiltins x = some (.builtin id)) (ha : DA X E (e :: es) fs) (hg : Gl X x := by rfl) (hn : x ≠ "__name__" := by decide) (hdb : (x == ("__debug__" : Str)) = false := by decide)
  (he : starEach (e :: es) X.env = (false, eval e X.env) :: starEach es X.env := by rfl) (hpl : (backTo pos (starEach es X.env)).any (·.1) = false := by rfl) : DE X E (.Call (.Name x p) (e :: es) [] pos) (zcv g fs) := by
 refine PE.mono' (zkV hc hg hm hv ha hn hdb he hpl) fun σ H Q ⟨G, σd, ok, q⟩ => ?_
 refine ⟨G, σd, ok, q.of_bind.mono (fun ds _ z vs G' H' s r => ?_) fun _ z => z⟩
 obtain ⟨d, e1, z⟩ := zcO z
 exact hd G' H' ds vs Q s.e r (by rw [e1]; exact z.step s)
theorem zuS {T : String} {r : List V -> Hp -> VK -> Prop} {g : List D -> R D} (hc : zcK X (.type T) r) (hd : zgK X.K X.mg r g) (hm : X.mg x = none) (ha : DA X E (e :: es) fs) (hv : bootBuiltins x = some (.type T) := by rfl) (hg : Gl X x := by rfl) (hn : x ≠ "__name__" := by decide) (hdb : (x == ("__debug__" : Str)) = false := by decide)
  (he : starEach (e :: es) X.env = (false, eval e X.env) :: starEach es X.env := by rfl) (hpl : (backTo pos (starEach es X.env)).any (·.1) = false := by rfl) : DE X E (.Call (.Name x p) (e :: es) [] pos) (zcv g fs) := by
 refine PE.mono' (zgy hc hg hm hv ha hn hdb he hpl) fun σ H Q ⟨G, σd, ok, q⟩ => ?_
 refine ⟨G, σd, ok, q.of_bind.mono (fun ds _ z vs G' H' s r => ?_) fun _ z => z⟩
 obtain ⟨d, e1, z⟩ := zcO z
 exact hd G' H' ds vs Q s.e r (by rw [e1]; exact z.step s)
end
def setAll {α : Type} : List (Option α) -> List Nat -> List α -> List (Option α)
 | σ, k :: ks, v :: vs => setAll (σ.set k (some v)) ks vs
 | σ, _, _ => σ
theorem zhW {α : Type} : ∀ (ks : List Nat) (σ : List (Option α)) (vs : List α), (setAll σ ks vs).length = σ.length
 | [], _, _ => by unfold setAll; rfl
 | _ :: _, _, [] => by unfold setAll; rfl
 | _ :: ks, σ, _ :: vs => by unfold setAll; rw [zhW ks]; simp
theorem zjk {α : Type} {j : Nat} : ∀ (ks : List Nat) (σ : List (Option α)) (vs : List α), j ∉ ks -> (setAll σ ks vs)[j]? = σ[j]?
 | [], _, _, _ => by unfold setAll; rfl
 | _ :: _, _, [], _ => by unfold setAll; rfl
 | k :: ks, σ, _ :: vs, h => by
  unfold setAll
  rw [zjk ks _ vs fun z => h (xaf _ z), xam (fun z => h (by rw [<- z]; exact xal))]
def tG (K : xFg) (mg : Str -> Option Value) (ks : List Nat) (gp : D -> R (List D)) : TG := fun v σ H Q => ∃ G d, zaF G H /\ Rep K mg G d v /\ RW (gp d) (fun us => ∀ ws, Reps K mg G us ws -> Q (setAll σ ks ws) H) (fun _ => False)
def DG (X : Cx) (tg : Expr) (ks : List Nat) (gp : D -> R (List D)) : Prop := PG X tg (tG X.K X.mg ks gp)
def zaL : D -> R (List D) := fun d => .ok [d]
def zbX (n : Nat) : D -> R (List D)
 | .tup ds => bif ds.length == n then .ok ds else .bad
 | .lst ds => bif ds.length == n then .ok ds else .bad
 | _ => .bad
section
variable {X : Cx} {pos : Pos}
theorem PG.mono' {tg : Expr} {t t' : TG} (h : PG X tg t) (m : ∀ v σ H Q, t' v σ H Q -> t v σ H Q) : PG X tg t' := fun pins s σ H v u Q I r q => h pins s σ H v u Q I r (m v σ H Q q)
theorem PG.or {tg : Expr} {t t' : TG} (h : PG X tg t) (h' : PG X tg t') : PG X tg (fun v σ H Q => t v σ H Q \/ t' v σ H Q) := fun pins s σ H v u Q I r q => by
 rcases q with q | q
 ·exact h pins s σ H v u Q I r q
 ·exact h' pins s σ H v u Q I r q
theorem zsP (i : Nat) {x : Str} (hN : X.N.Nodup) (hi : X.N[i]? = some x := by rfl) (hx : Loc X.env.scope x := by first | exact Or.inl rfl | exact Or.inr rfl) (hf : X.fn x = true \/ X.env.scope.names.lookup x = some .local := by first | exact .inl rfl | exact .inr rfl | assumption) : DG X (.Name x pos) [i] zaL :=
 PG.mono' (zna hN hi hx hf) fun v σ H Q ⟨G, d, e, r, q⟩ => by
  have q' := (show ∀ ws, Reps X.K X.mg G [d] ws -> Q (setAll σ [i] ws) H from q) [v] (Reps.cons r Reps.nil)
  exact q'
def znX : List Nat -> TGs
 | [] => gNil
 | i :: r => zt5 (ziP i) (znX r)
theorem zgL : ∀ (ks : List Nat) (vs : List V) (σ : St) (H : Hp) (Q : St -> Hp -> Prop), vs.length = ks.length -> Q (setAll σ ks vs) H -> znX ks vs σ H Q
 | [], [], _, _, _, _, q => ⟨rfl, q⟩
 | i :: r, v :: vs, σ, H, Q, hl, q => ⟨v, vs, rfl, zgL r vs _ H Q (by simpa using hl) q⟩
theorem zuT {es : List Expr} {k : Nat} (ks : List Nat) (n : Nat) (hc : X.calm = true) (h : PGs X es (znX ks)) (hk : ks.length = n := by rfl)
  (hn : (assignEach es X.env).length = n := by rfl) (hst : (assignEach es X.env).findIdx? (·.1) = none := by rfl) : DG X (.Tuple es k pos) ks (zbX n) := by
 refine PG.mono' (PG.or (zt6 hc h hn hst) (zur hc h hn hst)) fun v σ H Q ⟨G, d, e, r, q⟩ => ?_
 cases d with
 | tup ds =>
  obtain ⟨a, vs, rfl, h1, h2⟩ := r
  by_cases hd : ds.length = n
  ·have q' : ∀ ws, Reps X.K X.mg G ds ws -> Q (setAll σ ks ws) H := by
    simp only [zbX, hd, beq_self_eq_true, cond_true] at q; exact q
   exact .inl ⟨a, vs, rfl, zaF.sqT e h1, by rw [<- h2.length]; exact hd, zgL ks vs σ H Q (by rw [<- h2.length, hd, hk]) (q' vs h2)⟩
  ·have : (ds.length == n) = false := by simpa using hd
   simp only [zbX, this, cond_false] at q; exact q.elim
 | lst ds =>
  obtain ⟨a, vs, rfl, h1, h2⟩ := r
  by_cases hd : ds.length = n
  ·have q' : ∀ ws, Reps X.K X.mg G ds ws -> Q (setAll σ ks ws) H := by
    simp only [zbX, hd, beq_self_eq_true, cond_true] at q; exact q
   exact .inr ⟨a, vs, rfl, e.seq h1, by rw [<- h2.length]; exact hd, zgL ks vs σ H Q (by rw [<- h2.length, hd, hk]) (q' vs h2)⟩
  ·have : (ds.length == n) = false := by simpa using hd
   simp only [zbX, this, cond_false] at q; exact q.elim
 | _ => exact (show False from q).elim
end
theorem Ok0.setAll {K : xFg} {mg : Str -> Option Value} {G H : Hp} : ∀ {ks : List Nat} {us : List D} {ws : List V} {σd : DSt} {σ : St}, Ok0 K mg σd σ G H -> Reps K mg G us ws -> Ok0 K mg (setAll σd ks us) (setAll σ ks ws) G H
 | [], _, _, _, _, o, _ => by unfold DL.setAll; exact o
 | _ :: _, [], _, _, _, o, h => by cases h; unfold DL.setAll; exact o
 | k :: ks, _ :: _, _, _, _, o, ⟨v, r, h1, h2, h3⟩ => by subst h1; unfold DL.setAll; exact Ok0.setAll (o.set h2) h3
structure zeG (K : xFg) (mg : Str -> Option Value) (J : It) (G : Hp) (ds : List D) : Prop where
 stop : ∀ H, zaF G H -> J.stop ds.length H
 turn : ∀ (H : Hp) (i : Nat) (d : D), zaF G H -> ds[i]? = some d -> J.go i H /\ ∀ x H', J.yld i H x H' -> ∀ G1, zaF G G1 -> zaF G1 H -> ∃ G2, zbh G1 H G2 H' /\ Rep K mg G2 d x
def tI (K : xFg) (mg : Str -> Option Value) (E : XK) (f : DSt -> R (List D)) : TI := fun σ H R => ∃ G σd, Ok0 K mg σd σ G H /\ RW (f σd) (fun ds => ∀ J G' H', zbh G H G' H' -> zeG K mg J G' ds -> R J H') (zaM K mg E G H)
def DI (X : Cx) (E : XK) (tg iter : Expr) (f : DSt -> R (List D)) : Prop := PI X tg iter (tI X.K X.mg E f)
section
variable {X : Cx} {E : XK} {tg : Expr}
theorem PI.mono' {iter : Expr} {t t' : TI} (h : PI X tg iter t) (m : ∀ σ H R, t' σ H R -> t σ H R) : PI X tg iter t' := fun pins s σ H R I q => h pins s σ H R I (m σ H R q)
theorem zeG.list {K : xFg} {mg : Str -> Option Value} {G : Hp} {a : Addr} {vs : List V} {ds : List D} (h : SqL K G a vs) (r : Reps K mg G ds vs) : zeG K mg (Itl K a) G ds := by
 refine ⟨fun H e => by rw [r.length]; exact (lgo (e.seq h)).1, fun H i d e hd => ?_⟩
 have hi : i < vs.length := by rw [<- r.length]; exact (xah.mp hd).1
 obtain ⟨g1, g2⟩ := (lgo (e.seq h)).2 i hi
 refine ⟨g1, fun x H' y G1 e1 e2 => ?_⟩
 obtain ⟨rfl, hx⟩ := g2 x H' y
 obtain ⟨v, h1, h2⟩ := r.get hd
 rw [hx] at h1; cases h1
 exact ⟨G1, .refl e2, h2.mono e1⟩
theorem zeG.tup {K : xFg} {mg : Str -> Option Value} {G : Hp} {a : Addr} {vs : List V} {ds : List D} (h : SqT K G a vs) (r : Reps K mg G ds vs) : zeG K mg (Itt K a) G ds := by
 refine ⟨fun H e => by rw [r.length]; exact (tgo (zaF.sqT e h)).1, fun H i d e hd => ?_⟩
 have hi : i < vs.length := by rw [<- r.length]; exact (xah.mp hd).1
 obtain ⟨g1, g2⟩ := (tgo (zaF.sqT e h)).2 i hi
 refine ⟨g1, fun x H' y G1 e1 e2 => ?_⟩
 obtain ⟨rfl, hx⟩ := g2 x H' y
 obtain ⟨v, h1, h2⟩ := r.get hd
 rw [hx] at h1; cases h1
 exact ⟨G1, .refl e2, h2.mono e1⟩
def znY (lo : Int) (n : Nat) : List D := (List.range n).map fun (i : Nat) => D.int (lo + (i : Int))
theorem zeG.rng {K : xFg} {mg : Str -> Option Value} {G : Hp} (lo : Int) (n : Nat) : zeG K mg (Itr lo n) G (znY lo n) := by
 have hl : (znY lo n).length = n := by simp [znY]
 refine ⟨fun H e => by rw [hl]; exact xag _, fun H i d e hd => ?_⟩
 have hi : i < n := by have := (xah.mp hd).1; omega
 refine ⟨hi, fun x H' y G1 e1 e2 => ?_⟩
 obtain ⟨rfl, rfl⟩ := y
 have : d = .int (lo + (i : Int)) := by simp [znY, hi] at hd; exact hd.symm
 subst this
 exact ⟨G1, .refl e2, rfl⟩
def zuU : D -> R (List D)
 | .tup ds => .ok ds
 | .lst ds => .ok ds
 | _ => .bad
def zhX (f : DSt -> R D) : DSt -> R (List D) := fun σ => (f σ).bind zuU
theorem zuV {l : Expr} {f : DSt -> R D} (hl : DE X E l f) : DI X E tg l (zhX f) := by
 have hL : PI X tg l (zua X.K (tE X.K X.mg E f)) := zsh hl
 have hT : PI X tg l (iTup X.K (tE X.K X.mg E f)) := zub hl
 intro pins s σ H R I ⟨G, σd, ok, q⟩
 cases hf : f σd with
 | bad => unfold zhX at q; rw [hf] at q; exact (show False from q).elim
 | err e =>
  unfold zhX at q; rw [hf] at q
  refine hL pins s σ H R I ⟨G, σd, ok, ?_⟩
  rw [hf]; exact q
 | ok d =>
  unfold zhX at q; rw [hf] at q
  cases d with
  | lst ds =>
   have q' : ∀ J G' H', zbh G H G' H' -> zeG X.K X.mg J G' ds -> R J H' := q
   refine hL pins s σ H R I ⟨G, σd, ok, ?_⟩
   rw [hf]
   rintro v G' H' st ⟨a, vs, rfl, h1, h2⟩
   exact ⟨a, rfl, ⟨vs, st.e.seq h1⟩, q' _ G' H' st (.list h1 h2)⟩
  | tup ds =>
   have q' : ∀ J G' H', zbh G H G' H' -> zeG X.K X.mg J G' ds -> R J H' := q
   refine hT pins s σ H R I ⟨G, σd, ok, ?_⟩
   rw [hf]
   rintro v G' H' st ⟨a, vs, rfl, h1, h2⟩
   exact ⟨a, rfl, ⟨vs, zaF.sqT st.e h1⟩, q' _ G' H' st (.tup h1 h2)⟩
  | _ => exact (show False from q).elim
def rOk (i : Int) : Bool := Nat.blt i.natAbs 1073741824
theorem zuW {i : Int} (h : rOk i = true) : -(2 ^ 30) <= i /\ i < 2 ^ 30 := by
 unfold rOk at h
 rw [Nat.blt_eq] at h
 omega
def zhs : List D -> R (List D)
 | [.int j] => bif rOk j then .ok (znY 0 j.toNat) else .bad
 | _ => .bad
def rng2 : List D -> R (List D)
 | [.int i, .int j] => bif rOk i && rOk j then .ok (znY i (j - i).toNat) else .bad
 | _ => .bad
def zdV (g : List D -> R (List D)) (fs : DSt -> R (List D)) : DSt -> R (List D) := fun σ => (fs σ).bind g
variable {fs : DSt -> R (List D)} {a b c : Expr} {p pos : Pos}
theorem znZ (hm : X.mg "range" = none) (ha : DA X E [a] fs) (hg : Gl X "range" := by rfl) (hs : starEach [a] X.env = [(false, eval a X.env)] := by rfl) : DI X E tg (.Call (.Name "range" p) [a] [] pos) (zdV zhs fs) := by
 refine PI.mono' (znc hg hm ha hs) fun σ H R ⟨G, σd, ok, q⟩ => ?_
 refine ⟨G, σd, ok, q.of_bind.mono (fun ds _ z vs G' H' s r => ?_) fun _ z => z⟩
 match ds, z, r with
 | [.int j], z, r =>
  obtain rfl := Reps.of_ints (ns := [j]) r
  cases hj : rOk j with
  | false => simp only [zhs, hj, cond_false] at z; exact z.elim
  | true =>
   simp only [zhs, hj, cond_true] at z
   have := zuW hj
   exact ⟨j, rfl, by omega, by omega, z _ G' H' s (.rng 0 _)⟩
end
def lcD (ks : List Nat) (gp : D -> R (List D)) (c : DSt -> R Bool) (e : DSt -> R D) (σ : DSt) : List D -> R (List D)
 | [] => .ok []
 | d :: ds => (gp d).bind fun us => (c (setAll σ ks us)).bind fun k => bif k then (e (setAll σ ks us)).bind fun y => (lcD ks gp c e σ ds).bind fun ys => .ok (y :: ys) else lcD ks gp c e σ ds
def most (n : Nat) : Bool := decide (n < sizeLine)
def eLC (k : Nat) (ks : List Nat) (fi : DSt -> R (List D)) (gp : D -> R (List D)) (c : DSt -> R Bool) (e : DSt -> R D) : DSt -> R (List D) := fun σ => (fi σ).bind fun ds => bif most ds.length then (lcD ks gp c e (List.replicate k none ++ σ) ds).noerr else .bad
def zbS : DSt -> R Bool := fun _ => .ok true
def DTs (X : Cx) (E : XK) (cs : List Expr) (f : DSt -> R Bool) : Prop := PTs X cs (tT X.K X.mg E f)
theorem PTs.mono' {X : Cx} {cs : List Expr} {t t' : TT} (h : PTs X cs t) (m : ∀ σ H Q, t' σ H Q -> t σ H Q) : PTs X cs t' := fun pins s σ H Q I q => h pins s σ H Q I (m σ H Q q)
theorem zc7 {X : Cx} {E : XK} : DTs X E [] zbS := PTs.mono' zsA fun σ H Q ⟨G, σd, ok, q⟩ => (show zeX Q G H true from q) G H (.refl ok.ext)
theorem zgM {X : Cx} {E : XK} {c : Expr} {f : DSt -> R Bool} (h : DT X E c f) : DTs X E [c] f := zsB h
theorem RW.ok_of {α : Type} {r : R α} {a : α} {Q : α -> Prop} {E : D -> Prop} (e : r = .ok a) (h : Q a) : RW r Q E := by rw [e]; exact h
theorem ziy {α β : Type} {r : R α} {k : α -> R β} {b : β} (h : r.bind k = .ok b) : ∃ a, r = .ok a /\ k a = .ok b := by
 cases r with
 | ok a => exact ⟨a, rfl, h⟩
 | err e => cases h
 | bad => cases h
section
variable {X : Cx} {E : XK} {tg elt iter : Expr} {ifs : List Expr} {scope : Scope} {pos : Pos} {NY : List Str} {k : Nat} {ks : List Nat} {fi : DSt -> R (List D)} {gp : D -> R (List D)} {fc : DSt -> R Bool} {fe : DSt -> R D}
theorem zjl {k : Nat} {ks : List Nat} {σ : St} (h : ks.all (fun i => decide (i < k)) = true) (ws : List V) : zsC (List.replicate k none ++ σ) (setAll (List.replicate k none ++ σ) ks ws) := by
 refine ⟨zhW _ _ _, fun j v e => ?_⟩
 rw [zjk _ _ _ fun hj => ?_]
 ·exact e
 ·have hk : j < k := of_decide_eq_true (xa1.mp h j hj)
  rw [xb4 (by simpa using hk), xcu, if_pos hk] at e
  cases e
theorem zq7 {te : TE} {tc : TT} (hk : ks.all (fun i => decide (i < k)) = true) {σ : St} {H : Hp} {Q : VK}
  (h : tFr X.K X.mg E (eLC k ks fi gp fc fe) σ H Q) : tLC k (tI X.K X.mg E fi) (tG X.K X.mg ks gp) (tT X.K X.mg E0 fc) (tE X.K X.mg E0 fe) σ H Q := by
 obtain ⟨G, σd, ok, q⟩ := h
 refine ⟨G, σd, ok, q.of_bind.mono (fun ds _ z J G1 H1 s1 it => ?_) fun _ z => z⟩
 cases hm : most ds.length with
 | false => rw [hm] at z; exact (show False from z).elim
 | true =>
  rw [hm] at z
  obtain ⟨tot, ht, z⟩ := zcO (show RW (lcD ks gp fc fe (List.replicate k none ++ σd) ds).noerr _ _ from z)
  have hlt : ds.length < sizeLine := of_decide_eq_true hm
  have ok1 := ok.step s1
  refine ⟨fun i m ys H' => m = ds.length - i /\ i <= ds.length /\ ∃ G' yd zbR, zbh G1 H1 G' H' /\ Reps X.K X.mg G' yd ys /\ yd.length <= i /\ lcD ks gp fc fe (List.replicate k none ++ σd) (ds.drop i) = .ok zbR /\ tot = yd ++ zbR,
   ⟨ds.length, by simp, xci _, G1, [], tot, .refl ok1.ext, Reps.nil, xci _, ht, rfl⟩, ?_⟩
  rintro i m ys H' ⟨rfl, hi, G', yd, zbR, s, r, hyl, hr, rfl⟩
  refine ⟨by rw [<- r.length]; omega, ?_⟩
  by_cases hlt2 : i < ds.length
  ·right
   obtain ⟨d, hd⟩ : ∃ d, ds[i]? = some d := ⟨ds[i], by simp [hlt2]⟩
   obtain ⟨g1, g2⟩ := it.turn H' i d (s.g.trans s.e) hd
   have hdrop : ds.drop i = d :: ds.drop (i + 1) := by
    rw [List.drop_eq_getElem_cons hlt2]
    congr 1
    exact Option.some.inj ((xao hlt2).symm.trans hd)
   rw [hdrop] at hr
   refine ⟨g1, fun ys' H'' => ∃ G' yd zbR, zbh G1 H1 G' H'' /\ Reps X.K X.mg G' yd ys' /\ yd.length <= i + 1 /\ lcD ks gp fc fe (List.replicate k none ++ σd) (ds.drop (i + 1)) = .ok zbR /\ _ = yd ++ zbR, fun ys' H'' h => ⟨ds.length - (i + 1), by omega, rfl, hlt2, h⟩, fun v H'' hy => ?_⟩
   obtain ⟨G2, s2, rv⟩ := g2 v H'' hy G' s.g s.e
   unfold lcD at hr
   obtain ⟨us, e1, hr⟩ := ziy hr
   obtain ⟨kk, e2, hr⟩ := ziy hr
   have s12 := s.trans s2
   have okN : Ok0 X.K X.mg (List.replicate k none ++ σd) (List.replicate k none ++ σ) G2 H'' := (ok1.step s12).nones k
   refine ⟨G2, d, s2.e, rv, RW.ok_of e1 fun ws rws => ⟨zjl hk ws, ?_⟩⟩
   have okS := okN.setAll (ks := ks) rws
   refine ⟨G2, _, okS, RW.ok_of e2 fun G3 H3 s3 => ?_⟩
   cases kk with
   | false =>
    rw [if_neg xau]
    exact ⟨G3, yd, zbR, s12.trans s3, r.mono (s2.g.trans s3.g), by omega, hr, rfl⟩
   | true =>
    rw [if_pos rfl]
    obtain ⟨y, e3, hr⟩ := ziy (show (fe (setAll (List.replicate k none ++ σd) ks us)).bind _ = _ from hr)
    obtain ⟨ys2, e4, hr⟩ := ziy hr
    cases hr
    refine ⟨G3, _, okS.step s3, RW.ok_of e3 fun w G4 H4 s4 r4 => ?_⟩
    exact ⟨G4, yd ++ [y], ys2, (s12.trans s3).trans s4, (r.mono ((s2.g.trans s3.g).trans s4.g)).append (Reps.cons r4 Reps.nil), by simp; omega, e4, by simp⟩
  ·left
   have hi2 : i = ds.length := by omega
   subst hi2
   refine ⟨it.stop H' (s.g.trans s.e), fun Dd hD => ?_⟩
   rw [List.drop_length] at hr
   have hre : zbR = [] := by unfold lcD at hr; cases hr; rfl
   subst hre
   rw [xcl] at z
   have st := (s1.trans s)
   exact z Dd ys G' _ (st.trans (.hid st.e hD)) (st.h.free hD) zan (st.e.free hD) r
theorem zht (C : X.calm = true) (lc : LC X k scope NY) (hk : ks.all (fun i => decide (i < k)) = true) (hi : DI X E tg iter fi)
  (hb : ∀ (s₀ : Shared) (H₀ : Hp) (C : Addr) (ex : List Addr), NY.Nodup -> DG (zem X scope NY s₀ H₀ C ex) tg ks gp /\ DTs (zem X scope NY s₀ H₀ C ex) E0 ifs fc /\ DE (zem X scope NY s₀ H₀ C ex) E0 elt fe)
  (hs : ∀ x, foldedSetIterable iter X.env x = pure x := by intro _; rfl) : DF X E (.ListComp elt [⟨tg, iter, ifs, 0⟩] scope pos) (eLC k ks fi gp fc fe) :=
 PE.mono' (zwN (g := tG X.K X.mg ks gp) (tc := tT X.K X.mg E0 fc) (te := tE X.K X.mg E0 fe) C lc hi (fun s0 H0 Ca ex nd => hb s0 H0 Ca ex nd) hs) fun _ _ _ h => zq7 (te := tE X.K X.mg E0 fe) (tc := tT X.K X.mg E0 fc) hk h
end
end DL
namespace DL
open L2
mutual
def imm : D -> Bool
 | .lst _ => false
 | .dct _ _ => false
 | .tup ds => imms ds
 | .exc _ as => imms as
 | .non => true
 | .bl _ => true
 | .int _ => true
 | .str _ => true
 | .ty _ => true
 | .cls _ => true
def imms : List D -> Bool
 | [] => true
 | d :: ds => imm d && imms ds
end
def zn0 (G G' : Hp) : Prop := ∀ a o, G a = some o -> (∀ xs, o ≠ .lst xs) -> G' a = some o
section
variable {K : xFg} {mg : Str -> Option Value} {G G' H H' H0 : Hp}
theorem zn0.sqT {a : Addr} {xs : List V} (e : zn0 G G') (h : SqT K G a xs) : SqT K G' a xs := by
 rcases h with (h | ⟨o, h⟩) | h
 ·exact .inl (.inl (e _ _ h fun xs z => by cases z))
 ·exact .inl (.inr ⟨o, e _ _ h fun xs z => by cases z⟩)
 ·exact .inr h
mutual
theorem Rep.imm (e : zn0 G G') : ∀ {d : D} {v : V}, imm d = true -> Rep K mg G d v -> Rep K mg G' d v
 | .non, _, _, h => h
 | .bl _, _, _, h => h
 | .int _, _, _, h => h
 | .str _, _, _, h => h
 | .ty _, _, _, h => h
 | .cls _, _, _, h => h
 | .tup _, _, i, ⟨a, vs, h1, h2, h3⟩ => ⟨a, vs, h1, e.sqT h2, Reps.imm e (by unfold DL.imm at i; exact i) h3⟩
 | .lst _, _, i, _ => by unfold DL.imm at i; cases i
 | .dct _ _, _, i, _ => by unfold DL.imm at i; cases i
 | .exc _ _, _, i, ⟨x, C, dct, vs, h1, h2, h3, h4, h5⟩ => ⟨x, C, dct, vs, h1, e _ _ h2 fun xs z => (by unfold zkX at z; cases z), h3, by
   rcases h4 with h | ⟨dx, v, q1, q2, q3⟩
   ·exact .inl h
   ·exact .inr ⟨dx, v, q1, q2, e _ _ q3 fun xs z => by cases z⟩, Reps.imm e (by unfold DL.imm at i; exact i) h5⟩
theorem Reps.imm (e : zn0 G G') : ∀ {ds : List D} {vs : List V}, imms ds = true -> Reps K mg G ds vs -> Reps K mg G' ds vs
 | [], _, _, h => h
 | _ :: _, _, i, ⟨v, r, h1, h2, h3⟩ => by
  unfold imms at i
  rw [xa0] at i
  exact ⟨v, r, h1, Rep.imm e i.1 h2, Reps.imm e i.2 h3⟩
end
end
structure Ok (K : xFg) (mg : Str -> Option Value) (H0 : Hp) (own : List Nat) (σd : DSt) (σ : St) (G H : Hp) : Prop where
 ext : zaF G H
 len : σd.length = σ.length
 val : ∀ (i : Nat) (d : D), i ∉ own -> σd[i]? = some (some d) -> ∃ v, σ[i]? = some (some v) /\ Rep K mg G d v
 mine : ∀ (i : Nat) (d : D), i ∈ own -> σd[i]? = some (some d) -> ∃ a ds vs, σ[i]? = some (some (.ref a)) /\ d = .lst ds /\ H a = some (.lst vs) /\ G a = none /\ H0 a = none /\ Reps K mg G ds vs
 dj : ∀ (i j : Nat) (a : Addr) (d d' : D), i ∈ own -> j ∈ own -> σd[i]? = some (some d) -> σd[j]? = some (some d') -> σ[i]? = some (some (.ref a)) -> σ[j]? = some (some (.ref a)) -> i = j
def zgc (own : List Nat) : Nat -> DSt -> DSt
 | _, [] => []
 | i, d :: ds => (bif own.contains i then none else d) :: zgc own (i + 1) ds
def mask (own : List Nat) (σ : DSt) : DSt := zgc own 0 σ
theorem zjm {own : List Nat} : ∀ (σ : DSt) (k i : Nat) (d : D), (zgc own k σ)[i]? = some (some d) -> k + i ∉ own /\ σ[i]? = some (some d)
 | [], _, _, _, h => by unfold zgc at h; simp at h
 | x :: σ, k, 0, d, h => by
  unfold zgc at h
  simp only [List.getElem?_cons_zero, Option.some.injEq] at h
  cases hc : own.contains k with
  | true => rw [hc] at h; cases h
  | false =>
   rw [hc] at h
   have h' : x = some d := h
   subst h'
   exact ⟨by simpa using hc, rfl⟩
 | x :: σ, k, i + 1, d, h => by
  unfold zgc at h
  have := zjm σ (k + 1) i d (by simpa using h)
  rw [show k + (i + 1) = k + 1 + i by omega]
  exact ⟨this.1, by simpa using this.2⟩
theorem zjn {own : List Nat} : ∀ (σ : DSt) (k : Nat), (zgc own k σ).length = σ.length
 | [], _ => rfl
 | _ :: σ, k => by unfold zgc; simp [zjn σ]
def zp9 (own : List Nat) (σd : DSt) (σ : St) (b : Addr) : Prop := ∃ i d, i ∈ own /\ σd[i]? = some (some d) /\ σ[i]? = some (some (.ref b))
open Classical in
noncomputable def zm3 (own : List Nat) (σd : DSt) (σ : St) (G H : Hp) : Hp := fun b => if zp9 own σd σ b then H b else G b
open Classical in
noncomputable def zmC (own : List Nat) (σd : DSt) (σ : St) (G : Hp) : Hp := fun b => if zp9 own σd σ b then none else G b
section
variable {K : xFg} {mg : Str -> Option Value} {G G' G0 H H' H0 : Hp} {own : List Nat} {σd : DSt} {σ : St}
theorem Ok.masked (o : Ok K mg H0 own σd σ G H) : Ok0 K mg (mask own σd) σ G H :=
 ⟨o.ext, by unfold mask; rw [zjn]; exact o.len, fun i d h => by
  have := zjm σd 0 i d h
  rw [xbo] at this
  exact o.val i d this.1 this.2⟩
theorem Ok.zero (o : Ok0 K mg σd σ G H) : Ok K mg H0 [] σd σ G H :=
 ⟨o.ext, o.len, fun i d _ h => o.val i d h, fun i d h => absurd h (by simp), fun i j a d d' h => absurd h (by simp)⟩
theorem Ok.step (o : Ok K mg H0 own σd σ G H) (s : zbh G H G' H') : Ok K mg H0 own σd σ G' H' :=
 ⟨s.e, o.len, fun i d hi h => let ⟨v, h1, h2⟩ := o.val i d hi h; ⟨v, h1, h2.mono s.g⟩, fun i d hi h => by
  obtain ⟨a, ds, vs, h1, h2, h3, h4, h5, h6⟩ := o.mine i d hi h
  exact ⟨a, ds, vs, h1, h2, s.h _ _ h3, s.c _ _ h3 h4, h5, h6.mono s.g⟩, o.dj⟩
theorem Ok.notOwn (o : Ok K mg H0 own σd σ G H) {b : Addr} {u : HO} (h : G b = some u) : ¬ zp9 own σd σ b := by
 rintro ⟨i, d, h1, h2, h3⟩
 obtain ⟨a, ds, vs, q1, q2, q3, q4, _⟩ := o.mine i d h1 h2
 rw [q1] at h3
 cases h3
 rw [q4] at h; cases h
theorem Ok.ownLst (o : Ok K mg H0 own σd σ G H) {b : Addr} (h : zp9 own σd σ b) : (∃ vs, H b = some (.lst vs)) /\ G b = none /\ H0 b = none := by
 obtain ⟨i, d, h1, h2, h3⟩ := h
 obtain ⟨a, ds, vs, q1, q2, q3, q4, q5, _⟩ := o.mine i d h1 h2
 rw [q1] at h3
 cases h3
 exact ⟨⟨vs, q3⟩, q4, q5⟩
theorem Ok.pub (o : Ok K mg H0 own σd σ G H) : Ok0 K mg σd σ (zm3 own σd σ G H) H /\ zaF G (zm3 own σd σ G H) := by
 have sg : zaF G (zm3 own σd σ G H) := fun b u h => by unfold zm3; rw [if_neg (o.notOwn h)]; exact h
 refine ⟨⟨fun b u h => ?_, o.len, fun i d h => ?_⟩, sg⟩
 ·unfold zm3 at h
  split at h
  ·exact h
  ·exact o.ext b u h
 ·by_cases hi : i ∈ own
  ·obtain ⟨a, ds, vs, q1, rfl, q3, q4, q5, q6⟩ := o.mine i d hi h
   refine ⟨_, q1, a, vs, rfl, SqL.of ?_, q6.mono sg⟩
   unfold zm3
   rw [if_pos ⟨i, _, hi, h, q1⟩]; exact q3
  ·obtain ⟨v, h1, h2⟩ := o.val i d hi h
   exact ⟨v, h1, h2.mono sg⟩
theorem Ok.pubStep (o : Ok K mg H0 own σd σ G H) (s0 : zbh G0 H0 G H) : zbh G0 H0 (zm3 own σd σ G H) H := by
 refine ⟨s0.g.trans o.pub.2, s0.h, o.pub.1.ext, fun b u h1 h2 => ?_⟩
 unfold zm3
 rw [if_neg fun z => by rw [(o.ownLst z).2.2] at h1; cases h1]
 exact s0.c b u h1 h2
theorem Ok.drop (o : Ok K mg H0 own σd σ G H) (s : zaF H H') : Ok K mg H0 own σd σ G H' :=
 o.step (.heap o.ext s)
theorem Ok.hide (o : Ok K mg H0 own σd σ G H) (s : zbh (zm3 own σd σ G H) H G' H') : zbh G H (zmC own σd σ G') H' /\ zn0 G' (zmC own σd σ G') := by
 refine ⟨⟨fun b u h => ?_, s.h, fun b u h => ?_, fun b u h1 h2 => ?_⟩, fun b u h1 h2 => ?_⟩
 ·unfold zmC
  rw [if_neg (o.notOwn h)]
  exact s.g b u (o.pub.2 b u h)
 ·unfold zmC at h
  split at h
  ·cases h
  ·exact s.e b u h
 ·unfold zmC
  split
  ·rfl
  ·rename_i n
   refine s.c b u h1 ?_
   unfold zm3
   rw [if_neg n]; exact h2
 ·unfold zmC
  rw [if_neg fun z => ?_]
  ·exact h1
  ·obtain ⟨⟨vs, q⟩, _⟩ := o.ownLst z
   have : zm3 own σd σ G H b = some (.lst vs) := by unfold zm3; rw [if_pos z]; exact q
   have := s.g b _ this
   rw [h1] at this; cases this
   exact h2 vs rfl
theorem zb9 {α : Type} {l : List (Option α)} {i : Nat} {x d : α} (h : (l.set i (some x))[i]? = some (some d)) : d = x /\ i < l.length := by
 have hl : i < l.length := by have := (xah.mp h).1; simpa using this
 rw [xa4 hl] at h
 cases h
 exact ⟨rfl, hl⟩
theorem Ok.set {i : Nat} {d : D} {v : V} (o : Ok K mg H0 own σd σ G H) (hi : i ∉ own) (h : Rep K mg G d v) : Ok K mg H0 own (σd.set i (some d)) (σ.set i (some v)) G H := by
 have ne : ∀ {j : Nat}, j ∈ own -> j ≠ i := fun hj z => hi (z ▸ hj)
 refine ⟨o.ext, by simp [o.len], fun j e hj q => ?_, fun j e hj q => ?_, fun j k a d1 d2 h1 h2 h3 h4 h5 h6 => ?_⟩
 ·by_cases hji : j = i
  ·subst hji
   obtain ⟨rfl, hl⟩ := zb9 q
   exact ⟨v, by rw [xa4 (by rw [<- o.len]; exact hl)], h⟩
  ·rw [xam (xay hji)] at q ⊢
   exact o.val j e hj q
 ·rw [xam (xay (ne hj))] at q ⊢
  exact o.mine j e hj q
 ·rw [xam (xay (ne h1))] at h3 h5
  rw [xam (xay (ne h2))] at h4 h6
  exact o.dj j k a d1 d2 h1 h2 h3 h4 h5 h6
theorem Ok.setAll : ∀ {ks : List Nat} {us : List D} {ws : List V} {σd : DSt} {σ : St}, Ok K mg H0 own σd σ G H -> (∀ k ∈ ks, k ∉ own) -> Reps K mg G us ws -> Ok K mg H0 own (DL.setAll σd ks us) (DL.setAll σ ks ws) G H
 | [], _, _, _, _, o, _, _ => by unfold DL.setAll; exact o
 | _ :: _, [], _, _, _, o, _, h => by cases h; unfold DL.setAll; exact o
 | k :: ks, _ :: _, _, _, _, o, hk, ⟨v, r, h1, h2, h3⟩ => by
  subst h1; unfold DL.setAll
  exact Ok.setAll (o.set (hk k xal) h2) (fun j hj => hk j (xaf _ hj)) h3
theorem Ok.new {i : Nat} {ds : List D} {vs : List V} {a : Addr} {own' : List Nat} (o : Ok K mg H0 own σd σ G H) (s : zbh G H G' H') (n : H a = none) (e : H' a = some (.lst vs)) (g : G' a = none) (n0 : H0 a = none) (r : Reps K mg G' ds vs)
  (hown : ∀ j, j ∈ own' ↔ j = i \/ j ∈ own) : Ok K mg H0 own' (σd.set i (some (.lst ds))) (σ.set i (some (.ref a))) G' H' := by
 have o' := o.step s
 have away : ∀ {j : Nat} {d : D}, j ∈ own -> j ≠ i -> σd[j]? = some (some d) -> σ[j]? = some (some (.ref a)) -> False := fun {j d} hj _ hd hs => by
  obtain ⟨b, _, _, q1, _, q3, _⟩ := o.mine j d hj hd
  rw [q1] at hs; cases hs
  rw [n] at q3; cases q3
 refine ⟨o'.ext, by simp [o.len], fun j d hj q => ?_, fun j d hj q => ?_, fun j k b d1 d2 h1 h2 h3 h4 h5 h6 => ?_⟩
 ·have hji : j ≠ i := fun z => hj ((hown j).mpr (.inl z))
  rw [xam (xay hji)] at q ⊢
  exact o'.val j d (fun z => hj ((hown j).mpr (.inr z))) q
 ·by_cases hji : j = i
  ·subst hji
   obtain ⟨rfl, hl⟩ := zb9 q
   exact ⟨a, ds, vs, by rw [xa4 (by rw [<- o.len]; exact hl)], rfl, e, g, n0, r⟩
  ·rw [xam (xay hji)] at q ⊢
   exact o'.mine j d (((hown j).mp hj).resolve_left hji) q
 ·by_cases hji : j = i
  ·by_cases hki : k = i
   ·rw [hji, hki]
   ·subst hji
    obtain ⟨rfl, hl⟩ := zb9 h3
    rw [xa4 (by rw [<- o.len]; exact hl)] at h5
    cases h5
    rw [xam (xay hki)] at h4 h6
    exact (away (((hown k).mp h2).resolve_left hki) hki h4 h6).elim
  ·by_cases hki : k = i
   ·subst hki
    obtain ⟨rfl, hl⟩ := zb9 h4
    rw [xa4 (by rw [<- o.len]; exact hl)] at h6
    cases h6
    rw [xam (xay hji)] at h3 h5
    exact (away (((hown j).mp h1).resolve_left hji) hji h3 h5).elim
   ·rw [xam (xay hji)] at h3 h5
    rw [xam (xay hki)] at h4 h6
    exact o.dj j k b d1 d2 (((hown j).mp h1).resolve_left hji) (((hown k).mp h2).resolve_left hki) h3 h4 h5 h6
theorem Ok.write {i : Nat} {d : D} {ds : List D} {vs : List V} {a : Addr} (o : Ok K mg H0 own σd σ G H) (hi : i ∈ own) (hd : σd[i]? = some (some d)) (ha : σ[i]? = some (some (.ref a))) (r : Reps K mg G ds vs) :
  Ok K mg H0 own (σd.set i (some (.lst ds))) σ G (upd H a (.lst vs)) := by
 obtain ⟨b, ds0, vs0, q1, q2, q3, q4, q5, q6⟩ := o.mine i d hi hd
 rw [ha] at q1; cases q1
 have hl : i < σd.length := (xah.mp hd).1
 refine ⟨fun b u h => ?_, by simp [o.len], fun j e hj q => ?_, fun j e hj q => ?_, fun j k b d1 d2 h1 h2 h3 h4 h5 h6 => ?_⟩
 ·rw [zak (zam h q4)]; exact o.ext b u h
 ·have hji : j ≠ i := fun z => hj (z ▸ hi)
  rw [xam (xay hji)] at q
  exact o.val j e hj q
 ·by_cases hji : j = i
  ·subst hji
   obtain ⟨rfl, _⟩ := zb9 q
   exact ⟨a, ds, vs, ha, rfl, zan, q4, q5, r⟩
  ·rw [xam (xay hji)] at q
   obtain ⟨c, es, ws, p1, p2, p3, p4⟩ := o.mine j e hj q
   have hc : c ≠ a := fun z => by subst z; exact hji (o.dj j i c e d hj hi q hd p1 ha)
   exact ⟨c, es, ws, p1, p2, by rw [zak hc]; exact p3, p4⟩
 ·have back : ∀ {j : Nat} {e : D}, (σd.set i (some (.lst ds)))[j]? = some (some e) -> ∃ e', σd[j]? = some (some e') := fun {j e} q => by
   by_cases hji : j = i
   ·exact ⟨d, hji ▸ hd⟩
   ·rw [xam (xay hji)] at q; exact ⟨e, q⟩
  obtain ⟨e1, h3⟩ := back h3
  obtain ⟨e2, h4⟩ := back h4
  exact o.dj j k b e1 e2 h1 h2 h3 h4 h5 h6
theorem zbh.write {a : Addr} {o u : HO} (s0 : zbh G0 H0 G H) (n : H0 a = none) (g : G a = none) : zbh G0 H0 G (upd H a u) :=
 ⟨s0.g, fun b v h => by rw [zak (zam h n)]; exact s0.h b v h, fun b v h => by rw [zak (zam h g)]; exact s0.e b v h, s0.c⟩
theorem Ok.release {i : Nat} {own' : List Nat} (o : Ok K mg H0 own σd σ G H) (s0 : zbh G0 H0 G H) (hi : i ∈ own) (hown : ∀ j, j ∈ own' ↔ j ≠ i /\ j ∈ own) : ∃ G', Ok K mg H0 own' σd σ G' H /\ zbh G0 H0 G' H /\ zaF G G' := by
 by_cases hb : ∃ d, σd[i]? = some (some d)
 ·obtain ⟨d, hd⟩ := hb
  obtain ⟨a, ds, vs, q1, rfl, q3, q4, q5, q6⟩ := o.mine i d hi hd
  have sg : zaF G (upd G a (.lst vs)) := zcn q4
  have eh : zaF (upd G a (.lst vs)) H := fun b u h => by
   by_cases hb : b = a
   ·subst hb; rw [zan] at h; cases h; exact q3
   ·rw [zak hb] at h; exact o.ext b u h
  refine ⟨upd G a (.lst vs), ⟨eh, o.len, fun j e hj q => ?_, fun j e hj q => ?_, fun j k b d1 d2 h1 h2 h3 h4 h5 h6 => ?_⟩, ⟨s0.g.trans sg, s0.h, eh, fun b u h1 h2 => ?_⟩, sg⟩
  ·by_cases hji : j = i
   ·subst hji
    rw [hd] at q; cases q
    exact ⟨_, q1, a, vs, rfl, SqL.of zan, q6.mono sg⟩
   ·obtain ⟨v, h1, h2⟩ := o.val j e (fun z => hj ((hown j).mpr ⟨hji, z⟩)) q
    exact ⟨v, h1, h2.mono sg⟩
  ·obtain ⟨hji, hj'⟩ := (hown j).mp hj
   obtain ⟨c, es, ws, p1, p2, p3, p4, p5, p6⟩ := o.mine j e hj' q
   have hc : c ≠ a := fun z => by subst z; exact hji (o.dj j i c e _ hj' hi q hd p1 q1)
   exact ⟨c, es, ws, p1, p2, p3, by rw [zak hc]; exact p4, p5, p6.mono sg⟩
  ·exact o.dj j k b d1 d2 ((hown j).mp h1).2 ((hown k).mp h2).2 h3 h4 h5 h6
  ·rw [zak (zam h1 q5)]; exact s0.c b u h1 h2
 ·refine ⟨G, ⟨o.ext, o.len, fun j e hj q => ?_, fun j e hj q => o.mine j e ((hown j).mp hj).2 q, fun j k b d1 d2 h1 h2 => o.dj j k b d1 d2 ((hown j).mp h1).2 ((hown k).mp h2).2⟩, s0, zaF.refl _⟩
  have hji : j ≠ i := fun z => hb ⟨e, z ▸ q⟩
  exact o.val j e (fun z => hj ((hown j).mpr ⟨hji, z⟩)) q
end
inductive Out where
 | nx (σ : DSt) | rt (d : D) | bk (σ : DSt) | ct (σ : DSt) | rf (ds : List D)
section
variable (K : xFg) (mg : Str -> Option Value) (E : XK)
def zgd (G0 H0 : Hp) (own' ol : List Nat) (Dn : zm2) (G : Hp) : Out -> Prop
 | .nx σd' => ∀ σ' G' H', Ok K mg H0 own' σd' σ' G' H' -> zbh G0 H0 G' H' -> zaF G G' -> Dn.nx σ' H'
 | .bk σd' => ∀ σ' G' H', Ok K mg H0 ol σd' σ' G' H' -> zbh G0 H0 G' H' -> zaF G G' -> Dn.bk σ' H'
 | .ct σd' => ∀ σ' G' H', Ok K mg H0 ol σd' σ' G' H' -> zbh G0 H0 G' H' -> zaF G G' -> Dn.ct σ' H'
 | .rt d => ∀ v G' H', zbh G0 H0 G' H' -> Rep K mg G' d v -> Dn.rt v H'
 | .rf ds => ∀ a vs G' H', zbh G0 H0 G' H' -> H0 a = none -> H' a = some (.lst vs) -> G' a = none -> Reps K mg G' ds vs -> Dn.rt (.ref a) H'
def tS (G0 H0 : Hp) (own own' ol : List Nat) (f : DSt -> R Out) : TS := fun Dn σ H => ∃ G σd, Ok K mg H0 own σd σ G H /\ zbh G0 H0 G H /\ RW (f σd) (zgd K mg G0 H0 own' ol Dn G) (zaM K mg E G0 H0)
end
theorem zgd.shift {K : xFg} {mg : Str -> Option Value} {G0 H0 G G' : Hp} {own' ol : List Nat} {Dn : zm2} (s : zaF G G') {o : Out} (h : zgd K mg G0 H0 own' ol Dn G o) : zgd K mg G0 H0 own' ol Dn G' o := by
 cases o with
 | nx _ => exact fun a b c d e f => h a b c d e (s.trans f)
 | bk _ => exact fun a b c d e f => h a b c d e (s.trans f)
 | ct _ => exact fun a b c d e f => h a b c d e (s.trans f)
 | rt _ => exact h
 | rf _ => exact h
def DS (X : Cx) (E : XK) (own own' ol : List Nat) (st : Stmt) (f : DSt -> R Out) : Prop := ∀ G0, PS X st (tS X.K X.mg E G0 X.H₀ own own' ol f)
def DSs (X : Cx) (E : XK) (own own' ol : List Nat) (st : List Stmt) (f : DSt -> R Out) : Prop := ∀ G0, PSs X st (tS X.K X.mg E G0 X.H₀ own own' ol f)
def zaG (f g : DSt -> R Out) : DSt -> R Out := fun σ => (f σ).bind fun o => match o with
 | .nx σ' => g σ'
 | o => .ok o
def zbe : DSt -> R Out := fun σ => .ok (.nx σ)
section
variable {X : Cx} {E : XK} {own own1 own2 own' ol : List Nat} {st : Stmt} {zbR : List Stmt} {f g : DSt -> R Out} {pos : Pos}
theorem zaX : DSs X E own own ol [] zbe := fun G0 => PSs.mono' zsd fun Dn σ H ⟨G, σd, ok, s0, q⟩ => (show zgd X.K X.mg G0 X.H₀ own ol Dn G (.nx σd) from q) σ G H ok s0 (zaF.refl _)
theorem zad (h1 : DS X E own own1 ol st f) (h2 : DSs X E own1 own2 ol zbR g) : DSs X E own own2 ol (st :: zbR) (zaG f g) := fun G0 => PSs.mono' (zpz (h1 G0) (h2 G0)) fun Dn σ H ⟨G, σd, ok, s0, q⟩ => by
 refine ⟨G, σd, ok, s0, q.of_bind.mono (fun o _ z => ?_) fun _ z => z⟩
 cases o with
 | nx σ1 =>
  intro σ' G' H' ok' s' e'
  exact ⟨G', σ1, ok', s', (show RW (g σ1) _ _ from z).mono (fun o _ z => z.shift e') fun _ z => z⟩
 | rt d => exact z
 | rf d => exact z
 | bk d => exact z
 | ct d => exact z
theorem zap (h1 : DS X E own own1 ol st f) : DSs X E own own1 ol [st] f := fun G0 => zkj (h1 G0)
theorem zgN (i : Nat) (hi : own.contains i = true) (ho : own' = own.filter fun j => j != i) (h : DSs X E own' own2 ol zbR g) : DSs X E own own2 ol zbR g := fun G0 => PSs.mono' (h G0) fun Dn σ H ⟨G, σd, ok, s0, q⟩ => by
 obtain ⟨G', ok', s', e'⟩ := ok.release (i := i) (own' := own') s0 (by simpa using hi) fun j => by subst ho; simp [and_comm]
 exact ⟨G', σd, ok', s', q.mono (fun o _ z => z.shift e') fun _ z => z⟩
theorem zk7 : DS X E own own' ol st zuN := fun G0 => PS.mono' zpA fun Dn σ H ⟨G, σd, ok, s0, q⟩ => q
def zbz (fe : DSt -> R D) : DSt -> R Out := fun σ => (fe σ).bind fun d => .ok (.rt d)
theorem ze0 {e : Expr} {fe : DSt -> R D} (h : DE X E e fe) : DS X E own own' ol (.Return (some e) pos) (zbz fe) := fun G0 => PS.mono' (zt3 h) fun Dn σ H ⟨G, σd, ok, s0, q⟩ => by
 have s1 := ok.pubStep s0
 exact ⟨_, σd, ok.pub.1, q.of_bind.mono (fun d _ z v G' H' s r => (show zgd X.K X.mg G0 X.H₀ own' ol Dn G (.rt d) from z) v G' H' (s1.trans s) r) fun _ z => z.step s1⟩
def sIf (c : DSt -> R Bool) (f g : DSt -> R Out) : DSt -> R Out := fun σ => (c σ).bind fun k => bif k then f σ else g σ
theorem zcw {c : Expr} {a b : List Stmt} {fc : DSt -> R Bool} (hc : DT X E c fc) (ha : DSs X E own own' ol a f) (hb : DSs X E own own' ol b g) : DS X E own own' ol (.If c a b pos) (sIf fc f g) := fun G0 =>
 PS.mono' (zwu hc (ha G0) (hb G0)) fun Dn σ H ⟨G, σd, ok, s0, q⟩ => by
 have s1 := ok.pubStep s0
 refine ⟨_, σd, ok.pub.1, q.of_bind.mono (fun k _ z G' H' s => ?_) fun _ z => z.step s1⟩
 have ok' := ok.drop s.h
 have s' : zbh G0 X.H₀ G H' := s0.trans (.heap ok.ext s.h)
 cases k with
 | true => exact iteT ⟨G, σd, ok', s', z⟩
 | false => exact iteF ⟨G, σd, ok', s', z⟩
def zmD (fe : DSt -> R D) : DSt -> R Out := fun σ => (fe σ).bind fun _ => .ok (.nx σ)
theorem zsQ {e : Expr} {fe : DSt -> R D} (h : DE X E e fe) (hs : swapsWith e none pos.line X.env = pure false := by rfl) : DS X E own own ol (.Expr e pos) (zmD fe) := fun G0 => PS.mono' (zm9 h hs) fun Dn σ H ⟨G, σd, ok, s0, q⟩ => by
 have s1 := ok.pubStep s0
 refine ⟨_, σd, ok.pub.1, q.of_bind.mono (fun d _ z v G' H' s r => ?_) fun _ z => z.step s1⟩
 exact (show zgd X.K X.mg G0 X.H₀ own ol Dn G (.nx σd) from z) σ G H' (ok.drop s.h) (s0.trans (.heap ok.ext s.h)) (zaF.refl _)
def zkg (own : List Nat) (i : Nat) (fe : DSt -> R D) : DSt -> R Out := fun σ => (fe (mask own σ)).bind fun d => .ok (.nx (σ.set i (some d)))
def zaA (i : Nat) (fe : DSt -> R D) : DSt -> R Out := fun σ => (fe σ).bind fun d => .ok (.nx (σ.set i (some d)))
def zn1 (i : Nat) (fe : DSt -> R D) : DSt -> R Out := fun σ => (fe σ).bind fun d => bif imm d then .ok (.nx (σ.set i (some d))) else .bad
theorem zk8 {own : List Nat} {i : Nat} (h : own.contains i = false) : i ∉ own := by simpa using h
theorem zgl (σ : DSt) : mask [] σ = σ := by
 have : ∀ (σ : DSt) (k : Nat), zgc [] k σ = σ := fun σ => by
  induction σ with
  | nil => intro k; rfl
  | cons d ds ih => intro k; unfold zgc; rw [ih]; rfl
 exact this σ 0
theorem zxb {te : TE} {fe : DSt -> R D} {i : Nat} {G0 : Hp} (h : ∀ σ H Q, tE X.K X.mg E fe σ H Q -> te σ H Q) (ho : own.contains i = false) {Dn : zm2} {σ : St} {H : Hp} (q : tS X.K X.mg E G0 X.H₀ own own ol (zkg own i fe) Dn σ H) : zsf te (ziP i) Dn σ H := by
 obtain ⟨G, σd, ok, s0, q⟩ := q
 refine h σ H _ ⟨G, mask own σd, ok.masked, q.of_bind.mono (fun d _ z v G' H' s r => ?_) fun _ z => z.step s0⟩
 exact (show zgd X.K X.mg G0 X.H₀ own ol Dn G (.nx (σd.set i (some d))) from z) _ G' H' ((ok.step s).set (zk8 ho) r) (s0.trans s) s.g
theorem asgP {te : TE} {fe : DSt -> R D} {i : Nat} {G0 : Hp} (h : ∀ σ H Q, tE X.K X.mg E fe σ H Q -> te σ H Q) (ho : own.contains i = false) {Dn : zm2} {σ : St} {H : Hp} (q : tS X.K X.mg E G0 X.H₀ own own ol (zn1 i fe) Dn σ H) : zsf te (ziP i) Dn σ H := by
 obtain ⟨G, σd, ok, s0, q⟩ := q
 have s1 := ok.pubStep s0
 refine h σ H _ ⟨_, σd, ok.pub.1, q.of_bind.mono (fun d _ z v G' H' s r => ?_) fun _ z => z.step s1⟩
 cases hd : imm d with
 | false => rw [hd] at z; exact (show False from z).elim
 | true =>
  rw [hd] at z
  obtain ⟨st, sT⟩ := ok.hide s
  exact (show zgd X.K X.mg G0 X.H₀ own ol Dn G (.nx (σd.set i (some d))) from z) _ _ H' ((ok.step st).set (zk8 ho) (r.imm sT hd)) (s0.trans st) st.g
def zq8 (own : List Nat) (i : Nat) (fe : DSt -> R (List D)) : DSt -> R Out := fun σ => (fe (mask own σ)).bind fun ds => .ok (.nx (σ.set i (some (.lst ds))))
def zgO (own : List Nat) (i : Nat) : List Nat := if own.contains i then own else i :: own
theorem zkr {own : List Nat} {i j : Nat} : j ∈ zgO own i ↔ j = i \/ j ∈ own := by
 unfold zgO
 split
 ·rename_i h
  have hi : i ∈ own := by simpa using h
  exact ⟨.inr, fun h => h.elim (fun e => e ▸ hi) id⟩
 ·simp
theorem asgN {te : TE} {fe : DSt -> R (List D)} {i : Nat} {G0 : Hp} (h : ∀ σ H Q, tFr X.K X.mg E fe σ H Q -> te σ H Q) {Dn : zm2} {σ : St} {H : Hp} (q : tS X.K X.mg E G0 X.H₀ own (zgO own i) ol (zq8 own i fe) Dn σ H) : zsf te (ziP i) Dn σ H := by
 obtain ⟨G, σd, ok, s0, q⟩ := q
 refine h σ H _ ⟨G, mask own σd, ok.masked, q.of_bind.mono (fun ds _ z a vs G' H' s n e g r => ?_) fun _ z => z.step s0⟩
 exact (show zgd X.K X.mg G0 X.H₀ (zgO own i) ol Dn G (.nx (σd.set i (some (.lst ds)))) from z) _ G' H' (ok.new s n e g (s0.h.free n) r fun j => zkr) (s0.trans s) s.g
variable {i : Nat} {x : Str} {e : Expr} {pos' : Pos} {fe : DSt -> R D} {fl : DSt -> R (List D)}
theorem zuX (i : Nat) (hN : X.N.Nodup) (he : DE X E e fe) (ho : own.contains i = false := by rfl) (hi : X.N[i]? = some x := by rfl) (hx : Loc X.env.scope x := by first | exact Or.inl rfl | exact Or.inr rfl) (hs : swapsWith e (some (.Name x pos')) pos.line X.env = pure false := by rfl)
  (hf : X.fn x = true \/ X.env.scope.names.lookup x = some .local := by first | exact .inl rfl | exact .inr rfl | assumption) : DS X E own own ol (.Assign [.Name x pos'] e pos) (zkg own i fe) := fun G0 =>
 PS.mono' (zkS hN hi hx he hs hf) fun Dn σ H q => zxb (fun _ _ _ z => z) ho q
theorem zks (i : Nat) (hN : X.N.Nodup) (he : DE X E e fe) (hi : X.N[i]? = some x := by rfl) (hx : Loc X.env.scope x := by first | exact Or.inl rfl | exact Or.inr rfl) (hs : swapsWith e (some (.Name x pos')) pos.line X.env = pure false := by rfl)
  (hf : X.fn x = true \/ X.env.scope.names.lookup x = some .local := by first | exact .inl rfl | exact .inr rfl | assumption) : DS X E [] [] ol (.Assign [.Name x pos'] e pos) (zaA i fe) := fun G0 => by
 have : zaA i fe = zkg [] i fe := by funext σ; unfold zaA zkg; rw [zgl]
 rw [this]
 exact PS.mono' (zkS hN hi hx he hs hf) fun Dn σ H q => zxb (fun _ _ _ z => z) rfl q
theorem zsR (i : Nat) (hN : X.N.Nodup) (he : DE X E e fe) (ho : own.contains i = false := by rfl) (hi : X.N[i]? = some x := by rfl) (hx : Loc X.env.scope x := by first | exact Or.inl rfl | exact Or.inr rfl) (hs : swapsWith e (some (.Name x pos')) pos.line X.env = pure false := by rfl)
  (hf : X.fn x = true \/ X.env.scope.names.lookup x = some .local := by first | exact .inl rfl | exact .inr rfl | assumption) : DS X E own own ol (.Assign [.Name x pos'] e pos) (zn1 i fe) := fun G0 =>
 PS.mono' (zkS hN hi hx he hs hf) fun Dn σ H q => asgP (fun _ _ _ z => z) ho q
theorem zuY (i : Nat) (hN : X.N.Nodup) (he : DF X E e fl) (hw : own' = zgO own i := by rfl) (hi : X.N[i]? = some x := by rfl) (hx : Loc X.env.scope x := by first | exact Or.inl rfl | exact Or.inr rfl) (hs : swapsWith e (some (.Name x pos')) pos.line X.env = pure false := by rfl)
  (hf : X.fn x = true \/ X.env.scope.names.lookup x = some .local := by first | exact .inl rfl | exact .inr rfl | assumption) : DS X E own own' ol (.Assign [.Name x pos'] e pos) (zq8 own i fl) := fun G0 => by
 subst hw; exact PS.mono' (zkS hN hi hx he hs hf) fun Dn σ H q => asgN (fun _ _ _ z => z) q
theorem zuZ {te : TE} (h : ∀ σ H Q, tFr X.K X.mg E fl σ H Q -> te σ H Q) : ∀ σ H Q, tE X.K X.mg E (fun σ => (fl σ).bind fun ds => .ok (.lst ds)) σ H Q -> te σ H Q := fun σ H Q ⟨G, σd, ok, q⟩ => by
 refine h σ H Q ⟨G, σd, ok, q.of_bind.mono (fun ds _ q => ?_) fun _ z => z⟩
 intro a vs G' H' s n e g r
 have q' : zao X.K X.mg Q G H (.lst ds) := q
 have sg : zaF G' (upd G' a (.lst vs)) := zcn g
 refine q' (.ref a) (upd G' a (.lst vs)) H' ⟨s.g.trans sg, s.h, fun b u p => ?_, fun b u p1 p2 => ?_⟩ ⟨a, vs, rfl, SqL.of zan, r.mono sg⟩
 ·by_cases hb : b = a
  ·subst hb; rw [zan] at p; cases p; exact e
  ·rw [zak hb] at p; exact s.e b u p
 ·have hb : b ≠ a := zam p1 n
  rw [zak hb]; exact s.c b u p1 p2
def zdn (fl : DSt -> R (List D)) : DSt -> R D := fun σ => (fl σ).bind fun ds => .ok (.lst ds)
theorem DF.val (h : DF X E e fl) : DE X E e (zdn fl) := h.de
variable {tg elt iter : Expr} {ifs : List Expr} {scope : Scope} {NY : List Str} {k : Nat} {ks : List Nat} {fi : DSt -> R (List D)} {gp : D -> R (List D)} {fc : DSt -> R Bool} {lpos : Pos}
theorem zu0 (i : Nat) (C : X.calm = true) (hN : X.N.Nodup) (hi' : X.N[i]? = some x) (hy : X.env.kindOf x = some .local) (lc : LC X k scope NY) (hi : DI X E tg iter fi)
  (hb : ∀ (s₀ : Shared) (H₀ : Hp) (C : Addr) (ex : List Addr), NY.Nodup -> DG (zem X scope NY s₀ H₀ C ex) tg ks gp /\ DTs (zem X scope NY s₀ H₀ C ex) E0 ifs fc /\ DE (zem X scope NY s₀ H₀ C ex) E0 elt fe)
  (hsw : swapsWith (.ListComp elt [⟨tg, iter, ifs, 0⟩] scope lpos) (some (.Name x pos')) pos.line X.env = pure true)
  (hs : ∀ x, foldedSetIterable iter X.env x = pure x) : PS X (.Assign [.Name x pos'] (.ListComp elt [⟨tg, iter, ifs, 0⟩] scope lpos) pos) (zsf (tLC k (tI X.K X.mg E fi) (tG X.K X.mg ks gp) (tT X.K X.mg E0 fc) (tE X.K X.mg E0 fe)) (ziP i)) :=
 zwO (g := tG X.K X.mg ks gp) (tc := tT X.K X.mg E0 fc) (te := tE X.K X.mg E0 fe) C hN hi' hy lc hi (fun s0 H0 Ca ex nd => hb s0 H0 Ca ex nd) hsw hs
theorem ze1 (i : Nat) (C : X.calm = true) (hN : X.N.Nodup) (lc : LC X k scope NY) (hk : ks.all (fun i => decide (i < k)) = true) (hi : DI X E tg iter fi)
  (hb : ∀ (s₀ : Shared) (H₀ : Hp) (C : Addr) (ex : List Addr), NY.Nodup -> DG (zem X scope NY s₀ H₀ C ex) tg ks gp /\ DTs (zem X scope NY s₀ H₀ C ex) E0 ifs fc /\ DE (zem X scope NY s₀ H₀ C ex) E0 elt fe)
  (ho : own.contains i = false := by rfl) (hi' : X.N[i]? = some x := by rfl) (hy : X.env.kindOf x = some .local := by rfl)
  (hsw : swapsWith (.ListComp elt [⟨tg, iter, ifs, 0⟩] scope lpos) (some (.Name x pos')) pos.line X.env = pure true := by rfl)
  (hs : ∀ x, foldedSetIterable iter X.env x = pure x := by intro _; rfl) : DS X E own own ol (.Assign [.Name x pos'] (.ListComp elt [⟨tg, iter, ifs, 0⟩] scope lpos) pos) (zkg own i (zdn (eLC k ks fi gp fc fe))) := fun G0 =>
 PS.mono' (zu0 i C hN hi' hy lc hi hb hsw hs) fun Dn σ H q => zxb (zuZ fun _ _ _ h => zq7 (te := tE X.K X.mg E0 fe) (tc := tT X.K X.mg E0 fc) hk h) ho q
def zsS (own : List Nat) (ks : List Nat) (gp : D -> R (List D)) (fe : DSt -> R D) : DSt -> R Out := fun σ => (fe (mask own σ)).bind fun d => (gp d).noerr.bind fun us => .ok (.nx (setAll σ ks us))
theorem zu1 (he : DE X E e fe) (hg : DG X tg ks gp) (ho : ks.all (fun i => !own.contains i) = true := by rfl) (hs : swapsWithSole [tg] e pos.line X.env = pure false := by rfl) (hw : swappedStores [tg] e X.env = pure none := by rfl)
  (h1 : (assignEach [tg] X.env).map (·.2) = [assign tg X.env] := by rfl) : DS X E own own ol (.Assign [tg] e pos) (zsS own ks gp fe) := fun G0 => PS.mono' (zt7 he hg hs hw h1) fun Dn σ H ⟨G, σd, ok, s0, q⟩ => by
 refine ⟨G, mask own σd, ok.masked, q.of_bind.mono (fun d _ z v G' H' s r => ?_) fun _ z => z.step s0⟩
 obtain ⟨us, e1, z⟩ := zcO z.of_bind
 refine ⟨G', d, s.e, r, RW.ok_of e1 fun ws rw' => ?_⟩
 refine (show zgd X.K X.mg G0 X.H₀ own ol Dn G (.nx (setAll σd ks us)) from z) _ G' H' ((ok.step s).setAll (fun k hk => ?_) rw') (s0.trans s) s.g
 simpa using xa1.mp ho k hk
def zxc (own : List Nat) (i j : Nat) (fs : DSt -> R (List D)) : DSt -> R Out := fun σ => (fs (mask own σ)).bind fun ds => match ds with
 | [a, b] => .ok (.nx ((σ.set i (some a)).set j (some b)))
 | _ => .bad
theorem zu2 (i j : Nat) {x y : Str} {a b : Expr} {fs : DSt -> R (List D)} {px py pt : Pos} {kt k2 pt2} (hc : X.calm = true) (hN : X.N.Nodup) (ha : DA X E [a, b] fs) (hij : i ≠ j := by decide) (ho : (own.contains i || own.contains j) = false := by rfl) (hi : X.N[i]? = some x := by rfl) (hj : X.N[j]? = some y := by rfl)
  (hx : X.env.scope.names.lookup x = some .local := by rfl) (hy : X.env.scope.names.lookup y = some .local := by rfl)
  (hw : swappedStores [.Tuple [.Name x px, .Name y py] kt pt] (.Tuple [a, b] k2 pt2) X.env = pure (some [x, y]) := by rfl)
  (hs : swapsWithSole [.Tuple [.Name x px, .Name y py] kt pt] (.Tuple [a, b] k2 pt2) pos.line X.env = pure false := by rfl) : DS X E own own ol (.Assign [.Tuple [.Name x px, .Name y py] kt pt] (.Tuple [a, b] k2 pt2) pos) (zxc own i j fs) := fun G0 =>
 PS.mono' (zt8 hc hN hi hj hij hx hy ha hw hs) fun Dn σ H ⟨G, σd, ok, s0, q⟩ => by
 refine ⟨G, mask own σd, ok.masked, q.of_bind.mono (fun ds _ z vs G' H' s r => ?_) fun _ z => z.step s0⟩
 rw [Bool.or_eq_false_iff] at ho
 match ds, z, r with
 | [a, b], z, ⟨v, _, e1, r1, ⟨w, _, e2, r2, r3⟩⟩ =>
  subst e1; subst e2; cases r3
  exact ⟨v, w, rfl, (show zgd X.K X.mg G0 X.H₀ own ol Dn G (.nx ((σd.set i (some a)).set j (some b))) from z) _ G' H' (((ok.step s).set (zk8 ho.1) r1).set (zk8 ho.2) r2) (s0.trans s) s.g⟩
def zge (σ : DSt) (i : Nat) : R (List D) := match σ[i]? with
 | some (some (.lst ds)) => .ok ds
 | _ => .bad
def zq9 (own : List Nat) (i : Nat) (fe : DSt -> R D) : DSt -> R Out := fun σ => (zge σ i).bind fun ds => (fe (mask own σ)).bind fun d => bif most ds.length then .ok (.nx (σ.set i (some (.lst (ds ++ [d]))))) else .bad
def zxd (i : Nat) (fe : DSt -> R D) : DSt -> R Out := fun σ => (zge σ i).bind fun ds => (fe σ).bind fun d => bif most ds.length && imm d then .ok (.nx (σ.set i (some (.lst (ds ++ [d]))))) else .bad
theorem zqa {σ : DSt} {i : Nat} {ds : List D} (h : zge σ i = .ok ds) : σ[i]? = some (some (.lst ds)) := by
 unfold zge at h
 split at h
 ·cases h; assumption
 ·cases h
theorem zqb {σ : DSt} {i : Nat} {e : D} : zge σ i ≠ .err e := by
 unfold zge
 split <;> simp
theorem zra (i : Nat) {apos cpos : Pos} {np : Pos} (he : DE X E e fe) (ho : own.contains i = true := by rfl) (hN : X.N[i]? = some x := by rfl) (hv : Vis X.env.scope x := by first | exact Or.inl rfl | exact Or.inr (Or.inl rfl) | exact Or.inr (Or.inr rfl)) (hd : (x == ("__debug__" : Str)) = false := by decide)
  (hcd : (x == ("__classdict__" : Str)) = false := by decide)
  (hbase : attributeBase (.Name x np) "append" X.env (eval (.Name x np) X.env) = eval (.Name x np) X.env := by rfl)
  (hfew : ((backTo cpos (starEach [e] X.env)).all (fun x => !x.1) && (backToKw cpos (keywordEach [] X.env)).all (fun x => x.1.isSome) && decide ([e].length + ([] : List Keyword).length + (if ([] : List Keyword).isEmpty then 0 else 1) < 30)) = true := by rfl)
  (hline : (apos.endLine == cpos.line) = true := by rfl) (hs : starEach [e] X.env = (false, eval e X.env) :: starEach [] X.env := by rfl) (hplain : (backTo cpos (starEach [] X.env)).any (·.1) = false := by rfl)
  (hsw : swapsWith (.Call (.Attribute (.Name x np) "append" apos) [e] [] cpos) none pos.line X.env = pure false := by rfl) :
  DS X E own own ol (.Expr (.Call (.Attribute (.Name x np) "append" apos) [e] [] cpos) pos) (zq9 own i fe) := fun G0 =>
 PS.mono' (zm9 (zwH PySem.F.plainAttrs_list PySem.F.slot_list_append PySem.F.type_list_append zno (pv i hN hv hd hcd) (zay he zbE hs) hbase hfew hline hs hplain) hsw) fun Dn σ H ⟨G, σd, ok, s0, q⟩ => by
 have q1 := q.of_bind
 cases hL : zge σd i with
 | bad => rw [hL] at q1; exact q1.elim
 | err e => exact absurd hL zqb
 | ok ds =>
  rw [hL] at q1
  have q2 : RW ((fe (mask own σd)).bind fun d => bif most ds.length then R.ok (.nx (σd.set i (some (.lst (ds ++ [d]))))) else .bad) (zgd X.K X.mg G0 X.H₀ own ol Dn G) (zaM X.K X.mg E G0 X.H₀) := q1
  have hd := zqa hL
  have hi : i ∈ own := by simpa using ho
  obtain ⟨a, ds', vs, p1, p2, p3, p4, p5, p6⟩ := ok.mine i _ hi hd
  cases p2
  refine ⟨_, p1, .inl ⟨rfl, _, SqL.of p3⟩, ?_⟩
  refine ⟨G, mask own σd, ok.masked, (show RW ((zaa fe zaj) (mask own σd)) _ _ from ?_)⟩
  unfold zaa
  have q3 := q2.of_bind
  cases hf : fe (mask own σd) with
  | bad => rw [hf] at q3; exact q3.elim
  | err e => rw [hf] at q3; exact (show zaM X.K X.mg E G0 X.H₀ e from q3).step s0
  | ok d =>
   rw [hf] at q3
   rintro ws G' H' s ⟨v, _, e1, r1, r2⟩
   subst e1
   cases r2
   cases hm : most ds.length with
   | false => rw [hm] at q3; exact (show False from q3).elim
   | true =>
    rw [hm] at q3
    have hlt : ds.length < sizeLine := of_decide_eq_true hm
    have ok' := ok.step s
    refine ⟨a, vs, v, rfl, rfl, s.h _ _ p3, by rw [<- p6.length]; exact hlt, ?_⟩
    exact (show zgd X.K X.mg G0 X.H₀ own ol Dn G (.nx (σd.set i (some (.lst (ds ++ [d]))))) from q3) σ G' _ (ok'.write hi hd p1 ((p6.mono s.g).append (Reps.cons r1 Reps.nil))) ((s0.trans s).write (o := .lst vs) p5 (s.c _ _ p3 p4)) s.g
end
def zgP (ks : List Nat) (gp : D -> R (List D)) (fb : DSt -> R Out) : List D -> DSt -> R Out
 | [], σ => .ok (.nx σ)
 | d :: ds, σ => (gp d).noerr.bind fun us => (fb (setAll σ ks us)).bind fun o => match o with
  | .nx σ' => zgP ks gp fb ds σ'
  | .ct σ' => zgP ks gp fb ds σ'
  | .bk σ' => .ok (.nx σ')
  | .rt d => .ok (.rt d)
  | .rf d => .ok (.rf d)
def zkh (own ks : List Nat) (gp : D -> R (List D)) (fi : DSt -> R (List D)) (fb : DSt -> R Out) : DSt -> R Out := fun σ => (fi (mask own σ)).bind fun ds => zgP ks gp fb ds σ
structure XL (X : Cx) : Prop where
 own : PassesOwn (model X.prog X.w) X.A X.env X.xe
section
variable {X : Cx} {E : XK} {own ol ks : List Nat} {tg iter : Expr} {body : List Stmt} {gp : D -> R (List D)} {fi : DSt -> R (List D)} {fb : DSt -> R Out} {pos : Pos}
theorem zcP (L : XL X) (hc : X.calm = true) (hi : DI X E tg iter fi) (hg : DG X tg ks gp) (hb : DSs X E own own own body fb) (ho : ks.all (fun i => !own.contains i) = true := by rfl) (hs : ∀ x, foldedSetIterable iter X.env x = pure x := by intro _; rfl) :
  DS X E own own ol (.For tg iter body [] pos) (zkh own ks gp fi fb) := fun G0 => PS.mono' (zuc L.own hc hi hg (hb G0) hs) fun Dn σ H ⟨G, σd, ok, s0, q⟩ => by
 refine ⟨G, mask own σd, ok.masked, q.of_bind.mono (fun ds _ z J G1 H1 s1 it => ?_) fun _ z => z.step s0⟩
 have hko : ∀ k ∈ ks, k ∉ own := fun k hk => by simpa using xa1.mp ho k hk
 refine ⟨fun i m σ' H' => m = ds.length - i /\ i <= ds.length /\ ∃ G' σd', Ok X.K X.mg X.H₀ own σd' σ' G' H' /\ zaF G1 G' /\ zbh G0 X.H₀ G' H' /\ RW (zgP ks gp fb (ds.drop i) σd') (zgd X.K X.mg G0 X.H₀ own ol Dn G1) (zaM X.K X.mg E G0 X.H₀),
  ⟨ds.length, by simp, xci _, G1, σd, ok.step s1, zaF.refl _, s0.trans s1, z.mono (fun _ _ z => z.shift s1.g) fun _ z => z⟩, ?_⟩
 rintro i m σ' H' ⟨rfl, hi, G', σd', ok', e', s', w⟩
 by_cases hlt : i < ds.length
 ·right
  obtain ⟨d, hd⟩ : ∃ d, ds[i]? = some d := ⟨ds[i], by simp [hlt]⟩
  obtain ⟨g1, g2⟩ := it.turn H' i d (e'.trans ok'.ext) hd
  have hdrop : ds.drop i = d :: ds.drop (i + 1) := by
   rw [List.drop_eq_getElem_cons hlt]
   congr 1
   exact Option.some.inj ((xao hlt).symm.trans hd)
  rw [hdrop] at w
  refine ⟨g1, fun σ2 H2 => i + 1 <= ds.length /\ ∃ G' σd', Ok X.K X.mg X.H₀ own σd' σ2 G' H2 /\ zaF G1 G' /\ zbh G0 X.H₀ G' H2 /\ RW (zgP ks gp fb (ds.drop (i + 1)) σd') (zgd X.K X.mg G0 X.H₀ own ol Dn G1) (zaM X.K X.mg E G0 X.H₀),
   fun σ2 H2 ⟨h1, h2⟩ => ⟨ds.length - (i + 1), by omega, rfl, h1, h2⟩, fun x H2 hy => ?_⟩
  obtain ⟨G2, s2, r2⟩ := g2 x H2 hy G' e' ok'.ext
  unfold zgP at w
  obtain ⟨us, e1, w⟩ := zcO w.of_bind
  refine ⟨G2, d, s2.e, r2, RW.ok_of e1 fun ws rws => ?_⟩
  have ok2 := (ok'.step s2).setAll hko rws
  refine ⟨G2, _, ok2, s'.trans s2, w.of_bind.mono (fun o _ z => ?_) fun _ z => z⟩
  cases o with
  | nx σ3 => exact fun σ4 G4 H4 ok4 s4 e4 => ⟨hlt, G4, σ3, ok4, (e'.trans s2.g).trans e4, s4, z⟩
  | ct σ3 => exact fun σ4 G4 H4 ok4 s4 e4 => ⟨hlt, G4, σ3, ok4, (e'.trans s2.g).trans e4, s4, z⟩
  | bk σ3 => exact fun σ4 G4 H4 ok4 s4 e4 => (show zgd X.K X.mg G0 X.H₀ own ol Dn G1 (.nx σ3) from z) σ4 G4 H4 ok4 s4 ((e'.trans s2.g).trans e4)
  | rt d => exact z
  | rf d => exact z
 ·left
  have hi2 : i = ds.length := by omega
  subst hi2
  rw [List.drop_length] at w
  refine ⟨it.stop H' (e'.trans ok'.ext), ?_⟩
  unfold zgP at w
  exact (show zgd X.K X.mg G0 X.H₀ own ol Dn G1 (.nx σd') from w) σ' G' H' ok' s' e'
def zaR (c : DSt -> R Bool) (fb : DSt -> R Out) : Nat -> DSt -> R Out
 | 0, _ => .bad
 | n + 1, σ => (c σ).bind fun k => bif k then (fb σ).bind fun o => match o with
   | .nx σ' => zaR c fb n σ'
   | .ct σ' => zaR c fb n σ'
   | .bk σ' => .ok (.nx σ')
   | .rt d => .ok (.rt d)
   | .rf d => .ok (.rf d)
  else .ok (.nx σ)
open Classical in
noncomputable def zbr (c : DSt -> R Bool) (fb : DSt -> R Out) : DSt -> R Out := fun σ => if h : ∃ n, zaR c fb n σ ≠ .bad then zaR c fb (Classical.choose h) σ else .bad
theorem zdo {c : DSt -> R Bool} {fb : DSt -> R Out} : ∀ (n : Nat) (σ : DSt) (r : R Out), zaR c fb n σ = r -> r ≠ .bad -> ∀ k, zaR c fb (n + k) σ = r
 | 0, σ, r, h, hr, k => absurd h.symm hr
 | n + 1, σ, r, h, hr, k => by
  rw [show n + 1 + k = (n + k) + 1 by omega]
  unfold zaR at h ⊢
  cases hc : c σ with
  | bad => rw [hc] at h; exact absurd h.symm hr
  | err e => rw [hc] at h; exact h
  | ok b =>
   rw [hc] at h
   cases b with
   | false => exact h
   | true =>
    have h' : (fb σ).bind (fun o => match o with
     | .nx σ' => zaR c fb n σ'
     | .ct σ' => zaR c fb n σ'
     | .bk σ' => .ok (.nx σ')
     | .rt d => .ok (.rt d)
     | .rf d => .ok (.rf d)) = r := h
    show (fb σ).bind (fun o => match o with
     | .nx σ' => zaR c fb (n + k) σ'
     | .ct σ' => zaR c fb (n + k) σ'
     | .bk σ' => .ok (.nx σ')
     | .rt d => .ok (.rt d)
     | .rf d => .ok (.rf d)) = r
    cases hf : fb σ with
    | bad => rw [hf] at h'; exact absurd h'.symm hr
    | err e => rw [hf] at h'; exact h'
    | ok o =>
     rw [hf] at h'
     cases o with
     | nx σ' => exact zdo n σ' r h' hr k
     | ct σ' => exact zdo n σ' r h' hr k
     | bk σ' => exact h'
     | rt d => exact h'
     | rf d => exact h'
theorem zbJ {c : DSt -> R Bool} {fb : DSt -> R Out} {n : Nat} {σ : DSt} {r : R Out} (h : zaR c fb n σ = r) (hr : r ≠ .bad) : zbr c fb σ = r := by
 unfold zbr
 have hx : ∃ n, zaR c fb n σ ≠ .bad := ⟨n, by rw [h]; exact hr⟩
 rw [dif_pos hx]
 have h1 := Classical.choose_spec hx
 have a := zdo _ σ _ rfl h1 n
 have b := zdo _ σ _ h hr (Classical.choose hx)
 rw [Nat.add_comm] at b
 rw [<- a, b]
theorem zgQ (c : DSt -> R Bool) (fb : DSt -> R Out) (σ : DSt) : zbr c fb σ = (c σ).bind fun k => bif k then (fb σ).bind fun o => match o with
   | .nx σ' => zbr c fb σ'
   | .ct σ' => zbr c fb σ'
   | .bk σ' => .ok (.nx σ')
   | .rt d => .ok (.rt d)
   | .rf d => .ok (.rf d)
  else .ok (.nx σ) := by
 cases hc : c σ with
 | bad =>
  unfold zbr
  rw [dif_neg]
  ·rfl
  ·rintro ⟨n, h⟩
   cases n with
   | zero => exact h rfl
   | succ n => unfold zaR at h; rw [hc] at h; exact h rfl
 | err e => exact zbJ (n := 1) (by unfold zaR; rw [hc]; rfl) (by simp [R.bind])
 | ok b =>
  cases b with
  | false => exact zbJ (n := 1) (by unfold zaR; rw [hc]; rfl) (by simp [R.bind])
  | true =>
   show zbr c fb σ = (fb σ).bind _
   cases hf : fb σ with
   | bad =>
    unfold zbr
    rw [dif_neg]
    ·rfl
    ·rintro ⟨n, h⟩
     cases n with
     | zero => exact h rfl
     | succ n => unfold zaR at h; rw [hc] at h; simp only [R.bind, cond_true] at h; rw [hf] at h; exact h rfl
   | err e => exact zbJ (n := 1) (by unfold zaR; rw [hc]; show (fb σ).bind _ = _; rw [hf]; rfl) (by simp [R.bind])
   | ok o =>
    have go : ∀ σ', (∀ n, zaR c fb (n + 1) σ = zaR c fb n σ') -> zbr c fb σ = zbr c fb σ' := fun σ' hn => by
     by_cases hx : ∃ n, zaR c fb n σ' ≠ .bad
     ·obtain ⟨n, h⟩ := hx
      rw [zbJ (n := n) rfl h, zbJ (n := n + 1) (hn n) h]
     ·have : zbr c fb σ' = .bad := by unfold zbr; rw [dif_neg hx]
      rw [this]
      unfold zbr
      rw [dif_neg]
      rintro ⟨n, h⟩
      cases n with
      | zero => exact h rfl
      | succ n => rw [hn n] at h; exact hx ⟨n, h⟩
    cases o with
    | nx σ' => exact go σ' fun n => by unfold zaR; rw [hc]; show (fb σ).bind _ = _; rw [hf]; cases n <;> rfl
    | ct σ' => exact go σ' fun n => by unfold zaR; rw [hc]; show (fb σ).bind _ = _; rw [hf]; cases n <;> rfl
    | bk σ' => exact zbJ (n := 1) (by unfold zaR; rw [hc]; show (fb σ).bind _ = _; rw [hf]; rfl) (by simp [R.bind])
    | rt d => exact zbJ (n := 1) (by unfold zaR; rw [hc]; show (fb σ).bind _ = _; rw [hf]; rfl) (by simp [R.bind])
    | rf d => exact zbJ (n := 1) (by unfold zaR; rw [hc]; show (fb σ).bind _ = _; rw [hf]; rfl) (by simp [R.bind])
theorem zk9 {c : Expr} {fc : DSt -> R Bool} (L : XL X) (hc : DT X E c fc) (hb : DSs X E own own own body fb) : DS X E own own ol (.While c body [] pos) (zbr fc fb) := fun G0 => PS.mono' (zpC L.own hc (hb G0)) fun Dn σ H ⟨G, σd, ok, s0, q⟩ => by
 have hx : ∃ n, zaR fc fb n σd ≠ .bad := by
  by_cases hx : ∃ n, zaR fc fb n σd ≠ .bad
  ·exact hx
  ·unfold zbr at q; rw [dif_neg hx] at q; exact (show False from q).elim
 obtain ⟨n, hn⟩ := hx
 rw [zbJ rfl hn] at q
 refine ⟨fun m σ' H' => ∃ G' σd', Ok X.K X.mg X.H₀ own σd' σ' G' H' /\ zaF G G' /\ zbh G0 X.H₀ G' H' /\ RW (zaR fc fb m σd') (zgd X.K X.mg G0 X.H₀ own ol Dn G) (zaM X.K X.mg E G0 X.H₀), ⟨n, G, σd, ok, zaF.refl _, s0, q⟩, ?_⟩
 rintro m σ1 H1 ⟨G1, σd1, ok1, e1, s1, w⟩
 cases m with
 | zero => exact (show False from w).elim
 | succ m =>
  unfold zaR at w
  have sp := ok1.pubStep s1
  refine ⟨_, σd1, ok1.pub.1, w.of_bind.mono (fun k _ z G' H' s => ?_) fun _ z => z.step sp⟩
  have ok' := ok1.drop s.h
  have s' : zbh G0 X.H₀ G1 H' := s1.trans (.heap ok1.ext s.h)
  cases k with
  | true =>
   refine iteT ?_
   refine ⟨fun σ2 H2 => ∃ G' σd', Ok X.K X.mg X.H₀ own σd' σ2 G' H2 /\ zaF G G' /\ zbh G0 X.H₀ G' H2 /\ RW (zaR fc fb m σd') (zgd X.K X.mg G0 X.H₀ own ol Dn G) (zaM X.K X.mg E G0 X.H₀), fun σ2 H2 h => ⟨m, xc0 _, h⟩, ?_⟩
   refine ⟨G1, σd1, ok', s', (show RW ((fb σd1).bind _) _ _ from z).of_bind.mono (fun o _ z => ?_) fun _ z => z⟩
   cases o with
   | nx σ3 => exact fun σ4 G4 H4 ok4 s4 e4 => ⟨G4, σ3, ok4, e1.trans e4, s4, z⟩
   | ct σ3 => exact fun σ4 G4 H4 ok4 s4 e4 => ⟨G4, σ3, ok4, e1.trans e4, s4, z⟩
   | bk σ3 => exact fun σ4 G4 H4 ok4 s4 e4 => (show zgd X.K X.mg G0 X.H₀ own ol Dn G (.nx σ3) from z) σ4 G4 H4 ok4 s4 (e1.trans e4)
   | rt d => exact z
   | rf d => exact z
  | false =>
   refine iteF ?_
   exact (show zgd X.K X.mg G0 X.H₀ own ol Dn G (.nx σd1) from z) σ1 G1 H' ok' s' e1
end
def zeo (n : Nat) (ds : List D) : DSt := ds.map some ++ List.replicate (n - ds.length) none
def fin : R Out -> R D
 | .ok (.rt d) => .ok d
 | .ok (.rf ds) => .ok (.lst ds)
 | .ok (.nx _) => .ok .non
 | .ok _ => .bad
 | .err e => .err e
 | .bad => .bad
def fnM (n nN : Nat) (body : DSt -> R Out) : List D -> R D := fun ds => bif ds.length == n then fin (body (zeo nN ds)) else .bad
theorem Reps.startOk {K : xFg} {mg : Str -> Option Value} {G H : Hp} (e : zaF G H) : ∀ {ds : List D} {vs : List V} (k : Nat), Reps K mg G ds vs -> Ok0 K mg (ds.map some ++ List.replicate k none) (vs.map some ++ List.replicate k none) G H
 | [], _, k, h => by
  cases h
  have := Ok0.nones (K := K) (mg := mg) (G := G) (H := H) (σd := []) (σ := []) ⟨e, rfl, fun i d q => by simp at q⟩ k
  simpa using this
 | d :: ds, _, k, ⟨v, r, h1, h2, h3⟩ => by
  subst h1
  exact (Reps.startOk e k h3).cons (x := some d) (y := some v) fun d' q => by cases q; exact ⟨v, rfl, h2⟩
section
variable {P : Program} {w : World} {K : xFg} {mg : Str -> Option Value} {base : Heap}
theorem zaC.mk' {x qual : Str} {st : Stmt} {f : Addr} {fd : FuncData} {N ps : List Str} {k n nN : Nat} {own' : List Nat} {body : DSt -> R Out} (F : Fun K x qual st f fd) (S : zdk N ps (zai st)) (hm : mg x = some (.ref f)) (b : zgx K fd ps [])
  (hn : ps.length = n) (hN : N.length = nN)
  (hb : ∀ (X : Cx) (E : XK), (∃ cdv A outer s H, X = zdc (CXe P w) P w K mg base N qual (zai st) f cdv A outer s H E) -> XC X E k -> XL X -> DSs X E [] own' [] (zbs st) body) : zaC P w K mg base (k + 1) x (fnM n nN body) := by
 refine ⟨f, fd, ps, F.okX S (fun vs H Q E h => ?_) (fun cdv A outer s H vs Q E hr hsp => ?_), hm, F.kp, b⟩
 ·obtain ⟨G, ds, e, r, q⟩ := h
  by_cases hd : ds.length = n
  ·rw [<- r.length, hd, hn]
  ·have : (ds.length == n) = false := by simpa using hd
   unfold fnM at q
   rw [this] at q
   exact (show False from q).elim
 ·obtain ⟨G, ds, e, r, q⟩ := hsp
  have hd : ds.length = n := by
   by_cases hd : ds.length = n
   ·exact hd
   ·have : (ds.length == n) = false := by simpa using hd
    unfold fnM at q
    rw [this] at q
    exact (show False from q).elim
  unfold fnM at q
  rw [show (ds.length == n) = true by simpa using hd] at q
  have q' : RW (fin (body (zeo nN ds))) (zao K mg Q G H) (zaM K mg E G H) := q
  refine ⟨_, hb _ E ⟨cdv, A, outer, s, H, rfl⟩ ⟨rfl, hr, zut⟩ ⟨PassesOwn.leaving⟩ G, G, zeo nN ds, ?_, .refl e, ?_⟩
  ·have := Reps.startOk e (N.length - vs.length) r
   unfold L2.start zeo
   rw [<- hN, r.length]
   exact .zero this
  ·cases hbd : body (zeo nN ds) with
   | bad => rw [hbd] at q'; exact q'
   | err e => rw [hbd] at q'; exact q'
   | ok o =>
    rw [hbd] at q'
    cases o with
    | rt d => exact fun v G' H' s r => (show zao K mg Q G H d from q') v G' H' s r
    | rf es =>
     intro a vs G' H' s n e g r
     have q2 : zao K mg Q G H (.lst es) := q'
     have sg : zaF G' (upd G' a (.lst vs)) := zcn g
     refine q2 (.ref a) (upd G' a (.lst vs)) H' ⟨s.g.trans sg, s.h, fun b u p => ?_, fun b u p1 p2 => ?_⟩ ⟨a, vs, rfl, SqL.of zan, r.mono sg⟩
     ·by_cases hb : b = a
      ·subst hb; rw [zan] at p; cases p; exact e
      ·rw [zak hb] at p; exact s.e b u p
     ·have hb : b ≠ a := zam p1 n
      rw [zak hb]; exact s.c b u p1 p2
    | nx σ => exact fun σ' G' H' ok s _ => (show zao K mg Q G H .non from q') .non G' H' s rfl
    | bk σ => exact (show False from q').elim
    | ct σ => exact (show False from q').elim
end
theorem XC.lc {X : Cx} {E : XK} {k : Nat} (C : XC X E k) (scope : Scope) (NY : List Str) (s0 : Shared) (H0 : Hp) (Ca : Addr) (ex : List Addr) : XC (zem X scope NY s0 H0 Ca ex) E0 k := ⟨C.calm, C.room, zwQ⟩
end DL
namespace DL
open L2
mutual
def eqD : D -> D -> Bool
 | .non, .non => true
 | .bl a, .bl b => a == b
 | .int a, .int b => a == b
 | .str a, .str b => a == b
 | .bl a, .int b => (if a then (1 : Int) else 0) == b
 | .int a, .bl b => a == (if b then (1 : Int) else 0)
 | .tup xs, .tup ys => eqDs xs ys
 | .lst xs, .lst ys => eqDs xs ys
 | _, _ => false
def eqDs : List D -> List D -> Bool
 | [], [] => true
 | x :: xs, y :: ys => eqD x y && eqDs xs ys
 | _, _ => false
end
def zdY : Nat -> D -> Bool
 | _, .non => true
 | _, .bl _ => true
 | _, .int _ => true
 | _, .str _ => true
 | n + 1, .tup xs => xs.all (zdY n)
 | n + 1, .lst xs => xs.all (zdY n)
 | _, _ => false
theorem zef : ∀ (xs ys : List D), ((List.range (min xs.length ys.length)).all (fun j => eqD (xs.getD j .non) (ys.getD j .non)) && xs.length == ys.length) = eqDs xs ys
 | [], [] => by unfold eqDs; rfl
 | [], _ :: _ => by unfold eqDs; simp
 | _ :: _, [] => by unfold eqDs; simp
 | x :: xs, y :: ys => by
  unfold eqDs
  rw [<- zef xs ys]
  simp only [xar, Nat.succ_min_succ, List.range_succ_eq_map, List.all_cons, List.getD_cons_zero, List.all_map, Bool.and_assoc]
  congr 2
  rw [xcn]; simp
theorem zgm : ∀ (n : Nat) (d : D), zdY n d = true -> eqD d d = true := by
 intro n
 induction n with
 | zero => intro d h; cases d <;> first | (simp [zdY] at h; done) | (unfold eqD; simp; done)
 | succ n ih =>
  have hl : ∀ xs : List D, xs.all (zdY n) = true -> eqDs xs xs = true := fun xs => by
   induction xs with
   | nil => intro _; unfold eqDs; rfl
   | cons x xs ihx =>
    intro h
    rw [List.all_cons, xa0] at h
    unfold eqDs
    rw [ih x h.1, ihx h.2]; rfl
  intro d h
  cases d with
  | tup xs => unfold eqD; exact hl xs (by unfold zdY at h; exact h)
  | lst xs => unfold eqD; exact hl xs (by unfold zdY at h; exact h)
  | _ => first | (simp [zdY] at h; done) | (unfold eqD; simp; done)
def vOf : D -> Option V
 | .non => some .non
 | .bl b => some (.bl b)
 | .int i => some (.int i)
 | .str x => some (.str x)
 | _ => none
theorem zbK {K : xFg} {mg : Str -> Option Value} {G : Hp} {d : D} {v x : V} (h : vOf d = some v) (r : Rep K mg G d x) : x = v /\ zkk v = true := by
 cases d <;> first | (simp [vOf] at h; done) | (simp only [vOf, Option.some.injEq] at h; subst h; simp only [Rep] at r; exact ⟨r, rfl⟩)
theorem zqc {d d' : D} {v v' : V} (h : vOf d = some v) (h' : vOf d' = some v') : eqD d d' = eqV v v' := by
 cases d <;> first | (simp [vOf] at h; done) | (simp only [vOf, Option.some.injEq] at h; subst h; cases d' <;> first | (simp [vOf] at h'; done) | (simp only [vOf, Option.some.injEq] at h'; subst h'; unfold eqD eqV; first | rfl | simp))
theorem zn2 {d d' : D} {v : V} (h : vOf d = some v) (h' : vOf d' = some v) : d = d' := by
 cases d <;> first | (simp [vOf] at h; done) | (simp only [vOf, Option.some.injEq] at h; subst h; cases d' <;> first | (simp [vOf] at h'; done) | (simp only [vOf, Option.some.injEq] at h'; cases h'; rfl))
theorem za9 {n : Nat} {d : D} (h : zdY n d = true) : (∃ v, vOf d = some v) \/ (∃ m xs, n = m + 1 /\ d = .tup xs /\ xs.all (zdY m) = true) \/ (∃ m xs, n = m + 1 /\ d = .lst xs /\ xs.all (zdY m) = true) := by
 cases d with
 | tup xs => cases n with
  | zero => simp [zdY] at h
  | succ m => exact .inr (.inl ⟨m, xs, rfl, rfl, by unfold zdY at h; exact h⟩)
 | lst xs => cases n with
  | zero => simp [zdY] at h
  | succ m => exact .inr (.inr ⟨m, xs, rfl, rfl, by unfold zdY at h; exact h⟩)
 | non => exact .inl ⟨_, rfl⟩
 | bl b => exact .inl ⟨_, rfl⟩
 | int i => exact .inl ⟨_, rfl⟩
 | str x => exact .inl ⟨_, rfl⟩
 | _ => simp [zdY] at h
section
variable {X : Cx} {pins : List (Addr × Obj)} {σ : St} {G H : Hp} {s : Shared}
theorem zla (I : Inv X pins σ H s) {a : Addr} {xs ys : List V} (h1 : SqT X.K H a xs) (h2 : SqL X.K H a ys) : False := by
 obtain ⟨_, _, ⟨o, e, c, _⟩, _⟩ := I.tuple h1
 obtain ⟨_, _, ⟨o', _, e', c', _⟩, _⟩ := I.list h2
 rw [e] at e'; cases e'
 rw [c] at c'
 exact absurd c' (by simp)
theorem zeg {v : V} {a : Addr} (h : zkk v = true) : v ≠ .ref a := by rintro rfl; cases h
theorem zkt (I : Inv X pins σ H s) (e : zaF G H) : ∀ (n : Nat) {d d' : D} {v : V}, zdY n d = true -> zdY n d' = true -> Rep X.K X.mg G d v -> Rep X.K X.mg G d' v -> d = d' := by
 intro n
 induction n with
 | zero =>
  intro d d' v h h' r r'
  rcases za9 h with ⟨w, hw⟩ | ⟨_, _, z, _⟩ | ⟨_, _, z, _⟩ <;> try omega
  rcases za9 h' with ⟨w', hw'⟩ | ⟨_, _, z, _⟩ | ⟨_, _, z, _⟩ <;> try omega
  have e1 := (zbK hw r).1
  have e2 := (zbK hw' r').1
  rw [<- e1] at hw; rw [<- e2] at hw'
  exact zn2 hw hw'
 | succ n ih =>
  have hl : ∀ (xs ys : List D) (vs : List V), xs.all (zdY n) = true -> ys.all (zdY n) = true -> Reps X.K X.mg G xs vs -> Reps X.K X.mg G ys vs -> xs = ys := by
   intro xs
   induction xs with
   | nil =>
    intro ys vs _ _ r r'
    cases r
    cases ys with
    | nil => rfl
    | cons y ys => obtain ⟨_, _, z, _⟩ := r'; cases z
   | cons x xs ihx =>
    intro ys vs h h' r r'
    obtain ⟨v, t, rfl, r1, r2⟩ := r
    cases ys with
    | nil => cases r'
    | cons y ys =>
     obtain ⟨v', t', z, r1', r2'⟩ := r'
     cases z
     rw [List.all_cons, xa0] at h h'
     rw [ih h.1 h'.1 r1 r1', ihx ys _ h.2 h'.2 r2 r2']
  intro d d' v h h' r r'
  rcases za9 h with ⟨w, hw⟩ | ⟨m, xs, hm, rfl, hx⟩ | ⟨m, xs, hm, rfl, hx⟩
  ·rcases za9 h' with ⟨w', hw'⟩ | ⟨m', ys, hm', rfl, hy⟩ | ⟨m', ys, hm', rfl, hy⟩
   ·have e1 := (zbK hw r).1
    have e2 := (zbK hw' r').1
    rw [<- e1] at hw; rw [<- e2] at hw'
    exact zn2 hw hw'
   ·obtain ⟨e1, e2⟩ := zbK hw r
    obtain ⟨a, vs, z, _⟩ := r'
    exact absurd (e1.symm.trans z) (zeg e2)
   ·obtain ⟨e1, e2⟩ := zbK hw r
    obtain ⟨a, vs, z, _⟩ := r'
    exact absurd (e1.symm.trans z) (zeg e2)
  ·obtain rfl : n = m := by omega
   obtain ⟨a, vs, rfl, q1, q2⟩ := r
   rcases za9 h' with ⟨w', hw'⟩ | ⟨m', ys, hm', rfl, hy⟩ | ⟨m', ys, hm', rfl, hy⟩
   ·obtain ⟨e1, e2⟩ := zbK hw' r'
    exact absurd e1.symm (zeg e2)
   ·obtain rfl : n = m' := by omega
    obtain ⟨a', vs', z, q1', q2'⟩ := r'
    cases z
    have := I.tuple_inj (zaF.sqT e q1) (zaF.sqT e q1')
    subst this
    rw [hl xs ys _ hx hy q2 q2']
   ·obtain ⟨a', vs', z, q1', q2'⟩ := r'
    cases z
    exact (zla I (zaF.sqT e q1) (e.seq q1')).elim
  ·obtain rfl : n = m := by omega
   obtain ⟨a, vs, rfl, q1, q2⟩ := r
   rcases za9 h' with ⟨w', hw'⟩ | ⟨m', ys, hm', rfl, hy⟩ | ⟨m', ys, hm', rfl, hy⟩
   ·obtain ⟨e1, e2⟩ := zbK hw' r'
    exact absurd e1.symm (zeg e2)
   ·obtain ⟨a', vs', z, q1', q2'⟩ := r'
    cases z
    exact (zla I (zaF.sqT e q1') (e.seq q1)).elim
   ·obtain rfl : n = m' := by omega
    obtain ⟨a', vs', z, q1', q2'⟩ := r'
    cases z
    have := I.list_inj (e.seq q1) (e.seq q1')
    subst this
    rw [hl xs ys _ hx hy q2 q2']
theorem zu3 {α : Type} {us : List α} {j : Nat} (h : j < us.toArray.size) : us.toArray[j] = us[j]'(by simpa using h) := by simp
theorem zn3 {α : Type} {xs : List α} {d : α} {j : Nat} (h : j < xs.length) : xs.getD j d = xs[j] := by simp [List.getD, h]
open SeqAt in
theorem zgn {A : Around} {n : Nat} (ih : ∀ {d d' : D} {x x' : V} {u u' : Value}, zdY n d = true -> zdY n d' = true -> Rep X.K X.mg G d x -> zbg x u -> Rep X.K X.mg G d' x' -> zbg x' u' -> EqAt A s u u' (eqD d d'))
  {xs ys : List D} {vs ws : List V} {us us' : List Value} (h : xs.all (zdY n) = true) (h' : ys.all (zdY n) = true) (r : Reps X.K X.mg G xs vs) (q : zbi vs us) (r' : Reps X.K X.mg G ys ws) (q' : zbi ws us') :
  ∀ j (h1 : j < us.toArray.size) (h2 : j < us'.toArray.size), EqAt A s us.toArray[j] us'.toArray[j] (eqD (xs.getD j .non) (ys.getD j .non)) := by
 intro j h1 h2
 have l1 : j < vs.length := by rw [q.length]; simpa using h1
 have l2 : j < ws.length := by rw [q'.length]; simpa using h2
 have l3 : j < xs.length := by rw [r.length]; exact l1
 have l4 : j < ys.length := by rw [r'.length]; exact l2
 obtain ⟨v, e1, e2⟩ := r.get (i := j) (d := xs[j]) (by simp [l3])
 obtain ⟨w, e3, e4⟩ := r'.get (i := j) (d := ys[j]) (by simp [l4])
 obtain ⟨u, e5, e6⟩ := q.get e1
 obtain ⟨u', e7, e8⟩ := q'.get e3
 have z1 : us.toArray[j] = u := by rw [zu3 h1]; exact (xah.mp e5).2
 have z2 : us'.toArray[j] = u' := by rw [zu3 h2]; exact (xah.mp e7).2
 rw [z1, z2, zn3 l3, zn3 l4]
 exact ih (xa1.mp h _ (xb6 l3)) (xa1.mp h' _ (xb6 l4)) e2 e6 e4 e8
theorem in1_units (A : Around) : A.in1.units = A.units + 1 := rfl
open SeqAt in
theorem zu4 {A : Around} {x x' : V} {u u' : Value} (q : zbg x u) (q' : zbg x' u') (f : zkk x = true) (f' : zkk x' = true) : RcAt A s u u' (eqV x x') /\ RcNeAt A s u u' (!eqV x x') := by
 cases x with
 | non =>
  cases (show u = Value.none from q)
  cases x' with
  | non => cases (show u' = Value.none from q'); exact ⟨RcAt.none_none, RcNeAt.none_none⟩
  | bl b => cases (show u' = Value.bool b from q'); exact ⟨RcAt.none_bool b, RcNeAt.none_bool b⟩
  | int b => obtain ⟨tb, rfl⟩ := (show ∃ t, u' = Value.int b t from q'); exact ⟨RcAt.none_int b tb, RcNeAt.none_int b tb⟩
  | str b => obtain ⟨tb, rfl⟩ := (show ∃ t, u' = Value.str b t from q'); exact ⟨RcAt.none_str b tb, RcNeAt.none_str b tb⟩
  | _ => cases f'
 | bl a =>
  cases (show u = Value.bool a from q)
  cases x' with
  | non => cases (show u' = Value.none from q'); exact ⟨RcAt.bool_none a, RcNeAt.bool_none a⟩
  | bl b => cases (show u' = Value.bool b from q'); exact ⟨RcAt.bool_bool a b, RcNeAt.bool_bool a b⟩
  | int b => obtain ⟨tb, rfl⟩ := (show ∃ t, u' = Value.int b t from q'); exact ⟨RcAt.bool_int a b tb, RcNeAt.bool_int a b tb⟩
  | str b => obtain ⟨tb, rfl⟩ := (show ∃ t, u' = Value.str b t from q'); exact ⟨RcAt.bool_str a b tb, RcNeAt.bool_str a b tb⟩
  | _ => cases f'
 | int a =>
  obtain ⟨ta, rfl⟩ := (show ∃ t, u = Value.int a t from q)
  cases x' with
  | non => cases (show u' = Value.none from q'); exact ⟨RcAt.int_none a ta, RcNeAt.int_none a ta⟩
  | bl b => cases (show u' = Value.bool b from q'); exact ⟨RcAt.int_bool a ta b, RcNeAt.int_bool a ta b⟩
  | int b => obtain ⟨tb, rfl⟩ := (show ∃ t, u' = Value.int b t from q'); exact ⟨RcAt.int_int a ta b tb, RcNeAt.int_int a ta b tb⟩
  | str b => obtain ⟨tb, rfl⟩ := (show ∃ t, u' = Value.str b t from q'); exact ⟨RcAt.int_str a ta b tb, RcNeAt.int_str a ta b tb⟩
  | _ => cases f'
 | str a =>
  obtain ⟨ta, rfl⟩ := (show ∃ t, u = Value.str a t from q)
  cases x' with
  | non => cases (show u' = Value.none from q'); exact ⟨RcAt.str_none a ta, RcNeAt.str_none a ta⟩
  | bl b => cases (show u' = Value.bool b from q'); exact ⟨RcAt.str_bool a ta b, RcNeAt.str_bool a ta b⟩
  | int b => obtain ⟨tb, rfl⟩ := (show ∃ t, u' = Value.int b t from q'); exact ⟨RcAt.str_int a ta b tb, RcNeAt.str_int a ta b tb⟩
  | str b => obtain ⟨tb, rfl⟩ := (show ∃ t, u' = Value.str b t from q'); exact ⟨RcAt.str_str a ta b tb, RcNeAt.str_str a ta b tb⟩
  | _ => cases f'
 | _ => cases f
open SeqAt in
theorem zcQ {A : Around} {x : V} {u : Value} {b : Addr} {items : Array Value} (fx : zkk x = true) (q : zbg x u) (hA : A.units < cLine) (h : s.heap.IsTuple b items \/ s.heap.IsList b items) : EqAt A s u (.ref b) false /\ EqAt A s (.ref b) u false /\ RcAt A s u (.ref b) false /\ RcAt A s (.ref b) u false /\ RcNeAt A s u (.ref b) true /\ RcNeAt A s (.ref b) u true := by
 cases x with
 | non =>
  obtain rfl : u = Value.none := q
  rcases h with h | h
  ·exact ⟨EqAt.none_tuple h hA, EqAt.tuple_none h hA, RcAt.none_tuple h hA, RcAt.tuple_none h hA, RcNeAt.none_tuple h hA, RcNeAt.tuple_none h hA⟩
  ·exact ⟨EqAt.none_list h hA, EqAt.list_none h hA, RcAt.none_list h hA, RcAt.list_none h hA, RcNeAt.none_list h hA, RcNeAt.list_none h hA⟩
 | bl a =>
  obtain rfl : u = Value.bool a := q
  rcases h with h | h
  ·exact ⟨EqAt.bool_tuple _ h hA, EqAt.tuple_bool _ h hA, RcAt.bool_tuple _ h hA, RcAt.tuple_bool _ h hA, RcNeAt.bool_tuple _ h hA, RcNeAt.tuple_bool _ h hA⟩
  ·exact ⟨EqAt.bool_list _ h hA, EqAt.list_bool _ h hA, RcAt.bool_list _ h hA, RcAt.list_bool _ h hA, RcNeAt.bool_list _ h hA, RcNeAt.list_bool _ h hA⟩
 | int a =>
  obtain ⟨t, rfl⟩ : ∃ t, u = Value.int a t := q
  rcases h with h | h
  ·exact ⟨EqAt.int_tuple _ _ h hA, EqAt.tuple_int _ _ h hA, RcAt.int_tuple _ _ h hA, RcAt.tuple_int _ _ h hA, RcNeAt.int_tuple _ _ h hA, RcNeAt.tuple_int _ _ h hA⟩
  ·exact ⟨EqAt.int_list _ _ h hA, EqAt.list_int _ _ h hA, RcAt.int_list _ _ h hA, RcAt.list_int _ _ h hA, RcNeAt.int_list _ _ h hA, RcNeAt.list_int _ _ h hA⟩
 | str a =>
  obtain ⟨t, rfl⟩ : ∃ t, u = Value.str a t := q
  rcases h with h | h
  ·exact ⟨EqAt.str_tuple _ _ h hA, EqAt.tuple_str _ _ h hA, RcAt.str_tuple _ _ h hA, RcAt.tuple_str _ _ h hA, RcNeAt.str_tuple _ _ h hA, RcNeAt.tuple_str _ _ h hA⟩
  ·exact ⟨EqAt.str_list _ _ h hA, EqAt.list_str _ _ h hA, RcAt.str_list _ _ h hA, RcAt.list_str _ _ h hA, RcNeAt.str_list _ _ h hA, RcNeAt.list_str _ _ h hA⟩
 | _ => cases fx
theorem ze2 {xs ys : List D} : eqD (.tup xs) (.tup ys) = eqDs xs ys /\ eqD (.lst xs) (.lst ys) = eqDs xs ys /\ eqD (.tup xs) (.lst ys) = false /\ eqD (.lst xs) (.tup ys) = false := by
 refine ⟨?_, ?_, ?_, ?_⟩ <;> (unfold eqD; rfl)
theorem zdp {d : D} {v : V} {ys : List D} (h : vOf d = some v) : eqD d (.tup ys) = false /\ eqD d (.lst ys) = false /\ eqD (.tup ys) d = false /\ eqD (.lst ys) d = false := by
 cases d <;> first | (simp [vOf] at h; done) | (refine ⟨?_, ?_, ?_, ?_⟩ <;> (unfold eqD; rfl))
set_option maxHeartbeats 4000000 in
open SeqAt in
theorem zn4 (I : Inv X pins σ H s) (e : zaF G H) : ∀ (n : Nat) {A : Around} {d d' : D} {x x' : V} {u u' : Value}, A.units + n < cLine -> zdY n d = true -> zdY n d' = true -> Rep X.K X.mg G d x -> zbg x u -> Rep X.K X.mg G d' x' -> zbg x' u' ->
  EqAt A s u u' (eqD d d') /\ RcAt A s u u' (eqD d d') /\ RcNeAt A s u u' (!eqD d d') := by
 have ff : ∀ {A : Around} {d d' : D} {v v' x x' : V} {u u' : Value}, vOf d = some v -> vOf d' = some v' -> Rep X.K X.mg G d x -> zbg x u -> Rep X.K X.mg G d' x' -> zbg x' u' -> EqAt A s u u' (eqD d d') /\ RcAt A s u u' (eqD d d') /\ RcNeAt A s u u' (!eqD d d') := by
  intro A d d' v v' x x' u u' hv hv' r q r' q'
  obtain ⟨rfl, f1⟩ := zbK hv r
  obtain ⟨rfl, f2⟩ := zbK hv' r'
  rw [zqc hv hv']
  exact ⟨zuo q q' f1 f2, zu4 q q' f1 f2⟩
 have seq : ∀ {d : D} {m : Nat} {xs : List D} {x : V} {u : Value}, d = .tup xs \/ d = .lst xs -> Rep X.K X.mg G d x -> zbg x u -> ∃ b items, u = .ref b /\ (s.heap.IsTuple b items \/ s.heap.IsList b items) := by
  intro d m xs x u hd r q
  rcases hd with rfl | rfl
  ·obtain ⟨a, vs, rfl, q1, q2⟩ := r
   obtain ⟨us, v1, t1, _⟩ := I.tuple (zaF.sqT e q1)
   exact ⟨a, _, q, .inl t1⟩
  ·obtain ⟨a, vs, rfl, q1, q2⟩ := r
   obtain ⟨us, v1, t1, _⟩ := I.list (e.seq q1)
   exact ⟨a, _, q, .inr t1.isList⟩
 intro n
 induction n with
 | zero =>
  intro A d d' x x' u u' hu h h' r q r' q'
  rcases za9 h with ⟨w, hw⟩ | ⟨_, _, z, _⟩ | ⟨_, _, z, _⟩ <;> try omega
  rcases za9 h' with ⟨w', hw'⟩ | ⟨_, _, z, _⟩ | ⟨_, _, z, _⟩ <;> try omega
  exact ff hw hw' r q r' q'
 | succ n ih =>
  intro A d d' x x' u u' hu h h' r q r' q'
  have hA : A.units < cLine := by omega
  have ih' : ∀ {d d' : D} {x x' : V} {u u' : Value}, zdY n d = true -> zdY n d' = true -> Rep X.K X.mg G d x -> zbg x u -> Rep X.K X.mg G d' x' -> zbg x' u' -> EqAt A.in1 s u u' (eqD d d') :=
   fun a b c d e f => (ih (A := A.in1) (by rw [in1_units]; omega) a b c d e f).1
  rcases za9 h with ⟨w, hw⟩ | ⟨m, xs, hm, rfl, hx⟩ | ⟨m, xs, hm, rfl, hx⟩
  ·rcases za9 h' with ⟨w', hw'⟩ | ⟨m', ys, hm', rfl, hy⟩ | ⟨m', ys, hm', rfl, hy⟩
   ·exact ff hw hw' r q r' q'
   ·obtain ⟨rfl, f1⟩ := zbK hw r
    obtain ⟨b, items, rfl, hb⟩ := seq (m := m') (.inl rfl) r' q'
    obtain ⟨z1, _, z3, _, z5, _⟩ := zcQ f1 q hA hb
    rw [(zdp hw).1]; exact ⟨z1, z3, z5⟩
   ·obtain ⟨rfl, f1⟩ := zbK hw r
    obtain ⟨b, items, rfl, hb⟩ := seq (m := m') (.inr rfl) r' q'
    obtain ⟨z1, _, z3, _, z5, _⟩ := zcQ f1 q hA hb
    rw [(zdp hw).2.1]; exact ⟨z1, z3, z5⟩
  ·obtain rfl : n = m := by omega
   rcases za9 h' with ⟨w', hw'⟩ | ⟨m', ys, hm', rfl, hy⟩ | ⟨m', ys, hm', rfl, hy⟩
   ·obtain ⟨rfl, f1⟩ := zbK hw' r'
    obtain ⟨b, items, rfl, hb⟩ := seq (m := n) (.inl rfl) r q
    obtain ⟨_, z2, _, z4, _, z6⟩ := zcQ f1 q' hA hb
    rw [(zdp hw').2.2.1]; exact ⟨z2, z4, z6⟩
   ·obtain rfl : n = m' := by omega
    have hr := r; have hr' := r'
    obtain ⟨a, vs, rfl, q1, q2⟩ := r
    obtain rfl : u = Value.ref a := q
    obtain ⟨us, v1, t1, _⟩ := I.tuple (zaF.sqT e q1)
    obtain ⟨b, ws, rfl, q1', q2'⟩ := r'
    obtain rfl : u' = Value.ref b := q'
    obtain ⟨us', v1', t1', _⟩ := I.tuple (zaF.sqT e q1')
    have t1 : s.heap.IsTuple a us.toArray := t1
    have t1' : s.heap.IsTuple b us'.toArray := t1'
    have z := RcAt.tuples t1 t1' hA (zgn ih' hx hy q2 v1 q2' v1')
    have zn := RcNeAt.tuples t1 t1' hA (zgn ih' hx hy q2 v1 q2' v1')
    have hz : ((List.range (min us.toArray.size us'.toArray.size)).all (fun j => eqD (xs.getD j .non) (ys.getD j .non)) && us.toArray.size == us'.toArray.size) = eqD (.tup xs) (.tup ys) := by
     rw [ze2.1, <- zef]
     simp only [xak, <- v1.length, <- v1'.length, <- q2.length, <- q2'.length]
    rw [hz] at z zn
    refine ⟨?_, z, zn⟩
    by_cases hab : a = b
    ·subst hab
     have ed := zkt I e (n + 1) h h' hr hr'
     rw [ed, zgm _ _ h']; exact EqAt.same _
    ·exact EqAt.of_refs hab z
   ·obtain ⟨a, vs, rfl, q1, q2⟩ := r
    obtain rfl : u = Value.ref a := q
    obtain ⟨us, v1, t1, _⟩ := I.tuple (zaF.sqT e q1)
    obtain ⟨b, ws, rfl, q1', q2'⟩ := r'
    obtain rfl : u' = Value.ref b := q'
    obtain ⟨us', v1', t1', _⟩ := I.list (e.seq q1')
    have t1 : s.heap.IsTuple a us.toArray := t1
    rw [ze2.2.2.1]
    exact ⟨EqAt.tuple_list t1 t1'.isList hA, RcAt.tuple_list t1 t1'.isList hA, RcNeAt.tuple_list t1 t1'.isList hA⟩
  ·obtain rfl : n = m := by omega
   rcases za9 h' with ⟨w', hw'⟩ | ⟨m', ys, hm', rfl, hy⟩ | ⟨m', ys, hm', rfl, hy⟩
   ·obtain ⟨rfl, f1⟩ := zbK hw' r'
    obtain ⟨b, items, rfl, hb⟩ := seq (m := n) (.inr rfl) r q
    obtain ⟨_, z2, _, z4, _, z6⟩ := zcQ f1 q' hA hb
    rw [(zdp hw').2.2.2]; exact ⟨z2, z4, z6⟩
   ·obtain ⟨a, vs, rfl, q1, q2⟩ := r
    obtain rfl : u = Value.ref a := q
    obtain ⟨us, v1, t1, _⟩ := I.list (e.seq q1)
    obtain ⟨b, ws, rfl, q1', q2'⟩ := r'
    obtain rfl : u' = Value.ref b := q'
    obtain ⟨us', v1', t1', _⟩ := I.tuple (zaF.sqT e q1')
    have t1' : s.heap.IsTuple b us'.toArray := t1'
    rw [ze2.2.2.2]
    exact ⟨EqAt.list_tuple t1.isList t1' hA, RcAt.list_tuple t1.isList t1' hA, RcNeAt.list_tuple t1.isList t1' hA⟩
   ·obtain rfl : n = m' := by omega
    have hr := r; have hr' := r'
    obtain ⟨a, vs, rfl, q1, q2⟩ := r
    obtain rfl : u = Value.ref a := q
    obtain ⟨us, v1, t1, _⟩ := I.list (e.seq q1)
    obtain ⟨b, ws, rfl, q1', q2'⟩ := r'
    obtain rfl : u' = Value.ref b := q'
    obtain ⟨us', v1', t1', _⟩ := I.list (e.seq q1')
    have both : RcAt A s (.ref a) (.ref b) (eqD (.lst xs) (.lst ys)) /\ RcNeAt A s (.ref a) (.ref b) (!eqD (.lst xs) (.lst ys)) := by
     by_cases hl : us.toArray.size = us'.toArray.size
     ·have z := RcAt.lists t1.isList t1'.isList hl hA (zgn ih' hx hy q2 v1 q2' v1')
      have zn := RcNeAt.lists t1.isList t1'.isList hl hA (zgn ih' hx hy q2 v1 q2' v1')
      have hz : (List.range us.toArray.size).all (fun j => eqD (xs.getD j .non) (ys.getD j .non)) = eqD (.lst xs) (.lst ys) := by
       have hl' : xs.length = ys.length := by rw [q2.length, q2'.length, v1.length, v1'.length]; simpa using hl
       rw [ze2.2.1, <- zef, hl', Nat.min_self, xak, <- v1.length, <- q2.length, hl']
       simp
      rw [hz] at z zn
      exact ⟨z, zn⟩
     ·have z := RcAt.lists_lengths t1.isList t1'.isList (by simpa using hl) hA
      have zn := RcNeAt.lists_lengths t1.isList t1'.isList (by simpa using hl) hA
      have hz : eqD (.lst xs) (.lst ys) = false := by
       have hl' : ¬ xs.length = ys.length := by rw [q2.length, q2'.length, v1.length, v1'.length]; simpa using hl
       rw [ze2.2.1, <- zef]
       simp [hl']
      rw [hz]
      exact ⟨z, zn⟩
    refine ⟨?_, both⟩
    by_cases hab : a = b
    ·subst hab
     have ed := zkt I e (n + 1) h h' hr hr'
     rw [ed, zgm _ _ h']; exact EqAt.same _
    ·exact EqAt.of_refs hab both.1
end
end DL
namespace DL
open L2 PyProof.Rows
def B (n : Nat) (i : Int) : Prop := i.natAbs < 2 ^ n
theorem B.mono {m n : Nat} {i : Int} (h : B m i) (l : m <= n) : B n i := xai h (Nat.pow_le_pow_right (by decide) l)
theorem B.mul {m n : Nat} {i j : Int} (a : B m i) (b : B n j) : B (m + n) (i * j) := by
 unfold B at *
 rw [xcr, Nat.pow_add]
 exact Nat.mul_lt_mul'' a b
theorem B.add {m n : Nat} {i j : Int} (a : B m i) (b : B n j) : B (max m n + 1) (i + j) := by
 have a' := a.mono (Nat.le_max_left m n)
 have b' := b.mono (Nat.le_max_right m n)
 unfold B at *
 rw [Nat.pow_succ]
 omega
theorem B.sub {m n : Nat} {i j : Int} (a : B m i) (b : B n j) : B (max m n + 1) (i - j) := by
 have a' := a.mono (Nat.le_max_left m n)
 have b' := b.mono (Nat.le_max_right m n)
 unfold B at *
 rw [Nat.pow_succ]
 omega
theorem B.of {n : Nat} {i : Int} {k : Nat} (h : i.natAbs <= k) (hk : k < 2 ^ n := by decide +kernel) : B n i := xbt h hk
theorem B.log {n : Nat} {i : Int} (h : B n i) (hn : 0 < n) : i.natAbs.log2 < n := zmt hn h
def zhu (i : Int) : Bool := decide (i.natAbs.log2 < 60000000)
theorem zn5 {n : Nat} {i : Int} (h : B n i) (hn : n <= 60000000 := by decide) : zhu i = true := by
 refine decide_eq_true ?_
 cases n with
 | zero =>
  have : i.natAbs = 0 := by unfold B at h; omega
  rw [this]; decide
 | succ k => exact xai (h.log (Nat.succ_pos _)) hn
theorem zsT {i j : Int} (a : zhu i = true) (b : zhu j = true) : IntMulOk i j := by
 have h1 : i.natAbs.log2 < 60000000 := of_decide_eq_true a
 have h2 : j.natAbs.log2 < 60000000 := of_decide_eq_true b
 have bits : ∀ k : Int, k.natAbs.log2 < 60000000 -> Builtin.Int.intBits k <= 60000000 := fun k h => by
  unfold Builtin.Int.intBits
  split
  ·exact xci _
  ·omega
 have b1 := bits i h1
 have b2 := bits j h2
 unfold IntMulOk
 intro z
 simp only [xa0, decide_eq_true_eq, Builtin.Int.intTooBig] at z
 have e := z.2
 have l : (bitsLine : Int) = 134217728 := by decide
 rw [l] at e
 omega
def zn6 (i : Int) : Bool := decide (i ≠ 0 /\ i.natAbs.log2 < 9000)
theorem zku {n : Nat} {i : Int} (h : B n i) (h0 : i ≠ 0) (hn : n <= 9000 := by decide) : zn6 i = true := by
 refine decide_eq_true ⟨h0, ?_⟩
 cases n with
 | zero =>
  have : i.natAbs = 0 := by unfold B at h; omega
  omega
 | succ k => exact xai (h.log (Nat.succ_pos _)) hn
def zxe (i j : Int) : Bool := decide (0 <= j /\ j <= 1000000 /\ i.natAbs < 2 ^ 64)
section
variable {X : Cx} {K : xFg} {mg : Str -> Option Value}
def gI (C : Int -> Int -> Bool) (h : Int -> Int -> Int) : D -> D -> R D
 | .int i, .int j => bif C i j then .ok (.int (h i j)) else .bad
 | _, _ => .bad
def gB (h : Int -> Int -> Bool) : D -> D -> R D
 | .int i, .int j => .ok (.bl (h i j))
 | _, _ => .bad
theorem zu5 {C : Int -> Int -> Bool} {h : Int -> Int -> Int} : zfJ (gI C h) := by
 intro a b e
 cases a <;> cases b <;> simp only [gI] <;> first | (intro z; cases z) | (intro z; revert z; cases C _ _ <;> simp [cond])
theorem zwc {h : Int -> Int -> Bool} : zfJ (gB h) := by
 intro a b e
 cases a <;> cases b <;> simp only [gB] <;> (intro z; cases z)
theorem zu6 {C : Int -> Int -> Bool} {C' : Int -> Int -> Prop} {h : Int -> Int -> Int} (hc : ∀ i j, C i j = true -> C' i j) : OpD K mg (rI C' fun i j => .int (h i j)) (gI C h) := by
 intro G H a b x y Q e ra rb q
 cases a with
 | int i => cases b with
  | int j =>
   cases ra; cases rb
   cases hC : C i j with
   | false => simp only [gI, hC, cond_false] at q; exact q.elim
   | true =>
    simp only [gI, hC, cond_true] at q
    exact ⟨i, j, rfl, rfl, hc i j hC, zao.now q e rfl⟩
  | _ => exact (show False from q).elim
 | _ => exact (show False from q).elim
theorem zwd {h : Int -> Int -> Bool} : OpD K mg (rI0 fun i j => .bl (h i j)) (gB h) := by
 intro G H a b x y Q e ra rb q
 cases a with
 | int i => cases b with
  | int j => cases ra; cases rb; exact ⟨i, j, rfl, rfl, zao.now q e rfl⟩
  | _ => exact (show False from q).elim
 | _ => exact (show False from q).elim
theorem zsU : OpR X (binaryOp .Mult) (rI (fun i j => zhu i = true /\ zhu j = true) fun i j => .int (i * j)) := opI fun _ _ _ _ _ _ _ hc q => mul_int q (zsT hc.1 hc.2)
theorem zqd : OpR X (binaryOp .FloorDiv) (rI (fun _ j => zn6 j = true) fun i j => .int (i.fdiv j)) := opI fun i j _ _ _ _ _ hc q => by
 have h := of_decide_eq_true (p := j ≠ 0 /\ j.natAbs.log2 < 9000) hc
 exact floordiv_int h.1 q (.inl (PyProof.noPylong_of_log2 h.2))
def zu7 (K : xFg) : R2 := fun x y H Q => ∃ l b xs zs, x = .ref l /\ y = .ref b /\ SqL K H l xs /\ SqL K H b zs /\ xs.length + zs.length <= sizeLine /\ ∀ p, H p = none -> Q (.ref p) (upd H p (.lst (xs ++ zs)))
theorem zsV : OpR X (binaryOp .Add) (zu7 X.K) := by
 intro pins s σ H x y v u Q I rx ry h
 obtain ⟨l, b, xs, zs, rfl, rfl, hH, hB, hz, q⟩ := h
 cases rx
 cases ry
 obtain ⟨its, r, pl, _⟩ := I.list hH
 obtain ⟨its2, r2, pl2, _⟩ := I.list hB
 obtain ⟨⟨cls, dd, data, sl⟩, ho, hc, n, hd⟩ := id pl.isList
 obtain ⟨⟨cls2, dd2, data2, sl2⟩, ho2, hc2, n2, hd2⟩ := id pl2.isList
 simp only at hc hd hc2 hd2
 subst hc hd hc2 hd2
 refine concat_meets ⟨_, ho, rfl⟩ ⟨_, ho2, rfl⟩ noFill_list_add seq_list_add PySem.F.slot_list_add PySem.F.entry_list_add (PySem.F.args_list_add_2 _ _) (list_addW l b its.toArray its2.toArray n n2 dd dd2 sl sl2 (by rw [xak, xak, <- r.length, <- r2.length]; exact hz)) ⟨ho, ho2, ?_⟩
 have ea : its.toArray ++ its2.toArray = (its ++ its2).toArray := by simp
 rw [ea]
 exact ⟨.ref _, _, I.lnew (t' := s.toks) (r.append r2) (by rw [xbr]; exact hz), rfl, q _ I.fresh⟩
def zn7 (n : Nat) : Bool := decide (n <= sizeLine)
def zcJ : D -> D -> R D
 | .int i, .int j => .ok (.int (i + j))
 | .str x, .str y => bif zn7 (x.length + y.length) then .ok (.str (x ++ y)) else .bad
 | .lst xs, .lst ys => bif zn7 (xs.length + ys.length) then .ok (.lst (xs ++ ys)) else .bad
 | .tup xs, .tup ys => bif zn7 (xs.length + ys.length) && !xs.isEmpty then .ok (.tup (xs ++ ys)) else .bad
 | _, _ => .bad
theorem zu8 : zfJ zcJ := by
 intro a b e
 cases a <;> cases b <;> simp only [zcJ] <;> first | (intro z; cases z; done) | (generalize zn7 _ = k; cases k <;> simp [cond] <;> (try (generalize List.isEmpty _ = k2; cases k2 <;> simp)))
abbrev zxf (K : xFg) : R2 := fun x y H Q => rI0 (fun i j => .int (i + j)) x y H Q \/ ((∃ i j, x = .str i /\ y = .str j /\ i.length + j.length <= sizeLine /\ Q (.str (i ++ j)) H) \/ (zu7 K x y H Q \/ zum K x y H Q))
theorem zu9 : OpD K mg (zxf K) zcJ := by
 intro G H a b x y Q e ra rb q
 cases a with
 | int i => cases b with
  | int j => cases ra; cases rb; exact .inl ⟨i, j, rfl, rfl, zao.now q e rfl⟩
  | _ => exact (show False from q).elim
 | str i => cases b with
  | str j =>
   cases ra; cases rb
   cases hC : zn7 (i.length + j.length) with
   | false => simp only [zcJ, hC, cond_false] at q; exact q.elim
   | true =>
    simp only [zcJ, hC, cond_true] at q
    exact .inr (.inl ⟨i, j, rfl, rfl, of_decide_eq_true hC, zao.now q e rfl⟩)
  | _ => exact (show False from q).elim
 | lst xs => cases b with
  | lst ys =>
   obtain ⟨p, vs, rfl, h1, h2⟩ := ra
   obtain ⟨p', ws, rfl, h1', h2'⟩ := rb
   cases hC : zn7 (xs.length + ys.length) with
   | false => simp only [zcJ, hC, cond_false] at q; exact q.elim
   | true =>
    simp only [zcJ, hC, cond_true] at q
    refine .inr (.inr (.inl ⟨p, p', vs, ws, rfl, rfl, e.seq h1, e.seq h1', by rw [<- h2.length, <- h2'.length]; exact of_decide_eq_true hC, fun l hl => ?_⟩))
    have s := zbh.pub (o := .lst (vs ++ ws)) e hl
    exact (show zao K mg Q G H (.lst (xs ++ ys)) from q) _ _ _ s ⟨l, _, rfl, SqL.of zan, (h2.append h2').mono s.g⟩
  | _ => exact (show False from q).elim
 | tup xs => cases b with
  | tup ys =>
   obtain ⟨p, vs, rfl, h1, h2⟩ := ra
   obtain ⟨p', ws, rfl, h1', h2'⟩ := rb
   cases hC : (zn7 (xs.length + ys.length) && !xs.isEmpty) with
   | false => simp only [zcJ, hC, cond_false] at q; exact q.elim
   | true =>
    simp only [zcJ, hC, cond_true] at q
    rw [xa0] at hC
    have q' : zao K mg Q G H (.tup (xs ++ ys)) := q
    refine .inr (.inr (.inr ⟨p, p', vs, ws, rfl, rfl, zaF.sqT e h1, zaF.sqT e h1', fun z => ?_, by rw [<- h2.length, <- h2'.length]; exact of_decide_eq_true hC.1, fun z => ?_, fun z l hl => ?_⟩))
    ·subst z
     have := h2.length
     have hx : xs = [] := List.length_eq_zero_iff.mp this
     subst hx; simp at hC
    ·subst z
     have := h2'.length
     have hy : ys = [] := List.length_eq_zero_iff.mp this
     subst hy
     rw [xcl] at q'
     exact q'.now e ⟨p, vs, rfl, h1, h2⟩
    ·have s := zbh.pub (o := .tup (vs ++ ws)) e hl
     exact q' _ _ _ s ⟨l, _, rfl, SqT.of zan, (h2.append h2').mono s.g⟩
  | _ => exact (show False from q).elim
 | _ => exact (show False from q).elim
abbrev gSub : D -> D -> R D := gI (fun _ _ => true) fun i j => i - j
abbrev za8 : D -> D -> R D := gI (fun i j => zhu i && zhu j) fun i j => i * j
abbrev zeH : D -> D -> R D := gI (fun _ j => zn6 j) fun i j => i.fdiv j
abbrev zfE : D -> D -> R D := gI (fun _ j => decide (j ≠ 0)) fun i j => i.fmod j
abbrev zsW : D -> D -> R D := gI zxe fun i j => i ^ j.toNat
abbrev gShr : D -> D -> R D := gI (fun _ j => decide (0 <= j)) fun i j => i / 2 ^ j.toNat
variable {E : XK} {a b c : Expr} {fa fb fc : DSt -> R D} {pos : Pos}
theorem zva (ha : DE X E a fa) (hb : DE X E b fb) : DE X E (.BinOp a .Add b pos) (eOp zcJ fa fb) := zmB (zud.or (zmo.or (zsV.or zsu))) zu9 zu8 ha hb
theorem zvb (ha : DE X E a fa) (hb : DE X E b fb) : DE X E (.BinOp a .Sub b pos) (eOp gSub fa fb) :=
 zmB (r := rI (fun _ _ => True) fun i j => .int (i - j)) (opI fun _ _ _ _ _ _ _ _ q => sub_int q) (zu6 fun _ _ _ => trivial) zu5 ha hb
theorem zvc (ha : DE X E a fa) (hb : DE X E b fb) : DE X E (.BinOp a .Mult b pos) (eOp za8 fa fb) := zmB zsU (zu6 fun i j h => by simpa using h) zu5 ha hb
theorem zsX (ha : DE X E a fa) (hb : DE X E b fb) : DE X E (.BinOp a .FloorDiv b pos) (eOp zeH fa fb) := zmB zqd (zu6 fun i j h => h) zu5 ha hb
theorem zvd (ha : DE X E a fa) (hb : DE X E b fb) : DE X E (.BinOp a .Mod b pos) (eOp zfE fa fb) := zmB zsi (zu6 fun i j h => of_decide_eq_true h) zu5 ha hb
theorem zve (ha : DE X E a fa) (hb : DE X E b fb) : DE X E (.BinOp a .Pow b pos) (eOp zsW fa fb) := zmB zue (zu6 fun i j h => of_decide_eq_true (p := 0 <= j /\ j <= 1000000 /\ i.natAbs < 2 ^ 64) h) zu5 ha hb
def zrb : D -> R D
 | .int i => .ok (.int (-i))
 | _ => .bad
theorem zvf (ha : DE X E a fa) : DE X E (.UnaryOp .USub a pos) (eUn zrb fa) := by
 refine zw8 zuf (fun G H d x Q e r q => ?_) (fun d e => ?_) ha
 ·cases d with
  | int i => cases r; exact ⟨i, rfl, zao.now q e rfl⟩
  | _ => exact (show False from q).elim
 ·cases d <;> simp [zrb]
structure zlb (X : Cx) (op : CmpOp) (g : D -> D -> R D) : Prop where
 ex : ∃ r, OpR X (compareOp op) r /\ OpD X.K X.mg r g /\ zfJ g
abbrev gLt : D -> D -> R D := gB fun i j => decide (i < j)
abbrev gLe : D -> D -> R D := gB fun i j => decide (i <= j)
abbrev gGt : D -> D -> R D := gB fun i j => decide (j < i)
abbrev gGe : D -> D -> R D := gB fun i j => decide (j <= i)
theorem zn8 : zlb X .Lt gLt := ⟨_, zwz, zwd, zwc⟩
theorem zqe : zlb X .LtE gLe := ⟨_, zwA, zwd, zwc⟩
theorem zvg : zlb X .Gt gGt := ⟨_, zwB, zwd, zwc⟩
theorem zvh : zlb X .GtE gGe := ⟨_, zwC, zwd, zwc⟩
def zmE (a b : D) : Bool := zdY 9 a && zdY 9 b
def gEq (a b : D) : R D := bif zmE a b then .ok (.bl (eqD a b)) else .bad
def gNe (a b : D) : R D := bif zmE a b then .ok (.bl (!eqD a b)) else .bad
def rEqD (K : xFg) (mg : Str -> Option Value) (neg : Bool) : R2 := fun x y H Q => ∃ G d d', zaF G H /\ Rep K mg G d x /\ Rep K mg G d' y /\ zmE d d' = true /\ Q (.bl (bif neg then !eqD d d' else eqD d d')) H
theorem zvi {k : Nat} (r : zeD k X.A) : OpR X (compareOp .Eq) (rEqD X.K X.mg false) := by
 intro pins s σ H x y v u Q I rx ry h
 obtain ⟨G, d, d', e, r1, r2, c, q⟩ := h
 unfold zmE at c
 rw [xa0] at c
 have hu : X.A.units + 9 < cLine := by have := r.un; omega
 exact (zn4 I e 9 hu c.1 c.2 r1 rx r2 ry).2.1 _ _ _ _ ⟨.bl _, H, I, rfl, q⟩
theorem zvj {k : Nat} (r : zeD k X.A) : OpR X (compareOp .NotEq) (rEqD X.K X.mg true) := by
 intro pins s σ H x y v u Q I rx ry h
 obtain ⟨G, d, d', e, r1, r2, c, q⟩ := h
 unfold zmE at c
 rw [xa0] at c
 have hu : X.A.units + 9 < cLine := by have := r.un; omega
 exact (zn4 I e 9 hu c.1 c.2 r1 rx r2 ry).2.2 _ _ _ _ ⟨.bl _, H, I, rfl, q⟩
theorem zxg {k : Nat} (C : XC X E k) : zlb X .Eq gEq := ⟨_, zvi C.room, fun G H a b x y Q e ra rb q => by
 unfold gEq at q
 cases hc : zmE a b with
 | false => rw [hc] at q; exact q.elim
 | true => rw [hc] at q; exact ⟨G, a, b, e, ra, rb, hc, zao.now q e rfl⟩, fun a b e => by unfold gEq; cases zmE a b <;> simp [cond]⟩
theorem zvk {k : Nat} (C : XC X E k) : zlb X .NotEq gNe := ⟨_, zvj C.room, fun G H a b x y Q e ra rb q => by
 unfold gNe at q
 cases hc : zmE a b with
 | false => rw [hc] at q; exact q.elim
 | true => rw [hc] at q; exact ⟨G, a, b, e, ra, rb, hc, zao.now q e rfl⟩, fun a b e => by unfold gNe; cases zmE a b <;> simp [cond]⟩
def zkv : D -> Bool
 | .non => true
 | _ => false
def gIs : D -> D -> R D
 | d, .non => .ok (.bl (zkv d))
 | .bl a, .bl b => .ok (.bl (a == b))
 | _, _ => .bad
def zwe : D -> D -> R D
 | d, .non => .ok (.bl (!zkv d))
 | .bl a, .bl b => .ok (.bl (a != b))
 | _, _ => .bad
theorem zjo {G : Hp} {d : D} {x : V} (r : Rep K mg G d x) : decide (x = .non) = zkv d := by
 have nr : ∀ a : Addr, decide (V.ref a = V.non) = false := fun a => by simp
 cases d with
 | non => cases r; rfl
 | bl b => cases r; rfl
 | int i => cases r; rfl
 | str y => cases r; rfl
 | ty n => cases r; rfl
 | cls c => obtain ⟨C, rfl, _⟩ := r; exact nr _
 | tup xs => obtain ⟨a, vs, rfl, _⟩ := r; exact nr _
 | lst xs => obtain ⟨a, vs, rfl, _⟩ := r; exact nr _
 | dct ks xs => obtain ⟨a, vs, rfl, _⟩ := r; exact nr _
 | exc c as => obtain ⟨a, C, dct, vs, rfl, _⟩ := r; exact nr _
theorem zvl : zlb X .Is gIs := ⟨_, zug.or zpM, fun G H a b x y Q e ra rb q => by
 cases b with
 | non => cases rb; exact .inl ⟨rfl, by rw [zjo ra]; cases a <;> exact zao.now q e rfl⟩
 | bl k => cases a with
  | bl k' => cases ra; cases rb; exact .inr ⟨k', k, rfl, rfl, zao.now q e rfl⟩
  | _ => exact (show False from q).elim
 | _ => cases a <;> exact (show False from q).elim, fun a b e => by cases a <;> cases b <;> simp [gIs]⟩
theorem zvm : zlb X .IsNot zwe := ⟨_, zsj.or zkl, fun G H a b x y Q e ra rb q => by
 cases b with
 | non => cases rb; exact .inl ⟨rfl, by rw [zjo ra]; cases a <;> exact zao.now q e rfl⟩
 | bl k => cases a with
  | bl k' => cases ra; cases rb; exact .inr ⟨k', k, rfl, rfl, zao.now q e rfl⟩
  | _ => exact (show False from q).elim
 | _ => cases a <;> exact (show False from q).elim, fun a b e => by cases a <;> cases b <;> simp [zwe]⟩
theorem zn9 {op : CmpOp} {g : D -> D -> R D} (cf : zlb X op g) (ha : DE X E a fa) (hb : DE X E b fb) (hm : behindInMarks op b = false := by first | exact za3 _ (by decide) (by decide) | rfl) : DE X E (.Compare a [op] [b] pos) (eOp g fa fb) := by
 obtain ⟨r, h1, h2, h3⟩ := cf.ex
 exact zuO h1 h2 h3 ha hb hm
theorem zdZ {op : CmpOp} {g : D -> D -> R D} (cf : zlb X op g) (ha : DE X E a fa) (hb : DE X E b fb) (hm : behindInMarks op b = false := by first | exact za3 _ (by decide) (by decide) | rfl) : DT X E (.Compare a [op] [b] pos) (zau (eOp g fa fb)) := by
 obtain ⟨r, h1, h2, h3⟩ := cf.ex
 exact zuP h1 h2 h3 ha hb hm
theorem zjp {op op' : CmpOp} {g g' : D -> D -> R D} (cf : zlb X op g) (cf' : zlb X op' g') (ha : DE X E a fa) (hb : DE X E b fb) (hc : DE X E c fc) (hm : lastMarks [op, op'] [b, c] = false := by with_unfolding_all rfl) : DT X E (.Compare a [op, op'] [b, c] pos) (zau (zhS g g' fa fb fc)) := by
 obtain ⟨r, h1, h2, h3⟩ := cf.ex
 obtain ⟨r', h1', h2', h3'⟩ := cf'.ex
 exact zp6 h1 h2 h3 h1' h2' h3' ha hb hc hm
end
end DL
namespace DL
open L2 PyProof.Rows
section
variable {X : Cx} {E : XK} {K : xFg} {mg : Str -> Option Value} {G H : Hp}
theorem zqf : bootBuiltins "all" = some (.builtin "all") := by rfl
theorem zlc : bootBuiltins "isinstance" = some (.builtin "isinstance") := by rfl
theorem zrc : bootBuiltins "int" = some (.type "int") := by rfl
theorem zoa : bootBuiltins "bool" = some (.type "bool") := by rfl
theorem zvn : bootBuiltins "str" = some (.type "str") := by rfl
theorem zgo : bootBuiltins "tuple" = some (.type "tuple") := by rfl
theorem zob : bootBuiltins "list" = some (.type "list") := by rfl
theorem ze3 : bootBuiltins "ValueError" = some (.type "ValueError") := by rfl
theorem Reps.one {d : D} {vs : List V} (h : Reps K mg G [d] vs) : ∃ v, vs = [v] /\ Rep K mg G d v := by
 obtain ⟨v, r, rfl, h2, h3⟩ := h
 cases h3
 exact ⟨v, rfl, h2⟩
theorem Reps.two {d d' : D} {vs : List V} (h : Reps K mg G [d, d'] vs) : ∃ v w, vs = [v, w] /\ Rep K mg G d v /\ Rep K mg G d' w := by
 obtain ⟨v, r, rfl, h2, h3⟩ := h
 obtain ⟨w, rfl, h4⟩ := h3.one
 exact ⟨v, w, rfl, h2, h4⟩
def g1 {α : Type} (g : D -> R α) : List D -> R α
 | [d] => g d
 | _ => .bad
def g2 {α : Type} (g : D -> D -> R α) : List D -> R α
 | [d, e] => g d e
 | _ => .bad
theorem cd1 {r : List V -> Hp -> VK -> Prop} {g : D -> R D} (h : ∀ (G H : Hp) (d : D) (v : V) (Q : VK), zaF G H -> Rep K mg G d v -> RW (g d) (zao K mg Q G H) (fun _ => False) -> r [v] H Q) : zgK K mg r (g1 g) := by
 intro G H ds vs Q e rp q
 match ds, rp, q with
 | [], rp, q => exact (show False from q).elim
 | [d], rp, q => obtain ⟨v, rfl, h1⟩ := rp.one; exact h G H d v Q e h1 q
 | _ :: _ :: _, rp, q => exact (show False from q).elim
theorem cd2 {r : List V -> Hp -> VK -> Prop} {g : D -> D -> R D} (h : ∀ (G H : Hp) (d d' : D) (v v' : V) (Q : VK), zaF G H -> Rep K mg G d v -> Rep K mg G d' v' -> RW (g d d') (zao K mg Q G H) (fun _ => False) -> r [v, v'] H Q) : zgK K mg r (g2 g) := by
 intro G H ds vs Q e rp q
 match ds, rp, q with
 | [], rp, q => exact (show False from q).elim
 | [d], rp, q => exact (show False from q).elim
 | [d, d'], rp, q => obtain ⟨v, w, rfl, h1, h2⟩ := rp.two; exact h G H d d' v w Q e h1 h2 q
 | _ :: _ :: _ :: _, rp, q => exact (show False from q).elim
variable {x : Str} {p pos : Pos} {e : Expr} {es : List Expr} {fs : DSt -> R (List D)}
def zxh : D -> R D
 | .lst xs => .ok (.int xs.length)
 | .tup xs => .ok (.int xs.length)
 | .str y => bif zn7 y.length then .ok (.int y.length) else .bad
 | _ => .bad
abbrev ziz := g1 zxh
theorem zvo : zgK K mg (fun xs H Q => (∃ p ys, xs = [.ref p] /\ (SqL K H p ys \/ SqT K H p ys) /\ Q (.int ys.length) H) \/ (∃ z, xs = [.str z] /\ z.length <= sizeLine /\ Q (.int z.length) H)) ziz := cd1 fun G H d v Q e r q => by
 cases d with
 | lst xs =>
  obtain ⟨a, vs, rfl, h1, h2⟩ := r
  exact .inl ⟨a, vs, rfl, .inl (e.seq h1), by rw [<- h2.length]; exact zao.now q e rfl⟩
 | tup xs =>
  obtain ⟨a, vs, rfl, h1, h2⟩ := r
  exact .inl ⟨a, vs, rfl, .inr (zaF.sqT e h1), by rw [<- h2.length]; exact zao.now q e rfl⟩
 | str y =>
  cases r
  cases hC : zn7 y.length with
  | false => simp only [zxh, hC, cond_false] at q; exact q.elim
  | true => simp only [zxh, hC, cond_true] at q; exact .inr ⟨y, rfl, of_decide_eq_true hC, zao.now q e rfl⟩
 | _ => exact (show False from q).elim
theorem zvp (hm : X.mg "len" = none) (ha : DA X E (e :: es) fs) (hg : Gl X "len" := by rfl) (he : starEach (e :: es) X.env = (false, eval e X.env) :: starEach es X.env := by rfl) (hpl : (backTo pos (starEach es X.env)).any (·.1) = false := by rfl) : DE X E (.Call (.Name "len" p) (e :: es) [] pos) (zcv ziz fs) :=
 zhV (zi0.or zi3) zvo hm PySem.boot_len ha hg (by decide) (by decide) he hpl
def abs1 : D -> R D
 | .int i => .ok (.int (i.natAbs : Int))
 | _ => .bad
abbrev zrd := g1 abs1
theorem zvq : zgK K mg (fun xs H Q => ∃ i, xs = [.int i] /\ Q (.int (if i < 0 then -i else i)) H) zrd := cd1 fun G H d v Q e r q => by
 cases d with
 | int i =>
  cases r
  have ea : (if i < 0 then -i else i) = (i.natAbs : Int) := by split <;> omega
  exact ⟨i, rfl, by rw [ea]; exact zao.now q e rfl⟩
 | _ => exact (show False from q).elim
theorem zvr (hm : X.mg "abs" = none) (ha : DA X E (e :: es) fs) (hg : Gl X "abs" := by rfl) (he : starEach (e :: es) X.env = (false, eval e X.env) :: starEach es X.env := by rfl) (hpl : (backTo pos (starEach es X.env)).any (·.1) = false := by rfl) : DE X E (.Call (.Name "abs" p) (e :: es) [] pos) (zcv zrd fs) :=
 zhV zpF zvq hm PyProof.Rows.boot_abs ha hg (by decide) (by decide) he hpl
def min2 : D -> D -> R D
 | .int i, .int j => .ok (.int (min i j))
 | _, _ => .bad
def max2 : D -> D -> R D
 | .int i, .int j => .ok (.int (max i j))
 | _, _ => .bad
abbrev gMin := g2 min2
abbrev zwf := g2 max2
theorem zvs : zgK K mg (fun xs H Q => ∃ i j, xs = [.int i, .int j] /\ Q (.int (if j > i then j else i)) H) zwf := cd2 fun G H d d' v v' Q e r r' q => by
 cases d with
 | int i => cases d' with
  | int j =>
   cases r; cases r'
   have ea : (if j > i then j else i) = max i j := by split <;> omega
   exact ⟨i, j, rfl, by rw [ea]; exact zao.now q e rfl⟩
  | _ => exact (show False from q).elim
 | _ => exact (show False from q).elim
theorem zvt (hc : X.calm = true) (hm : X.mg "max" = none) (ha : DA X E (e :: es) fs) (hg : Gl X "max" := by rfl) (he : starEach (e :: es) X.env = (false, eval e X.env) :: starEach es X.env := by rfl) (hpl : (backTo pos (starEach es X.env)).any (·.1) = false := by rfl) : DE X E (.Call (.Name "max" p) (e :: es) [] pos) (zcv zwf fs) :=
 zhV (zng hc) zvs hm PyProof.Rows.boot_max ha hg (by decide) (by decide) he hpl
def zgR : List D -> Option (List Int)
 | [] => some []
 | .int i :: r => (zgR r).map (i :: ·)
 | _ => none
def zjq : List D -> Option (List Bool)
 | [] => some []
 | .bl b :: r => (zjq r).map (b :: ·)
 | _ => none
theorem zjr : ∀ {ds : List D} {ns : List Int}, zgR ds = some ns -> ds = ns.map D.int
 | [], ns, h => by simp only [zgR, Option.some.injEq] at h; subst h; rfl
 | .int i :: r, ns, h => by
  simp only [zgR, xb0] at h
  obtain ⟨ms, h1, rfl⟩ := h
  rw [zjr h1]; rfl
theorem zld : ∀ {ds : List D} {bs : List Bool}, zjq ds = some bs -> ds = bs.map D.bl
 | [], ns, h => by simp only [zjq, Option.some.injEq] at h; subst h; rfl
 | .bl i :: r, ns, h => by
  simp only [zjq, xb0] at h
  obtain ⟨ms, h1, rfl⟩ := h
  rw [zld h1]; rfl
theorem zjs : ∀ bs : List Bool, zjq (bs.map D.bl) = some bs
 | [] => rfl
 | n :: r => by rw [xaz]; unfold zjq; rw [zjs r]; rfl
def sum1 : D -> R D
 | .lst xs => match zgR xs with
  | some ns => .ok (.int ns.sum)
  | none => .bad
 | _ => .bad
def zre : D -> R D
 | .lst xs => match zjq xs with
  | some bs => .ok (.bl (bs.all id))
  | none => .bad
 | _ => .bad
abbrev zsY := g1 zre
theorem zvu : zgK K mg (fun xs H Q => ∃ (p : Addr) (bs : List Bool), xs = [.ref p] /\ SqL K H p (bs.map V.bl) /\ Q (.bl (bs.all id)) H) zsY := cd1 fun G H d v Q e r q => by
 cases d with
 | lst xs =>
  obtain ⟨a, vs, rfl, h1, h2⟩ := r
  cases hn : zjq xs with
  | none => simp only [zre, hn] at q; exact q.elim
  | some ns =>
   simp only [zre, hn] at q
   rw [zld hn] at h2
   rw [Reps.of_bools h2] at h1
   exact ⟨a, ns, rfl, e.seq h1, zao.now q e rfl⟩
 | _ => exact (show False from q).elim
theorem zoc (hc : X.calm = true) (hm : X.mg "all" = none) (ha : DA X E (e :: es) fs) (hg : Gl X "all" := by rfl) (he : starEach (e :: es) X.env = (false, eval e X.env) :: starEach es X.env := by rfl) (hpl : (backTo pos (starEach es X.env)).any (·.1) = false := by rfl) : DE X E (.Call (.Name "all" p) (e :: es) [] pos) (zcv zsY fs) :=
 zhV (zpU hc) zvu hm zqf ha hg (by decide) (by decide) he hpl
def int1 : D -> R D
 | .int i => .ok (.int i)
 | .bl b => .ok (.int (if b then 1 else 0))
 | _ => .bad
abbrev gInt := g1 int1
def zvv : D -> R D
 | .lst xs => .ok (.tup xs)
 | .tup xs => .ok (.tup xs)
 | _ => .bad
abbrev zjt := g1 zvv
theorem zqg : zgK K mg (fun xs H Q => ∃ p ys, xs = [.ref p] /\ ((SqL K H p ys /\ ∀ l, H l = none -> Q (.ref l) (upd H l (.tup ys))) \/ (SqT K H p ys /\ Q (.ref p) H))) zjt := cd1 fun G H d v Q e r q => by
 cases d with
 | lst xs =>
  obtain ⟨a, vs, rfl, h1, h2⟩ := r
  refine ⟨a, vs, rfl, .inl ⟨e.seq h1, fun l hl => ?_⟩⟩
  have s := zbh.pub (o := .tup vs) e hl
  exact (show zao K mg Q G H (.tup xs) from q) _ _ _ s ⟨l, vs, rfl, SqT.of zan, h2.mono s.g⟩
 | tup xs =>
  obtain ⟨a, vs, rfl, h1, h2⟩ := r
  exact ⟨a, vs, rfl, .inr ⟨zaF.sqT e h1, (show zao K mg Q G H (.tup xs) from q).now e ⟨a, vs, rfl, h1, h2⟩⟩⟩
 | _ => exact (show False from q).elim
theorem zle (hm : X.mg "tuple" = none) (ha : DA X E (e :: es) fs) (hg : Gl X "tuple" := by rfl) (he : starEach (e :: es) X.env = (false, eval e X.env) :: starEach es X.env := by rfl) (hpl : (backTo pos (starEach es X.env)).any (·.1) = false := by rfl) : DE X E (.Call (.Name "tuple" p) (e :: es) [] pos) (zcv zjt fs) :=
 zuS zik zqg hm ha zgo hg (by decide) (by decide) he hpl
def zmF (g : List D -> R (List D)) (fs : DSt -> R (List D)) : DSt -> R (List D) := fun σ => (fs σ).bind fun ds => (g ds).noerr
def zvw (K : xFg) (mg : Str -> Option Value) (r : List V -> Hp -> VK -> Prop) (g : List D -> R (List D)) : Prop :=
 ∀ (G H : Hp) (ds : List D) (vs : List V) (Q : VK), zaF G H -> Reps K mg G ds vs -> RW (g ds) (zfX K mg Q G H) (fun _ => False) -> r vs H Q
theorem zvx {T : String} {r : List V -> Hp -> VK -> Prop} {g : List D -> R (List D)} (hc : zcK X (.type T) r) (hd : zvw X.K X.mg r g) (hm : X.mg x = none) (ha : DA X E (e :: es) fs) (hv : bootBuiltins x = some (.type T) := by rfl) (hg : Gl X x := by rfl) (hn : x ≠ "__name__" := by decide) (hdb : (x == ("__debug__" : Str)) = false := by decide)
  (he : starEach (e :: es) X.env = (false, eval e X.env) :: starEach es X.env := by rfl) (hpl : (backTo pos (starEach es X.env)).any (·.1) = false := by rfl) : DF X E (.Call (.Name x p) (e :: es) [] pos) (zmF g fs) := by
 refine PE.mono' (zgy hc hg hm hv ha hn hdb he hpl) fun σ H Q ⟨G, σd, ok, q⟩ => ?_
 refine ⟨G, σd, ok, q.of_bind.mono (fun ds _ z vs G' H' s r => ?_) fun _ z => z⟩
 obtain ⟨d, e1, z⟩ := zcO z
 exact hd G' H' ds vs Q s.e r (by rw [e1]; exact z.step s)
def zxi : D -> R (List D)
 | .lst xs => .ok xs
 | .tup xs => .ok xs
 | _ => .bad
abbrev zju := g1 zxi
theorem zsZ : zvw K mg (fun xs H Q => ∃ p ys, xs = [.ref p] /\ (SqL K H p ys \/ SqT K H p ys) /\ ∀ l, H l = none -> Q (.ref l) (upd H l (.lst ys))) zju := by
 intro G H ds vs Q e rp q
 have go : ∀ xs vs, Reps K mg G xs vs -> zfX K mg Q G H xs -> ∀ l, H l = none -> Q (.ref l) (upd H l (.lst vs)) := fun xs vs h z l hl => z l vs G _ (.hid e hl) hl zan (e.free hl) h
 match ds, rp, q with
 | [], rp, q => exact (show False from q).elim
 | [d], rp, q =>
  obtain ⟨v, rfl, r⟩ := rp.one
  cases d with
  | lst xs => obtain ⟨a, vs, rfl, h1, h2⟩ := r; exact ⟨a, vs, rfl, .inl (e.seq h1), go xs vs h2 q⟩
  | tup xs => obtain ⟨a, vs, rfl, h1, h2⟩ := r; exact ⟨a, vs, rfl, .inr (zaF.sqT e h1), go xs vs h2 q⟩
  | _ => exact (show False from q).elim
 | _ :: _ :: _, rp, q => exact (show False from q).elim
theorem zs0 (hm : X.mg "list" = none) (ha : DA X E (e :: es) fs) (hg : Gl X "list" := by rfl) (he : starEach (e :: es) X.env = (false, eval e X.env) :: starEach es X.env := by rfl) (hpl : (backTo pos (starEach es X.env)).any (·.1) = false := by rfl) : DF X E (.Call (.Name "list" p) (e :: es) [] pos) (zmF zju fs) :=
 zvx zi4 zsZ hm ha zob hg (by decide) (by decide) he hpl
def zlf : D -> Option String
 | .non => some "NoneType"
 | .bl _ => some "bool"
 | .int _ => some "int"
 | .str _ => some "str"
 | .tup _ => some "tuple"
 | .lst _ => some "list"
 | .dct _ _ => some "dict"
 | _ => none
def zvy (T : String) : Bool := ["int", "bool", "str", "tuple", "list", "dict"].contains T
def zwg (t T : String) : Bool := t == T || (t == "bool" && T == "int")
theorem zgS (t T : String) (ht : ["NoneType", "bool", "int", "str", "tuple", "list", "dict"].contains t = true) (hT : zvy T = true) : PySem.W.kitOne K (.type t) (.type T) = some (zwg t T) := by
 simp only [List.contains_eq_mem, xae, xaq, or_false, decide_eq_true_eq] at ht
 simp only [zvy, List.contains_eq_mem, xae, xaq, or_false, decide_eq_true_eq] at hT
 rcases ht with rfl | rfl | rfl | rfl | rfl | rfl | rfl <;> rcases hT with rfl | rfl | rfl | rfl | rfl | rfl <;> rfl
end
end DL
namespace DL
open L2 PyProof.Rows
section
variable {X : Cx} {E : XK} {K : xFg} {mg : Str -> Option Value} {G H : Hp}
variable {x : Str} {p pos : Pos} {e : Expr} {es : List Expr} {fs : DSt -> R (List D)}
def zxj (K : xFg) (mg : Str -> Option Value) : List V -> Hp -> VK -> Prop := fun xs H Q => ∃ G d T v b, xs = [v, .ty T] /\ zaF G H /\ Rep K mg G d v /\ (∃ t, zlf d = some t /\ zvy T = true /\ b = zwg t T) /\ Q (.bl b) H
theorem zjv : zcK X (.builtin "isinstance") (zxj X.K X.mg) := by
 intro pins s σ H xs us Q I r h
 obtain ⟨G, d, T, v, b, rfl, e, rp, ⟨t, ht, hT, rfl⟩, q⟩ := h
 obtain ⟨u, w', rfl, ru, rw'⟩ := znf r
 cases (show w' = Value.type T from rw')
 have fin : ∀ tk, EP X pins σ Q (.bool (zwg t T)) { s with toks := tk } := fun tk => ⟨.bl _, H, I.tok tk, rfl, q⟩
 cases d with
 | non => cases ht; cases rp; cases (show u = Value.none from ru); exact PySem.W.kia_one PySem.W.kitx_none I.kIn True.intro (zgS _ _ rfl hT) (fun z => nomatch z) fin
 | bl y => cases ht; cases rp; cases (show u = Value.bool y from ru); exact PySem.W.kia_one PySem.W.kitx_bool I.kIn True.intro (zgS _ _ rfl hT) (fun z => nomatch z) fin
 | int i => cases ht; cases rp; obtain ⟨tk, rfl⟩ := (show ∃ tk, u = Value.int i tk from ru); exact PySem.W.kia_one PySem.W.kitx_int I.kIn True.intro (zgS _ _ rfl hT) (fun z => nomatch z) fin
 | str y => cases ht; cases rp; obtain ⟨tk, rfl⟩ := (show ∃ tk, u = Value.str y tk from ru); exact PySem.W.kia_one PySem.W.kitx_str I.kIn True.intro (zgS _ _ rfl hT) (fun z => nomatch z) fin
 | tup ds =>
  cases ht
  obtain ⟨a, vs, rfl, h1, h2⟩ := rp
  cases (show u = Value.ref a from ru)
  obtain ⟨_, _, ⟨o, h3, h4, _⟩, _⟩ := I.tuple (zaF.sqT e h1)
  exact PySem.W.kia_one PySem.W.kitx_tuple I.kIn ⟨o, h3, h4⟩ (zgS _ _ rfl hT) (fun z => nomatch z) fin
 | lst ds =>
  cases ht
  obtain ⟨a, vs, rfl, h1, h2⟩ := rp
  cases (show u = Value.ref a from ru)
  obtain ⟨_, _, ⟨o, n, h3, h4, _⟩, _⟩ := I.list (e.seq h1)
  exact PySem.W.kia_one PySem.W.kitx_list I.kIn ⟨o, h3, h4⟩ (zgS _ _ rfl hT) (fun z => nomatch z) fin
 | dct ks ds =>
  cases ht
  obtain ⟨a, vs, rfl, h1, _⟩ := rp
  cases (show u = Value.ref a from ru)
  obtain ⟨_, _, _, _, p⟩ := (show zcr X.prog X.w H s.heap a (.dK (ks.zip vs)) from (zaF.rd e h1).ok I.hok)
  obtain ⟨o, es, ep, h3, h4, _⟩ := p
  exact PySem.W.kia_one PySem.W.kitx_dict I.kIn ⟨o, h3, h4.1⟩ (zgS _ _ rfl hT) (fun z => nomatch z) fin
 | _ => cases ht
abbrev zvz (K : xFg) : List V -> Hp -> VK -> Prop := fun xs H Q => ∃ (a C : Addr) (c : V) (cv : Value) (b : Bool), xs = [.ref a, c] /\ H a = some (zkX a C none) /\ ((∃ D, c = .ref D /\ cv = .ref D) \/ ∃ T, c = .ty T /\ cv = .type T) /\ zpu K C /\ PySem.W.kitOne K (.ref C) cv = some b /\ Q (.bl b) H
def zeI : D -> D -> R D
 | d, .ty T => match zlf d with
  | some t => bif zvy T then .ok (.bl (zwg t T)) else .bad
  | none => match d with
   | .exc _ [] => bif T == "ValueError" then .ok (.bl true) else .bad
   | _ => .bad
 | .exc c [], .cls d => match zjj c d with
  | some b => .ok (.bl b)
  | none => .bad
 | _, _ => .bad
theorem zrf : zgK K mg (fun xs H Q => zxj K mg xs H Q \/ zvz K xs H Q) (g2 zeI) := cd2 fun G H d d' v v' Q e r r' q => by
 have exc : ∀ {c as}, d = .exc c as -> as = [] -> ∃ a C, v = .ref a /\ H a = some (zkX a C none) /\ zkf K mg c C := fun {c as} hd ha => by
  subst hd; subst ha
  obtain ⟨a, C, dct, vs, rfl, h2, h3, h4, h5⟩ := r
  cases h5
  rcases h4 with ⟨rfl, _⟩ | ⟨dx, w, _, z, _⟩
  ·exact ⟨a, C, rfl, e _ _ h2, h3⟩
  ·cases z
 cases d' with
 | ty T =>
  cases r'
  cases ht : zlf d with
  | some t =>
   cases hT : zvy T with
   | false => simp only [zeI, ht, hT, cond_false] at q; exact q.elim
   | true => simp only [zeI, ht, hT, cond_true] at q; exact .inl ⟨G, d, T, v, _, rfl, e, r, ⟨t, ht, hT, rfl⟩, zao.now q e rfl⟩
  | none =>
   cases d with
   | exc c as =>
    cases as with
    | nil =>
     cases hT : T == "ValueError" with
     | false => simp only [zeI, ht, hT, cond_false] at q; exact q.elim
     | true =>
      simp only [zeI, ht, hT, cond_true] at q
      obtain ⟨a, C, rfl, h1, h2⟩ := exc rfl rfl
      have := eq_of_beq hT
      subst this
      exact .inr ⟨a, C, _, _, true, rfl, h1, .inr ⟨_, rfl, rfl⟩, h2.exc, h2.val, zao.now q e rfl⟩
    | cons b bs => simp only [zeI, ht] at q; exact q.elim
   | _ => simp only [zeI, ht] at q; exact q.elim
 | cls c' =>
  cases d with
  | exc c as =>
   cases as with
   | nil =>
    obtain ⟨Dd, rfl, hD⟩ := r'
    cases hs : zjj c c' with
    | none => simp only [zeI, hs] at q; exact q.elim
    | some b =>
     simp only [zeI, hs] at q
     obtain ⟨a, C, rfl, h1, h2⟩ := exc rfl rfl
     exact .inr ⟨a, C, _, _, b, rfl, h1, .inl ⟨Dd, rfl, rfl⟩, h2.exc, h2.isi c' Dd b hs hD, zao.now q e rfl⟩
   | cons b bs => exact (show False from q).elim
  | _ => exact (show False from q).elim
 | _ => cases d <;> first | exact (show False from q).elim | (rename_i as; cases as <;> exact (show False from q).elim)
theorem ze4 (hm : X.mg "isinstance" = none) (ha : DA X E (e :: es) fs) (hg : Gl X "isinstance" := by rfl) (he : starEach (e :: es) X.env = (false, eval e X.env) :: starEach es X.env := by rfl) (hpl : (backTo pos (starEach es X.env)).any (·.1) = false := by rfl) : DE X E (.Call (.Name "isinstance" p) (e :: es) [] pos) (zcv (g2 zeI) fs) :=
 zhV (zjv.or zjb) zrf hm zlc ha hg (by decide) (by decide) he hpl
def tO (K : xFg) (mg : Str -> Option Value) (E : XK) (f : DSt -> R (Option Int)) : TO := fun σ H Q => ∃ G σd, Ok0 K mg σd σ G H /\ RW (f σd) (fun o => ∀ G' H', zbh G H G' H' -> Q o H') (zaM K mg E G H)
def DO (X : Cx) (E : XK) (e : Option Expr) (f : DSt -> R (Option Int)) : Prop := PO X e (tO X.K X.mg E f)
def zgT : DSt -> R (Option Int) := fun _ => .ok none
def asI : D -> R (Option Int)
 | .int i => .ok (some i)
 | _ => .bad
def zbT (f : DSt -> R D) : DSt -> R (Option Int) := fun σ => (f σ).bind asI
theorem PO.mono' {e : Option Expr} {t t' : TO} (h : PO X e t) (m : ∀ σ H Q, t' σ H Q -> t σ H Q) : PO X e t' := fun pins s σ H Q I q => h pins s σ H Q I (m σ H Q q)
theorem zs1 : DO X E none zgT := PO.mono' zss fun σ H Q ⟨G, σd, ok, q⟩ => (show ∀ G' H', zbh G H G' H' -> Q none H' from q) G H (.refl ok.ext)
theorem zs2 {f : DSt -> R D} (h : DE X E e f) : DO X E (some e) (zbT f) := PO.mono' (zst h) fun σ H Q ⟨G, σd, ok, q⟩ => ⟨G, σd, ok, q.of_bind.mono (fun d _ z v G' H' s r => by
 cases d with
 | int i => cases r; exact ⟨i, rfl, (show ∀ G' H', zbh G H G' H' -> Q (some i) H' from z) G' H' s⟩
 | _ => exact (show False from z).elim) fun _ z => z⟩
def zm4 {α : Type} (xs : List α) (lo hi : Option Int) : List α := (xs.drop (HT.sIx xs.length 0 lo)).take (HT.sIx xs.length xs.length hi - HT.sIx xs.length 0 lo)
def zod {α : Type} (xs : List α) (lo hi : Option Int) : Bool := decide (HT.sIx xs.length 0 lo = 0 /\ HT.sIx xs.length xs.length hi = xs.length)
def gSl : D -> Option Int -> Option Int -> R D
 | .lst xs, lo, hi => .ok (.lst (zm4 xs lo hi))
 | .tup xs, lo, hi => bif zod xs lo hi then .bad else .ok (.tup (zm4 xs lo hi))
 | _, _, _ => .bad
def eSl (fe : DSt -> R D) (fl fh : DSt -> R (Option Int)) : DSt -> R D := fun σ => (fe σ).bind fun d => (fl σ).bind fun lo => (fh σ).bind fun hi => gSl d lo hi
theorem Reps.cut {ds : List D} {vs : List V} (h : Reps K mg G ds vs) (lo hi : Option Int) : Reps K mg G (zm4 ds lo hi) (zpt vs lo hi) := by
 unfold zm4 zpt
 rw [h.length]
 exact (h.drop _).take _
theorem zxk {fe : DSt -> R D} {lo hi : Option Expr} {fl fh : DSt -> R (Option Int)} {p2 : Pos} (he : DE X E e fe) (hl : DO X E lo fl) (hh : DO X E hi fh) : DE X E (.Subscript e (.Slice lo hi none p2) pos) (eSl fe fl fh) := by
 refine PE.mono' (zpI (zsy.or zul) he hl hh) fun σ H Q ⟨G, σd, ok, q⟩ => ?_
 refine zcu (P := zao X.K X.mg Q) ok q fun d v G1 H1 s1 ok1 r1 q1 => ?_
 refine ⟨G1, σd, ok1, q1.of_bind.mono (fun l _ q2 G2 H2 s2 => ?_) fun _ z => z⟩
 refine ⟨G2, σd, ok1.step s2, q2.of_bind.mono (fun u _ q3 G3 H3 s3 => ?_) fun _ z => z.step s2⟩
 have s := (s1.trans s2).trans s3
 have r3 := r1.mono (s2.g.trans s3.g)
 cases d with
 | lst xs =>
  obtain ⟨a, vs, rfl, h1, h2⟩ := r3
  refine .inl ⟨a, vs, rfl, s3.e.seq h1, fun pp hp => ?_⟩
  have sp := zbh.pub (o := .lst (zpt vs l u)) s3.e hp
  exact (show zao X.K X.mg Q G H (.lst (zm4 xs l u)) from q3) _ _ _ (s.trans sp) ⟨pp, _, rfl, SqL.of zan, (h2.cut l u).mono sp.g⟩
 | tup xs =>
  obtain ⟨a, vs, rfl, h1, h2⟩ := r3
  cases hw : zod xs l u with
  | true => simp only [gSl, hw, cond_true] at q3; exact q3.elim
  | false =>
   simp only [gSl, hw, cond_false] at q3
   refine .inr ⟨a, vs, rfl, zaF.sqT s3.e h1, by rw [<- h2.length]; exact of_decide_eq_false hw, fun pp hp => ?_⟩
   have sp := zbh.pub (o := .tup (zpt vs l u)) s3.e hp
   exact (show zao X.K X.mg Q G H (.tup (zm4 xs l u)) from q3) _ _ _ (s.trans sp) ⟨pp, _, rfl, SqT.of zan, (h2.cut l u).mono sp.g⟩
 | _ => exact (show False from q3).elim
end
def zrg (c : Str) (fs : DSt -> R (List D)) : DSt -> R Out := fun σ => (fs σ).bind fun ds => bif few ds.length then .err (.exc c []) else .bad
section
variable {P : Program} {w : World} {K : xFg} {mg : Str -> Option Value} {base : Heap} {N : List Str} {qual : Str} {scope : Scope} {f : Addr} {cdv : Value} {A : Around} {outer : List Env} {s0 : Shared} {H0 : Hp} {E : XK} {own own' ol : List Nat}
theorem zqh {x : Str} {C : Addr} {e0 : Expr} {zbR : List Expr} {np cpos pos : Pos} {fs : DSt -> R (List D)} (q : PySem.W.excIn K C [.type "ValueError", .type "Exception", .type "BaseException", .type "object"] "ValueError.__new__" = true) (hx : zkf K mg x C)
  (ha : DA (zdc (CXe P w) P w K mg base N qual scope f cdv A outer s0 H0 E) E (e0 :: zbR) fs) (hg : Gl (zdc (CXe P w) P w K mg base N qual scope f cdv A outer s0 H0 E) x := by rfl)
  (hdb : (x == ("__debug__" : Str)) = false := by decide)
  (he : starEach (e0 :: zbR) (envOfC qual scope s0.heap.objs.size f cdv) = (false, eval e0 (envOfC qual scope s0.heap.objs.size f cdv)) :: starEach zbR (envOfC qual scope s0.heap.objs.size f cdv) := by rfl)
  (hpl : (backTo cpos (starEach zbR (envOfC qual scope s0.heap.objs.size f cdv))).any (·.1) = false := by rfl) :
  DS (zdc (CXe P w) P w K mg base N qual scope f cdv A outer s0 H0 E) E own own' ol (.Raise (some (.Call (.Name x np) (e0 :: zbR) [] cpos)) none pos) (zrg x fs) := fun G0 =>
 PS.mono' (zpP q hg hx.here ha hdb he hpl) fun Dn σ H ⟨G, σd, ok, s1, z⟩ => by
 have sp := ok.pubStep s1
 refine ⟨_, σd, ok.pub.1, z.of_bind.mono (fun ds _ z vs G' H' s r => ?_) fun _ z => z.step sp⟩
 cases hf : few ds.length with
 | false => rw [hf] at z; exact (show False from z).elim
 | true =>
  rw [hf] at z
  refine ⟨by rw [<- r.length]; exact znU hf, ?_⟩
  exact (show zaM K mg E G0 H0 (.exc x []) from z) G' H' C none (sp.trans s) ⟨x, [], [], rfl, hx, .inl ⟨rfl, rfl⟩, Reps.nil⟩
end
def zkw (c : Str) : DSt -> R Out := fun _ => .err (.exc c [])
theorem zoe {P : Program} {w : World} {K : xFg} {mg : Str -> Option Value} {base : Heap} {N : List Str} {qual : Str} {scope : Scope} {f : Addr} {cdv : Value} {A : Around} {outer : List Env} {s0 : Shared} {H0 : Hp} {E : XK} {own own' ol : List Nat} {x t : Str} {C : Addr} {np cpos pos tp : Pos} {j} (q : PySem.W.excIn K C [.type "ValueError", .type "Exception", .type "BaseException", .type "object"] "ValueError.__new__" = true) (hx : zkf K mg x C)
  (hg : Gl (zdc (CXe P w) P w K mg base N qual scope f cdv A outer s0 H0 E) x := by rfl) (hdb : (x == ("__debug__" : Str)) = false := by decide) :
  DS (zdc (CXe P w) P w K mg base N qual scope f cdv A outer s0 H0 E) E own own' ol (.Raise (some (.Call (.Name x np) [.Constant (.str t) j tp] [] cpos)) none pos) (zkw x) :=
 zqh (fs := zaa (eC (.str t)) zaj) q hx (zay znO zbE) hg hdb
section
variable (K : xFg) (mg : Str -> Option Value)
def tSX (G0 H0 : Hp) (f : DSt -> R Out) : TSX := fun Dn E σ H => ∃ G σd, Ok0 K mg σd σ G H /\ zbh G0 H0 G H /\ RW (f σd) (zgd K mg G0 H0 [] [] Dn G) (zaM K mg E G H)
end
def DSX (X : Cx) (st : Stmt) (f : DSt -> R Out) : Prop := ∀ G0, PSX X (CXe X.prog X.w) st (tSX X.K X.mg G0 X.H₀ f)
def DSXs (X : Cx) (st : List Stmt) (f : DSt -> R Out) : Prop := ∀ G0, zwR X (CXe X.prog X.w) st (tSX X.K X.mg G0 X.H₀ f)
theorem PSX.mono' {X : Cx} {CX : CXT} {st : Stmt} {t t' : TSX} (h : PSX X CX st t) (m : ∀ D E σ H, t' D E σ H -> t D E σ H) : PSX X CX st t' := fun pins s σ H D E I q => h pins s σ H D E I (m D E σ H q)
section
variable {X : Cx} {ol : List Nat} {k : Nat} {x y : Str} {m : List D -> R D} {p pos cpos npos : Pos} {e : Expr} {es : List Expr} {fs : DSt -> R (List D)} {f g : DSt -> R Out}
theorem zqi {st : Stmt} (h : DSX X st f) : DSXs X [st] f := fun G0 => zpS (h G0)
def zlg (m : List D -> R D) (fs : DSt -> R (List D)) : DSt -> R D := fun σ => (fs σ).noerr.bind m
theorem zqj {G0 G H : Hp} {σd : DSt} {σ : L2.St} {Q : VK} {E : XK} {S : D -> R Out} {PO : Out -> Prop} (ok : Ok0 X.K X.mg σd σ G H) (q : RW ((zlg m fs σd).bind S) PO (zaM X.K X.mg E G H))
  (h : ∀ d v G' H', zbh G H G' H' -> Rep X.K X.mg G' d v -> RW (S d) PO (zaM X.K X.mg E G H) -> Q v H') : zuv (spD X.K X.mg m) [] (tAr X.K X.mg E0 fs) σ H Q E := by
 obtain ⟨ds, e1, q⟩ := zcO q.of_bind.of_bind
 refine ⟨G, σd, ok, RW.ok_of e1 fun vs G' H' s r => ?_⟩
 show spD X.K X.mg m (vs ++ []) H' _ E
 rw [xcl]
 exact ⟨G', ds, s.e, r, q.mono (fun d _ z v G2 H2 s2 r2 => h d v G2 H2 (s.trans s2) r2 z) fun _ z => z.step s⟩
theorem zqk (hr : zeD k X.A) (F : zaC X.prog X.w X.K X.mg X.base k x m) (ha : DA X.nox E0 (e :: es) fs) (hg : Gl X x := by rfl) (hdb : (x == ("__debug__" : Str)) = false := by decide)
  (he : starEach (e :: es) X.env = (false, eval e X.env) :: starEach es X.env := by rfl) (hpl : (backTo cpos (starEach es X.env)).any (·.1) = false := by rfl) (hs : swapsWith (.Call (.Name x p) (e :: es) [] cpos) none pos.line X.env = pure false := by rfl) :
  DSX X (.Expr (.Call (.Name x p) (e :: es) [] cpos) pos) (zmD (zlg m fs)) := fun G0 => by
 obtain ⟨fa, fd, ps, h1, h2, h3, h4⟩ := F.ex
 refine PSX.mono' (zpR (zpQ (dvs := []) (ds := []) h1 hr hg h2 h3 h4 .nil ha hdb he hpl) hs) fun Dn E σ H ⟨G, σd, ok, s0, q⟩ => ?_
 exact zqj (G0 := G0) ok q fun d v G' H' s r z => (show zgd X.K X.mg G0 X.H₀ [] [] Dn G (.nx σd) from z) σ G' H' (.zero (ok.step s)) (s0.trans s) s.g
def zwh (i : Nat) (c : Str) (body hnd : DSt -> R Out) : DSt -> R Out := fun σ => match body σ with
 | .ok o => .ok o
 | .err (.exc cc as) => bif zjj cc c == some true then (hnd (σ.set i (some (.exc cc as)))).noerr.bind fun o => match o with
   | .nx σ' => .ok (.nx (σ'.set i none))
   | _ => .bad
  else .bad
 | _ => .bad
theorem Ok.unset {K : xFg} {mg : Str -> Option Value} {H0 G H : Hp} {σd : DSt} {σ : L2.St} {i : Nat} {own : List Nat} (o : Ok K mg H0 own σd σ G H) (hi : i ∉ own) : Ok K mg H0 own (σd.set i none) (σ.set i none) G H := by
 have back : ∀ {j : Nat} {d : D}, (σd.set i none)[j]? = some (some d) -> j ≠ i /\ σd[j]? = some (some d) := fun {j d} q => by
  by_cases hj : j = i
  ·subst hj
   have hl : j < σd.length := by have := (xah.mp q).1; simpa using this
   rw [xa4 hl] at q; cases q
  ·rw [xam (xay hj)] at q; exact ⟨hj, q⟩
 refine ⟨o.ext, by simp [o.len], fun j d hj q => ?_, fun j d hj q => ?_, fun j l a d1 d2 h1 h2 h3 h4 h5 h6 => ?_⟩
 ·obtain ⟨hj', q'⟩ := back q
  rw [xam (xay hj')]; exact o.val j d hj q'
 ·obtain ⟨hj', q'⟩ := back q
  rw [xam (xay hj')]; exact o.mine j d hj q'
 ·obtain ⟨hj', q3⟩ := back h3
  obtain ⟨hl', q4⟩ := back h4
  rw [xam (xay hj')] at h5
  rw [xam (xay hl')] at h6
  exact o.dj j l a d1 d2 h1 h2 q3 q4 h5 h6
theorem zvA (i : Nat) {E : XK} {body : List Stmt} {c n : Str} {np hpos : Pos} {b0 : Stmt} {suite : List Stmt} {Dc : Addr} (hst : X.stack = X.env :: X.outer) (hf : X.env.frame = some X.env.locals) (hN : X.N.Nodup)
  (hm : X.mg c = some (.ref Dc)) (hb : DSXs X body f) (hh : ∀ x, DSs (hdl X x) E0 [] [] [] (b0 :: suite) g) (hi : X.N[i]? = some n := by rfl) (hn : X.env.scope.names.lookup n = some .local := by rfl) (hg : Gl X c := by rfl)
  (hdb : (c == ("__debug__" : Str)) = false := by decide) : DS X E [] [] [] (.Try body [.ExceptHandler (some (.Name c np)) (some n) (b0 :: suite) hpos] [] [] pos) (zwh i c f g) := fun G0 =>
 PS.mono' (zuw (th := tS X.K X.mg E0 G0 X.H₀ [] [] [] g) hst hf hN hi hn hg hm (hb G0) (fun x => hh x G0) hdb) fun Dn σ H ⟨G, σd, ok, s0, q⟩ => by
 have ok0 : Ok0 X.K X.mg σd σ G H := by have := ok.masked; rw [zgl] at this; exact this
 unfold zwh at q
 cases hbd : f σd with
 | bad => rw [hbd] at q; exact (show False from q).elim
 | ok o =>
  rw [hbd] at q
  exact ⟨fun _ _ _ => False, ⟨G, σd, ok0, s0, RW.ok_of hbd q⟩, fun C dct H' x z => z.elim⟩
 | err ex =>
  rw [hbd] at q
  cases ex with
  | exc cc as =>
   cases hsub : (zjj cc c == some true) with
   | false => simp only [hsub, cond_false] at q; exact q.elim
   | true =>
    simp only [hsub, cond_true] at q
    obtain ⟨o, ho1, q⟩ := zcO q.of_bind
    refine ⟨fun cv dct H' => ∃ C G', cv = .ref C /\ zbh G H G' H' /\ ExcR X.K X.mg G' (.exc cc as) C dct, ⟨G, σd, ok0, s0, ?_⟩, ?_⟩
    ·rw [hbd]
     exact fun G' H' C dct s r => ⟨C, G', rfl, s, r⟩
    ·rintro C dct H' x ⟨C', G', e1, s', hr⟩ nx
     cases e1
     obtain ⟨c2, as2, vs, e2, hxc, hd, hrs⟩ := hr
     cases e2
     refine ⟨hxc.ctc c Dc (eq_of_beq hsub) hm, ?_⟩
     have sp := zbh.pub (o := zkX x C dct) s'.e nx
     have st := s'.trans sp
     refine ⟨_, σd.set i (some (.exc cc as)), .zero ((ok0.step st).set ⟨x, C, dct, vs, rfl, zan, hxc, hd.mono sp.g, hrs.mono sp.g⟩), s0.trans st, RW.ok_of ho1 ?_⟩
     cases o with
     | nx σ1 =>
      have q' : zgd X.K X.mg G0 X.H₀ [] [] Dn G (.nx (σ1.set i none)) := q
      exact fun σ2 G2 H2 ok2 s2 e2 => q' _ G2 H2 (ok2.unset (by simp)) s2 (st.g.trans e2)
     | _ => exact (show False from q).elim
  | _ => exact (show False from q).elim
end
end DL
namespace DL
open L2 PyProof.Rows
theorem zaD {n nN : Nat} {b : DSt -> R Out} {ds : List D} {σ : DSt} (hl : ds.length = n) (hs : zeo nN ds = σ) : fnM n nN b ds = fin (b σ) := by
 subst hl; subst hs; unfold fnM; rw [beq_self_eq_true]; rfl
theorem de_k {X : Cx} {E : XK} {x : Str} {d : D} {pos : Pos} (h : ∃ u v, X.mg x = some u /\ zbg v u /\ ∀ G, Rep X.K X.mg G d v) (hg : Gl X x := by rfl) (hd : (x == ("__debug__" : Str)) = false := by decide) : DE X E (.Name x pos) (eC d) := by
 obtain ⟨u, v, h1, h2, h3⟩ := h
 exact znP h1 h2 h3 hg hd
section
variable {K : xFg} {mg : Str -> Option Value}
def ziA (c d : Str) : Bool := c == d || d == "ChalkError"
def zav (K : xFg) (mg : Str -> Option Value) (C : Addr) (d : Str) (b : Bool) : Prop :=
 (∀ D, mg d = some (.ref D) -> PySem.W.kitOne K (.ref C) (.ref D) = some b) /\ (b = true -> ∀ D, mg d = some (.ref D) -> PySem.W.exmOne K (.ref C) (.ref D) = some true)
theorem zkf.mk' {c : Str} {C : Addr} (here : mg c = some (.ref C)) (exc : zpu K C) (val : PySem.W.kitOne K (.ref C) (.type "ValueError") = some true) (rows : ∀ d ∈ zcN, zav K mg C d (ziA c d)) : zkf K mg c C := by
 have sub : ∀ d b, zjj c d = some b -> d ∈ zcN /\ b = ziA c d := fun d b h => by
  unfold zjj at h
  cases hc : (zcN.contains c && zcN.contains d) with
  | false => rw [hc] at h; cases h
  | true =>
   rw [hc] at h
   have h' : some (c == d || d == "ChalkError") = some b := h
   rw [xa0] at hc
   exact ⟨by simpa using hc.2, by cases h'; rfl⟩
 refine ⟨here, exc, fun d Dd b h hd => ?_, val, fun d Dd h hd => ?_⟩
 ·obtain ⟨h1, rfl⟩ := sub d b h
  exact (rows d h1).1 Dd hd
 ·obtain ⟨h1, h2⟩ := sub d true h
  exact (rows d h1).2 h2.symm Dd hd
theorem zof {c : Str} {C : Addr} (r0 : zav K mg C "ChalkError" (ziA c "ChalkError")) (r1 : zav K mg C "NoPlace" (ziA c "NoPlace")) (r2 : zav K mg C "Same" (ziA c "Same")) (r3 : zav K mg C "NoFloor" (ziA c "NoFloor")) (r4 : zav K mg C "Endless" (ziA c "Endless"))
  (r5 : zav K mg C "NoDeed" (ziA c "NoDeed")) (r6 : zav K mg C "NoText" (ziA c "NoText")) (r7 : zav K mg C "NoName" (ziA c "NoName")) (r8 : zav K mg C "TooMany" (ziA c "TooMany")) (r9 : zav K mg C "NoChange" (ziA c "NoChange")) (r10 : zav K mg C "NoFrame" (ziA c "NoFrame"))
  (r11 : zav K mg C "NoValue" (ziA c "NoValue")) (r12 : zav K mg C "Unlike" (ziA c "Unlike")) (r13 : zav K mg C "NoRatio" (ziA c "NoRatio")) (r14 : zav K mg C "NoBow" (ziA c "NoBow")) (r15 : zav K mg C "NoRow" (ziA c "NoRow")) : ∀ d ∈ zcN, zav K mg C d (ziA c d) := by
 intro d hd
 simp only [zcN, xae, xaq, or_false] at hd
 rcases hd with rfl | rfl | rfl | rfl | rfl | rfl | rfl | rfl | rfl | rfl | rfl | rfl | rfl | rfl | rfl | rfl <;> assumption
theorem zav.of {C D0 : Addr} {d : Str} {b : Bool} (h : mg d = some (.ref D0)) (t : PySem.W.kitOne K (.ref C) (.ref D0) = some b) (u : b = true -> PySem.W.exmOne K (.ref C) (.ref D0) = some true) : zav K mg C d b :=
 ⟨fun D hD => by rw [h] at hD; cases hD; exact t, fun hb D hD => by rw [h] at hD; cases hD; exact u hb⟩
theorem zav.no {C : Addr} {d : Str} {b : Bool} (h : mg d = none) : zav K mg C d b := ⟨fun D hD => (by rw [h] at hD; cases hD), fun _ D hD => (by rw [h] at hD; cases hD)⟩
end
section
variable {P : Program} {w : World} {K : xFg} {mg : Str -> Option Value} {base : Heap}
theorem zs3 {x qual : Str} {st : Stmt} {f : Addr} {fd : FuncData} {N ps : List Str} {k n nN : Nat} {own' : List Nat} {body : DSt -> R Out} (F : Fun K x qual st f fd) (S : zdk N ps (zai st))
  (hn : ps.length = n) (hN : N.length = nN)
  (hb : ∀ (X : Cx) (E : XK), (∃ cdv A outer s H, X = zdc (CXe P w) P w K mg base N qual (zai st) f cdv A outer s H E) -> XC X E k -> XL X -> DSs X E [] own' [] (zbs st) body) : zgj P w K mg base (CXe P w) (k + 1) f fd ps (spD K mg (fnM n nN body)) := by
 refine F.okX S (fun vs H Q E h => ?_) (fun cdv A outer s H vs Q E hr hsp => ?_)
 ·obtain ⟨G, ds, e, r, q⟩ := h
  by_cases hd : ds.length = n
  ·rw [<- r.length, hd, hn]
  ·have : (ds.length == n) = false := by simpa using hd
   unfold fnM at q
   rw [this] at q
   exact (show False from q).elim
 ·obtain ⟨G, ds, e, r, q⟩ := hsp
  have hd : ds.length = n := by
   by_cases hd : ds.length = n
   ·exact hd
   ·have : (ds.length == n) = false := by simpa using hd
    unfold fnM at q
    rw [this] at q
    exact (show False from q).elim
  unfold fnM at q
  rw [show (ds.length == n) = true by simpa using hd] at q
  have q' : RW (fin (body (zeo nN ds))) (zao K mg Q G H) (zaM K mg E G H) := q
  refine ⟨_, hb _ E ⟨cdv, A, outer, s, H, rfl⟩ ⟨rfl, hr, zut⟩ ⟨PassesOwn.leaving⟩ G, G, zeo nN ds, ?_, .refl e, ?_⟩
  ·have := Reps.startOk e (N.length - vs.length) r
   unfold L2.start zeo
   rw [<- hN, r.length]
   exact .zero this
  ·cases hbd : body (zeo nN ds) with
   | bad => rw [hbd] at q'; exact q'
   | err e => rw [hbd] at q'; exact q'
   | ok o =>
    rw [hbd] at q'
    cases o with
    | rt d => exact fun v G' H' s r => (show zao K mg Q G H d from q') v G' H' s r
    | rf es =>
     intro a vs G' H' s n e g r
     have q2 : zao K mg Q G H (.lst es) := q'
     have sg : zaF G' (upd G' a (.lst vs)) := zcn g
     refine q2 (.ref a) (upd G' a (.lst vs)) H' ⟨s.g.trans sg, s.h, fun b u p => ?_, fun b u p1 p2 => ?_⟩ ⟨a, vs, rfl, SqL.of zan, r.mono sg⟩
     ·by_cases hb : b = a
      ·subst hb; rw [zan] at p; cases p; exact e
      ·rw [zak hb] at p; exact s.e b u p
     ·have hb : b ≠ a := zam p1 n
      rw [zak hb]; exact s.c b u p1 p2
    | nx σ => exact fun σ' G' H' ok s _ => (show zao K mg Q G H .non from q') .non G' H' s rfl
    | bk σ => exact (show False from q').elim
    | ct σ => exact (show False from q').elim
def zql (K : xFg) : Sp := fun vs H Q _ => ∃ (a : Addr) (ns : List Int), vs = [.ref a] /\ SqL K H a (ns.map V.int) /\ ns.length <= 63 /\ ∀ H', Q (.bl true) H'
theorem zvB {k : Nat} {f : Addr} {fd : FuncData} {m : List D -> R D} (F : zgj P w K mg base (CXe P w) k f fd ["_law_script"] (spD K mg m)) (hm : ∀ ns : List Int, ns.length <= 63 -> m [.lst (ns.map .int)] = .ok (.bl true)) :
  zgj P w K mg base (CXe P w) k f fd ["_law_script"] (zql K) := F.imp fun vs H Q E h => by
 obtain ⟨a, ns, rfl, hS, hl, q⟩ := h
 refine ⟨H, [.lst (ns.map .int)], zaF.refl _, Reps.cons ⟨a, _, rfl, hS, Reps.ints ns⟩ Reps.nil, RW.ok_of (hm ns hl) fun v G' H' s r => ?_⟩
 cases r; exact q H'
end
theorem walkD {l : PySem.W.OpenLaw} {q : Program} {loose : List Str} {XP : (Str -> Option Value) -> Heap -> Prop} {YP : World -> Heap -> Prop} {d : DefRec} {K : Params -> xFg} (k : Nat) (hr : zeD k callerA) (hn : l.most = some 63) (hdf : d.params.defaults = [])
  (hY : ∀ (w : World) (h : Heap), YP w h -> (K w.params).In h)
  (F : ∀ (w : World) (mg : Str -> Option Value) (fa : Addr) (h : Heap), (K w.params).In h -> h.Ns mainGlobals mg -> mg d.name = some (.ref fa) ->
   ∃ fd : FuncData, (∀ (s : Shared) (u : Value), BindsTo s fd ⟨[u], []⟩ [("_law_script", u)]) /\ ∀ base : Heap, (K w.params).In base -> base.Ns mainGlobals mg -> zgj l.prog w (K w.params) mg base (CXe l.prog w) k fa fd ["_law_script"] (zql (K w.params))) :
  PySem.W.WalkO q loose XP YP l.row.toRowW d [] (fun f vs => PySem.call f vs) :=
 L2.walk_of (n := 63) (k := k) (x := "_law_script") (CX := fun w => CXe l.prog w) (sp := fun w => zql (K w.params)) hn (by decide) hdf hr hY F (fun _ _ a ns hl _ hS => ⟨a, ns, rfl, hS, hl, fun _ => rfl⟩) fun w H s e s' z => by
  obtain ⟨_, _, _, _, _, _, _, _, _, _, _, _, _, z⟩ := z
  exact z.elim
end DL
namespace DL
open L2
def ztM (r : R Out) (g : DSt -> R Out) : R Out := r.bind fun o => match o with
 | .nx σ' => g σ'
 | o => .ok o
theorem zlh (f g : DSt -> R Out) (σ : DSt) : zaG f g σ = ztM (f σ) g := rfl
theorem zog (σ : DSt) (g : DSt -> R Out) : ztM (.ok (.nx σ)) g = g σ := rfl
theorem zoh (d : D) (g : DSt -> R Out) : ztM (.ok (.rt d)) g = .ok (.rt d) := rfl
theorem zoi (σ : DSt) (g : DSt -> R Out) : ztM (.ok (.bk σ)) g = .ok (.bk σ) := rfl
theorem zoj (σ : DSt) (g : DSt -> R Out) : ztM (.ok (.ct σ)) g = .ok (.ct σ) := rfl
theorem zli (e : D) (g : DSt -> R Out) : ztM (.err e) g = .err e := rfl
theorem zjw (σ : DSt) : zbe σ = .ok (.nx σ) := rfl
theorem zjx (d : D) (σ : DSt) : zae 0 (some d :: σ) = .ok d := rfl
theorem zjy (n : Nat) (x : Option D) (σ : DSt) : zae (n + 1) (x :: σ) = zae n σ := rfl
theorem zrh (d : D) (σ : DSt) : eC d σ = .ok d := rfl
def opK (g : D -> D -> R D) (a b : R D) : R D := a.bind fun x => b.bind fun y => g x y
theorem zok (g : D -> D -> R D) (fa fb : DSt -> R D) (σ : DSt) : eOp g fa fb σ = opK g (fa σ) (fb σ) := rfl
theorem zol (g : D -> D -> R D) (x y : D) : opK g (.ok x) (.ok y) = g x y := rfl
def unK (g : D -> R D) (a : R D) : R D := a.bind g
theorem zom (g : D -> R D) (fa : DSt -> R D) (σ : DSt) : eUn g fa σ = unK g (fa σ) := rfl
theorem zri (g : D -> R D) (x : D) : unK g (.ok x) = g x := rfl
def zs4 (m : List D -> R D) (a : R (List D)) : R D := a.bind m
theorem zgU (m : List D -> R D) (fs : DSt -> R (List D)) (σ : DSt) : zaq m fs σ = zs4 m (fs σ) := rfl
theorem zlj (m : List D -> R D) (ds : List D) : zs4 m (.ok ds) = m ds := rfl
theorem zjz (m : List D -> R D) (e : D) : zs4 m (.err e) = .err e := rfl
def zrj (m : List D -> R D) (a : R (List D)) : R D := a.noerr.bind m
theorem zhY (m : List D -> R D) (fs : DSt -> R (List D)) (σ : DSt) : zlg m fs σ = zrj m (fs σ) := rfl
theorem zjA (m : List D -> R D) (ds : List D) : zrj m (.ok ds) = m ds := rfl
def bltK (g : List D -> R D) (a : R (List D)) : R D := a.bind fun ds => (g ds).noerr
theorem zlk (g : List D -> R D) (fs : DSt -> R (List D)) (σ : DSt) : zcv g fs σ = bltK g (fs σ) := rfl
theorem zon (g : List D -> R D) (ds : List D) : bltK g (.ok ds) = (g ds).noerr := rfl
def zvC (g : List D -> R (List D)) (a : R (List D)) : R (List D) := a.bind fun ds => (g ds).noerr
theorem zjB (g : List D -> R (List D)) (fs : DSt -> R (List D)) (σ : DSt) : zmF g fs σ = zvC g (fs σ) := rfl
theorem zll (g : List D -> R (List D)) (ds : List D) : zvC g (.ok ds) = (g ds).noerr := rfl
theorem zjC {α : Type} (a : α) : (R.ok a).noerr = .ok a := rfl
theorem zlm (σ : DSt) : zaj σ = .ok [] := rfl
def zs5 (a : R D) (b : R (List D)) : R (List D) := a.bind fun x => b.bind fun xs => .ok (x :: xs)
theorem zgV (fa : DSt -> R D) (fs : DSt -> R (List D)) (σ : DSt) : zaa fa fs σ = zs5 (fa σ) (fs σ) := rfl
theorem zln (x : D) (xs : List D) : zs5 (.ok x) (.ok xs) = .ok (x :: xs) := rfl
theorem zjD (e : D) (b : R (List D)) : zs5 (.err e) b = .err e := rfl
def zqm (a : R (List D)) : R D := a.bind fun ds => bif few ds.length then .ok (.tup ds) else .bad
theorem zlo (fs : DSt -> R (List D)) (σ : DSt) : zgk fs σ = zqm (fs σ) := rfl
theorem zrk : zqm (.ok []) = .ok (.tup []) := rfl
theorem zrl (a : D) : zqm (.ok [a]) = .ok (.tup [a]) := rfl
theorem zrm (a b : D) : zqm (.ok [a, b]) = .ok (.tup [a, b]) := rfl
theorem zrn (a b c : D) : zqm (.ok [a, b, c]) = .ok (.tup [a, b, c]) := rfl
theorem zro (a b c d : D) : zqm (.ok [a, b, c, d]) = .ok (.tup [a, b, c, d]) := rfl
theorem zrp (a b c d e : D) : zqm (.ok [a, b, c, d, e]) = .ok (.tup [a, b, c, d, e]) := rfl
theorem zrq (a b c d e f : D) : zqm (.ok [a, b, c, d, e, f]) = .ok (.tup [a, b, c, d, e, f]) := rfl
theorem zrr (a b c d e f g h i : D) : zqm (.ok [a, b, c, d, e, f, g, h, i]) = .ok (.tup [a, b, c, d, e, f, g, h, i]) := rfl
def zqn (a : R (List D)) : R (List D) := a.bind fun ds => bif few ds.length then .ok ds else .bad
theorem zlp (fs : DSt -> R (List D)) (σ : DSt) : zgb fs σ = zqn (fs σ) := rfl
theorem zrs : zqn (.ok []) = .ok [] := rfl
theorem zrt (a : D) : zqn (.ok [a]) = .ok [a] := rfl
theorem zru (a b : D) : zqn (.ok [a, b]) = .ok [a, b] := rfl
theorem zrv (a b c : D) : zqn (.ok [a, b, c]) = .ok [a, b, c] := rfl
theorem zrw (a b c d : D) : zqn (.ok [a, b, c, d]) = .ok [a, b, c, d] := rfl
theorem zrx (a b c d e : D) : zqn (.ok [a, b, c, d, e]) = .ok [a, b, c, d, e] := rfl
theorem zry (a b c d e f : D) : zqn (.ok [a, b, c, d, e, f]) = .ok [a, b, c, d, e, f] := rfl
def zs6 (a : R (List D)) : R D := a.bind fun ds => .ok (.lst ds)
theorem zlq (fl : DSt -> R (List D)) (σ : DSt) : zdn fl σ = zs6 (fl σ) := rfl
theorem zlr (ds : List D) : zs6 (.ok ds) = .ok (.lst ds) := rfl
def zvD (a : R D) : R Bool := a.bind asB
theorem zjE (f : DSt -> R D) (σ : DSt) : zau f σ = zvD (f σ) := rfl
theorem zls (b : Bool) : zvD (.ok (.bl b)) = .ok b := rfl
def zxl (a : R Bool) (fb : DSt -> R Bool) (σ : DSt) : R Bool := a.bind fun k => bif k then fb σ else .ok false
theorem zlt (fa fb : DSt -> R Bool) (σ : DSt) : ztK fa fb σ = zxl (fa σ) fb σ := rfl
theorem zrz (fb : DSt -> R Bool) (σ : DSt) : zxl (.ok true) fb σ = fb σ := rfl
theorem zrA (fb : DSt -> R Bool) (σ : DSt) : zxl (.ok false) fb σ = .ok false := rfl
def orK (a : R Bool) (fb : DSt -> R Bool) (σ : DSt) : R Bool := a.bind fun k => bif k then .ok true else fb σ
theorem zoo (fa fb : DSt -> R Bool) (σ : DSt) : eOr fa fb σ = orK (fa σ) fb σ := rfl
theorem zvE (fb : DSt -> R Bool) (σ : DSt) : orK (.ok true) fb σ = .ok true := rfl
theorem zvF (fb : DSt -> R Bool) (σ : DSt) : orK (.ok false) fb σ = fb σ := rfl
def notK (a : R Bool) : R Bool := a.bind fun k => .ok (!k)
theorem zlu (fa : DSt -> R Bool) (σ : DSt) : zhT fa σ = notK (fa σ) := rfl
theorem zop (b : Bool) : notK (.ok b) = .ok (!b) := rfl
def zs7 (a : R D) (fb : DSt -> R D) (σ : DSt) : R D := a.bind fun x => (asB x).bind fun k => bif k then fb σ else .ok (.bl false)
theorem zlv (fa fb : DSt -> R D) (σ : DSt) : zp7 fa fb σ = zs7 (fa σ) fb σ := rfl
theorem zoq (fb : DSt -> R D) (σ : DSt) : zs7 (.ok (.bl true)) fb σ = fb σ := rfl
theorem zor (fb : DSt -> R D) (σ : DSt) : zs7 (.ok (.bl false)) fb σ = .ok (.bl false) := rfl
def zxm (a : R D) (fb : DSt -> R D) (σ : DSt) : R D := a.bind fun x => (asB x).bind fun k => bif k then .ok (.bl true) else fb σ
theorem zos (fa fb : DSt -> R D) (σ : DSt) : vOr fa fb σ = zxm (fa σ) fb σ := rfl
theorem zrB (fb : DSt -> R D) (σ : DSt) : zxm (.ok (.bl true)) fb σ = .ok (.bl true) := rfl
theorem zrC (fb : DSt -> R D) (σ : DSt) : zxm (.ok (.bl false)) fb σ = fb σ := rfl
def zvG (a : R D) : R D := a.bind fun x => (asB x).bind fun k => .ok (.bl !k)
theorem zlw (fa : DSt -> R D) (σ : DSt) : ztL fa σ = zvG (fa σ) := rfl
theorem zlx (b : Bool) : zvG (.ok (.bl b)) = .ok (.bl !b) := rfl
def zxn (c : R Bool) (fa fb : DSt -> R D) (σ : DSt) : R D := c.bind fun k => bif k then fa σ else fb σ
theorem zot (c : DSt -> R Bool) (fa fb : DSt -> R D) (σ : DSt) : eIf c fa fb σ = zxn (c σ) fa fb σ := rfl
theorem zrD (fa fb : DSt -> R D) (σ : DSt) : zxn (.ok true) fa fb σ = fa σ := rfl
theorem zrE (fa fb : DSt -> R D) (σ : DSt) : zxn (.ok false) fa fb σ = fb σ := rfl
def ifK (c : R Bool) (f g : DSt -> R Out) (σ : DSt) : R Out := c.bind fun k => bif k then f σ else g σ
theorem zou (c : DSt -> R Bool) (f g : DSt -> R Out) (σ : DSt) : sIf c f g σ = ifK (c σ) f g σ := rfl
theorem zvH (f g : DSt -> R Out) (σ : DSt) : ifK (.ok true) f g σ = f σ := rfl
theorem zvI (f g : DSt -> R Out) (σ : DSt) : ifK (.ok false) f g σ = g σ := rfl
def zrF (g g' : D -> D -> R D) (a b c : R D) : R D := a.bind fun x => b.bind fun y => (g x y).bind fun z => (asB z).bind fun k => bif k then c.bind fun w => g' y w else .ok (.bl false)
theorem zhZ (g g' : D -> D -> R D) (fa fb fc : DSt -> R D) (σ : DSt) : zhS g g' fa fb fc σ = zrF g g' (fa σ) (fb σ) (fc σ) := rfl
theorem zh0 (p q : Int -> Int -> Bool) (i j k : Int) : zrF (gB p) (gB q) (.ok (.int i)) (.ok (.int j)) (.ok (.int k)) = .ok (.bl (p i j && q j k)) := by
 show (bif p i j then R.ok (D.bl (q j k)) else R.ok (D.bl false)) = _
 cases p i j <;> rfl
def appK (i : Nat) (l : R (List D)) (a : R D) (σ : DSt) : R Out := l.bind fun ds => a.bind fun d => bif most ds.length then .ok (.nx (σ.set i (some (.lst (ds ++ [d]))))) else .bad
theorem zly (own : List Nat) (i : Nat) (fe : DSt -> R D) (σ : DSt) : zq9 own i fe σ = appK i (zge σ i) (fe (mask own σ)) σ := rfl
theorem zlz {n : Nat} (h : n <= 1000000) : most n = true := decide_eq_true (xbt h (by decide))
theorem zeJ (i : Nat) (ds : List D) (d : D) (σ : DSt) (h : ds.length <= 1000000) : appK i (.ok ds) (.ok d) σ = .ok (.nx (σ.set i (some (.lst (ds ++ [d]))))) := by
 show (bif most ds.length then _ else _) = _
 rw [zlz h]; rfl
def zvJ (i : Nat) (l : R (List D)) (a : R D) (σ : DSt) : R Out := l.bind fun ds => a.bind fun d => bif most ds.length && imm d then .ok (.nx (σ.set i (some (.lst (ds ++ [d]))))) else .bad
theorem zjF (i : Nat) (fe : DSt -> R D) (σ : DSt) : zxd i fe σ = zvJ i (zge σ i) (fe σ) σ := rfl
theorem zqo (i : Nat) (ds : List D) (d : D) (σ : DSt) (h : ds.length <= 1000000) (h' : imm d = true) : zvJ i (.ok ds) (.ok d) σ = .ok (.nx (σ.set i (some (.lst (ds ++ [d]))))) := by
 show (bif most ds.length && imm d then _ else _) = _
 rw [zlz h, h']; rfl
theorem zh1 (ds : List D) (σ : DSt) : zge (some (.lst ds) :: σ) 0 = .ok ds := rfl
theorem zh2 (x : Option D) (σ : DSt) (n : Nat) : zge (x :: σ) (n + 1) = zge σ n := rfl
theorem zs8 {i : Int} (h1 : -(10 ^ 100) <= i) (h2 : i <= 10 ^ 100) : zhu i = true := zn5 (n := 400) (B.of (k := 10 ^ 100) (by omega))
theorem zs9 {i : Int} (h1 : -(10 ^ 100) <= i) (h2 : i <= 10 ^ 100) (h : i ≠ 0) : zn6 i = true := zku (n := 400) (B.of (k := 10 ^ 100) (by omega)) h
def zxo (a : R D) : R Out := a.bind fun d => .ok (.rt d)
theorem zlA (fe : DSt -> R D) (σ : DSt) : zbz fe σ = zxo (fe σ) := rfl
theorem zov (d : D) : zxo (.ok d) = .ok (.rt d) := rfl
theorem zlB (e : D) : zxo (.err e) = .err e := rfl
def zta (a : R D) (σ : DSt) : R Out := a.bind fun _ => .ok (.nx σ)
theorem zjG (fe : DSt -> R D) (σ : DSt) : zmD fe σ = zta (fe σ) σ := rfl
theorem zlC (d : D) (σ : DSt) : zta (.ok d) σ = .ok (.nx σ) := rfl
theorem zjH (e : D) (σ : DSt) : zta (.err e) σ = .err e := rfl
def zwi (i : Nat) (a : R D) (σ : DSt) : R Out := a.bind fun d => .ok (.nx (σ.set i (some d)))
theorem zjI (i : Nat) (fe : DSt -> R D) (σ : DSt) : zaA i fe σ = zwi i (fe σ) σ := rfl
theorem zlD (own : List Nat) (i : Nat) (fe : DSt -> R D) (σ : DSt) : zkg own i fe σ = zwi i (fe (mask own σ)) σ := rfl
theorem zow (i : Nat) (d : D) (σ : DSt) : zwi i (.ok d) σ = .ok (.nx (σ.set i (some d))) := rfl
theorem zlE (i : Nat) (e : D) (σ : DSt) : zwi i (.err e) σ = .err e := rfl
def zvK (i : Nat) (a : R D) (σ : DSt) : R Out := a.bind fun d => bif imm d then .ok (.nx (σ.set i (some d))) else .bad
theorem zgW (i : Nat) (fe : DSt -> R D) (σ : DSt) : zn1 i fe σ = zvK i (fe σ) σ := rfl
theorem ziB (i : Nat) (d : D) (σ : DSt) (h : imm d = true) : zvK i (.ok d) σ = .ok (.nx (σ.set i (some d))) := by
 show (bif imm d then _ else _) = _
 rw [h]; rfl
def newK (i : Nat) (a : R (List D)) (σ : DSt) : R Out := a.bind fun ds => .ok (.nx (σ.set i (some (.lst ds))))
theorem zlF (own : List Nat) (i : Nat) (fe : DSt -> R (List D)) (σ : DSt) : zq8 own i fe σ = newK i (fe (mask own σ)) σ := rfl
theorem zox (i : Nat) (ds : List D) (σ : DSt) : newK i (.ok ds) σ = .ok (.nx (σ.set i (some (.lst ds)))) := rfl
def zvL (ks : List Nat) (gp : D -> R (List D)) (a : R D) (σ : DSt) : R Out := a.bind fun d => (gp d).noerr.bind fun us => .ok (.nx (setAll σ ks us))
theorem zlG (own ks : List Nat) (gp : D -> R (List D)) (fe : DSt -> R D) (σ : DSt) : zsS own ks gp fe σ = zvL ks gp (fe (mask own σ)) σ := rfl
theorem zoy (i j : Nat) (a b : D) (σ : DSt) : zvL [i, j] (zbX 2) (.ok (.tup [a, b])) σ = .ok (.nx ((σ.set i (some a)).set j (some b))) := rfl
theorem zoz (i j : Nat) (a b : D) (σ : DSt) : zvL [i, j] (zbX 2) (.ok (.lst [a, b])) σ = .ok (.nx ((σ.set i (some a)).set j (some b))) := rfl
theorem zoA (i j k : Nat) (a b c : D) (σ : DSt) : zvL [i, j, k] (zbX 3) (.ok (.tup [a, b, c])) σ = .ok (.nx (((σ.set i (some a)).set j (some b)).set k (some c))) := rfl
theorem zoB (i j k : Nat) (a b c : D) (σ : DSt) : zvL [i, j, k] (zbX 3) (.ok (.lst [a, b, c])) σ = .ok (.nx (((σ.set i (some a)).set j (some b)).set k (some c))) := rfl
def parK (i j : Nat) (a : R (List D)) (σ : DSt) : R Out := a.bind fun ds => match ds with
 | [a, b] => .ok (.nx ((σ.set i (some a)).set j (some b)))
 | _ => .bad
theorem zlH (own : List Nat) (i j : Nat) (fs : DSt -> R (List D)) (σ : DSt) : zxc own i j fs σ = parK i j (fs (mask own σ)) σ := rfl
theorem zoC (i j : Nat) (a b : D) (σ : DSt) : parK i j (.ok [a, b]) σ = .ok (.nx ((σ.set i (some a)).set j (some b))) := rfl
def zrG (c : Str) (a : R (List D)) : R Out := a.bind fun ds => bif few ds.length then .err (.exc c []) else .bad
theorem zh3 (c : Str) (fs : DSt -> R (List D)) (σ : DSt) : zrg c fs σ = zrG c (fs σ) := rfl
theorem zlI (c : Str) (a : D) : zrG c (.ok [a]) = .err (.exc c []) := rfl
theorem zgX (c : Str) (σ : DSt) : zkw c σ = .err (.exc c []) := rfl
def zxp (i : Nat) (c : Str) (r : R Out) (hnd : DSt -> R Out) (σ : DSt) : R Out := match r with
 | .ok o => .ok o
 | .err (.exc cc as) => bif zjj cc c == some true then (hnd (σ.set i (some (.exc cc as)))).noerr.bind fun o => match o with
   | .nx σ' => .ok (.nx (σ'.set i none))
   | _ => .bad
  else .bad
 | _ => .bad
theorem zlJ (i : Nat) (c : Str) (body hnd : DSt -> R Out) (σ : DSt) : zwh i c body hnd σ = zxp i c (body σ) hnd σ := rfl
theorem zoD (i : Nat) (c : Str) (o : Out) (hnd : DSt -> R Out) (σ : DSt) : zxp i c (.ok o) hnd σ = .ok o := rfl
def zvM (i : Nat) (r : R Out) : R Out := r.noerr.bind fun o => match o with
 | .nx σ' => .ok (.nx (σ'.set i none))
 | _ => .bad
theorem zlK (i : Nat) (σ : DSt) : zvM i (.ok (.nx σ)) = .ok (.nx (σ.set i none)) := rfl
theorem zlL (i : Nat) (c cc : Str) (as : List D) (hnd : DSt -> R Out) (σ : DSt) (h : zjj cc c = some true) : zxp i c (.err (.exc cc as)) hnd σ = zvM i (hnd (σ.set i (some (.exc cc as)))) := by
 show (bif zjj cc c == some true then _ else _) = _
 rw [h]; rfl
theorem zrH (d : D) : fin (.ok (.rt d)) = .ok d := rfl
theorem zrI (σ : DSt) : fin (.ok (.nx σ)) = .ok .non := rfl
theorem zoE (e : D) : fin (.err e) = .err e := rfl
theorem zoF (i j : Int) : zcJ (.int i) (.int j) = .ok (.int (i + j)) := rfl
theorem zoG (i j : Int) : gSub (.int i) (.int j) = .ok (.int (i - j)) := rfl
theorem zag (i j : Int) (hi : zhu i = true) (hj : zhu j = true) : za8 (.int i) (.int j) = .ok (.int (i * j)) := by
 show (bif zhu i && zhu j then _ else _) = _
 rw [hi, hj]; rfl
theorem zjJ (i j : Int) (h : zn6 j = true) (h0 : 0 < j) : zeH (.int i) (.int j) = .ok (.int (i / j)) := by
 show (bif zn6 j then R.ok (D.int (i.fdiv j)) else .bad) = _
 rw [h, Int.fdiv_eq_ediv_of_nonneg _ (Int.le_of_lt h0)]; rfl
theorem zbn (i j : Int) (h : zn6 j = true) : zeH (.int i) (.int j) = .ok (.int (i.fdiv j)) := by
 show (bif zn6 j then _ else _) = _
 rw [h]; rfl
theorem zaw (i j : Int) (h0 : 0 < j) : zfE (.int i) (.int j) = .ok (.int (i % j)) := by
 have : decide (j ≠ 0) = true := decide_eq_true (by omega)
 show (bif decide (j ≠ 0) then R.ok (D.int (i.fmod j)) else .bad) = _
 rw [this, Int.fmod_eq_emod_of_nonneg _ (Int.le_of_lt h0)]; rfl
theorem ztb (i j : Int) (h : zxe i j = true) : zsW (.int i) (.int j) = .ok (.int (i ^ j.toNat)) := by
 show (bif zxe i j then _ else _) = _
 rw [h]; rfl
theorem ztc (i j : Int) (h : 0 <= j) : gShr (.int i) (.int j) = .ok (.int (i / 2 ^ j.toNat)) := by
 show (bif decide (0 <= j) then _ else _) = _
 rw [decide_eq_true h]; rfl
theorem zrJ (i : Int) : zrb (.int i) = .ok (.int (-i)) := rfl
theorem zrK (i j : Int) : gLt (.int i) (.int j) = .ok (.bl (decide (i < j))) := rfl
theorem zrL (i j : Int) : gLe (.int i) (.int j) = .ok (.bl (decide (i <= j))) := rfl
theorem zrM (i j : Int) : gGt (.int i) (.int j) = .ok (.bl (decide (j < i))) := rfl
theorem zrN (i j : Int) : gGe (.int i) (.int j) = .ok (.bl (decide (j <= i))) := rfl
theorem zjK {a b : D} (h : zmE a b = true) : gEq a b = .ok (.bl (eqD a b)) := by unfold gEq; rw [h]; rfl
theorem zlM {a b : D} (h : zmE a b = true) : gNe a b = .ok (.bl (!eqD a b)) := by unfold gNe; rw [h]; rfl
theorem zep (i j : Int) : eqD (.int i) (.int j) = decide (i = j) := by unfold eqD; rfl
theorem zrO (i j : Int) : gEq (.int i) (.int j) = .ok (.bl (decide (i = j))) := by rw [zjK rfl, zep]
theorem zrP (i j : Int) : gNe (.int i) (.int j) = .ok (.bl (!decide (i = j))) := by rw [zlM rfl, zep]
theorem zrQ (i j : Bool) : gEq (.bl i) (.bl j) = .ok (.bl (i == j)) := by rw [zjK rfl]; unfold eqD; rfl
theorem zrR (i j : Bool) : gNe (.bl i) (.bl j) = .ok (.bl (!(i == j))) := by rw [zlM rfl]; unfold eqD; rfl
abbrev t3 (x y z : Int) : D := .tup [.int x, .int y, .int z]
abbrev l3 (x y z : Int) : D := .lst [.int x, .int y, .int z]
theorem zjL : ∀ (ns ms : List Int), eqDs (ns.map D.int) (ms.map D.int) = decide (ns = ms)
 | [], [] => by unfold eqDs; rfl
 | [], _ :: _ => by unfold eqDs; rfl
 | _ :: _, [] => by unfold eqDs; rfl
 | n :: ns, m :: ms => by
  show eqDs (D.int n :: ns.map D.int) (D.int m :: ms.map D.int) = _
  unfold eqDs
  rw [zjL ns ms, zep, xcn]
  simp
theorem zjM (a b c x y z : Int) : eqD (t3 a b c) (t3 x y z) = decide (a = x /\ b = y /\ c = z) := by
 have := zjL [a, b, c] [x, y, z]
 unfold eqD
 rw [show ([D.int a, .int b, .int c] : List D) = [a, b, c].map D.int from rfl, show ([D.int x, .int y, .int z] : List D) = [x, y, z].map D.int from rfl, this, xcn]
 simp
theorem zvN (a b c x y z : Int) : eqD (l3 a b c) (l3 x y z) = decide (a = x /\ b = y /\ c = z) := by
 have := zjM a b c x y z
 unfold eqD at this ⊢
 exact this
theorem zrS (a b c x y z : Int) : gEq (t3 a b c) (t3 x y z) = .ok (.bl (decide (a = x /\ b = y /\ c = z))) := by rw [zjK rfl, zjM]
theorem zrT (a b c x y z : Int) : gNe (t3 a b c) (t3 x y z) = .ok (.bl (!decide (a = x /\ b = y /\ c = z))) := by rw [zlM rfl, zjM]
theorem zrU (a b c x y z : Int) : gEq (l3 a b c) (l3 x y z) = .ok (.bl (decide (a = x /\ b = y /\ c = z))) := by rw [zjK rfl, zvN]
theorem zrV (a b : Bool) : gIs (.bl a) (.bl b) = .ok (.bl (a == b)) := rfl
theorem zoH (a b : Bool) : zwe (.bl a) (.bl b) = .ok (.bl (a != b)) := rfl
theorem zoI (d : D) : gIs d .non = .ok (.bl (zkv d)) := by cases d <;> rfl
theorem zlN (d : D) : zwe d .non = .ok (.bl (!zkv d)) := by cases d <;> rfl
theorem zlO (a b c : D) : gIx (.tup [a, b, c]) (.int 0) = .ok a := rfl
theorem zlP (a b c : D) : gIx (.tup [a, b, c]) (.int 1) = .ok b := rfl
theorem zlQ (a b c : D) : gIx (.tup [a, b, c]) (.int 2) = .ok c := rfl
theorem zlR (a b c : D) : gIx (.lst [a, b, c]) (.int 0) = .ok a := rfl
theorem zlS (a b c : D) : gIx (.lst [a, b, c]) (.int 1) = .ok b := rfl
theorem zlT (a b c : D) : gIx (.lst [a, b, c]) (.int 2) = .ok c := rfl
theorem zkx {xs : List D} {j : Nat} {d : D} (h : xs[j]? = some d) : gIx (.lst xs) (.int (j : Int)) = .ok d := by
 show (match atI xs (j : Int) with | some d => R.ok d | none => .bad) = _
 rw [zsw h]
theorem zqp (xs : List D) (d : D) : gIx (.lst (xs ++ [d])) (.int (-1)) = .ok d := by
 show (match atI (xs ++ [d]) (-1) with | some d => R.ok d | none => .bad) = _
 rw [zpJ]
theorem zrW (xs : List D) : ziz [.lst xs] = .ok (.int xs.length) := rfl
theorem zoJ : ziz [.tup []] = .ok (.int 0) := rfl
theorem zoK (a : D) : ziz [.tup [a]] = .ok (.int 1) := rfl
theorem zoL (a b : D) : ziz [.tup [a, b]] = .ok (.int 2) := rfl
theorem zoM (a b c : D) : ziz [.tup [a, b, c]] = .ok (.int 3) := rfl
theorem zoN (a b c d : D) : ziz [.tup [a, b, c, d]] = .ok (.int 4) := rfl
theorem zrX (i : Int) : zrd [.int i] = .ok (.int (i.natAbs : Int)) := rfl
theorem zoO (i j : Int) : gMin [.int i, .int j] = .ok (.int (min i j)) := rfl
theorem zoP (i j : Int) : zwf [.int i, .int j] = .ok (.int (max i j)) := rfl
theorem zrY (b : Bool) : gInt [.bl b] = .ok (.int (if b then 1 else 0)) := rfl
theorem zgY (i : Int) : g2 zeI [.int i, .ty "int"] = .ok (.bl true) := rfl
theorem zfY (i : Int) : g2 zeI [.int i, .ty "bool"] = .ok (.bl false) := rfl
theorem zgZ (i : Bool) : g2 zeI [.bl i, .ty "bool"] = .ok (.bl true) := rfl
theorem zh4 (i : Bool) : g2 zeI [.bl i, .ty "int"] = .ok (.bl true) := rfl
theorem zg0 (xs : List D) : g2 zeI [.tup xs, .ty "tuple"] = .ok (.bl true) := rfl
theorem zg1 (xs : List D) : g2 zeI [.lst xs, .ty "list"] = .ok (.bl true) := rfl
theorem zg2 (xs : List D) : g2 zeI [.lst xs, .ty "tuple"] = .ok (.bl false) := rfl
theorem zg3 (xs : List D) : g2 zeI [.tup xs, .ty "list"] = .ok (.bl false) := rfl
theorem zlU (c : Str) : g2 zeI [.exc c [], .ty "ValueError"] = .ok (.bl true) := rfl
theorem zrZ (j : Int) (h : rOk j = true) : zhs [.int j] = .ok (znY 0 j.toNat) := by
 show (bif rOk j then _ else _) = _
 rw [h]; rfl
theorem ztd (i j : Int) (h : rOk i = true) (h' : rOk j = true) : rng2 [.int i, .int j] = .ok (znY i (j - i).toNat) := by
 show (bif rOk i && rOk j then _ else _) = _
 rw [h, h']; rfl
theorem zr0 {i : Int} (h : -1000000000 <= i) (h' : i <= 1000000000) : rOk i = true := by
 unfold rOk
 rw [Nat.blt_eq]
 omega
def zvO (g : List D -> R (List D)) (a : R (List D)) : R (List D) := a.bind g
theorem zjN (g : List D -> R (List D)) (fs : DSt -> R (List D)) (σ : DSt) : zdV g fs σ = zvO g (fs σ) := (rfl)
theorem zlV (g : List D -> R (List D)) (ds : List D) : zvO g (.ok ds) = g ds := (rfl)
def zte (a : R D) : R (List D) := a.bind zuU
theorem zlW (f : DSt -> R D) (σ : DSt) : zhX f σ = zte (f σ) := rfl
theorem zoQ (xs : List D) : zte (.ok (.tup xs)) = .ok xs := rfl
theorem zoR (xs : List D) : zte (.ok (.lst xs)) = .ok xs := rfl
def forK (ks : List Nat) (gp : D -> R (List D)) (fb : DSt -> R Out) (a : R (List D)) (σ : DSt) : R Out := a.bind fun ds => zgP ks gp fb ds σ
theorem zlX (own ks : List Nat) (gp : D -> R (List D)) (fi : DSt -> R (List D)) (fb : DSt -> R Out) (σ : DSt) : zkh own ks gp fi fb σ = forK ks gp fb (fi (mask own σ)) σ := rfl
theorem zoS (ks : List Nat) (gp : D -> R (List D)) (fb : DSt -> R Out) (ds : List D) (σ : DSt) : forK ks gp fb (.ok ds) σ = zgP ks gp fb ds σ := rfl
def zhv (r : R Out) (k : DSt -> R Out) : R Out := r.bind fun o => match o with
 | .nx σ' => k σ'
 | .ct σ' => k σ'
 | .bk σ' => .ok (.nx σ')
 | .rt d => .ok (.rt d)
 | .rf d => .ok (.rf d)
theorem zgp (σ : DSt) (k : DSt -> R Out) : zhv (.ok (.nx σ)) k = k σ := rfl
theorem zlY (σ : DSt) (k : DSt -> R Out) : zhv (.ok (.ct σ)) k = k σ := rfl
theorem zlZ (σ : DSt) (k : DSt -> R Out) : zhv (.ok (.bk σ)) k = .ok (.nx σ) := rfl
theorem zl0 (d : D) (k : DSt -> R Out) : zhv (.ok (.rt d)) k = .ok (.rt d) := rfl
theorem zjO (d : D) (k : DSt -> R Out) : zhv (.err d) k = .err d := rfl
theorem zl1 (ks : List Nat) (gp : D -> R (List D)) (fb : DSt -> R Out) (σ : DSt) : zgP ks gp fb [] σ = .ok (.nx σ) := rfl
theorem zeh (i : Nat) (fb : DSt -> R Out) (d : D) (ds : List D) (σ : DSt) : zgP [i] zaL fb (d :: ds) σ = zhv (fb (σ.set i (some d))) (zgP [i] zaL fb ds) := by
 show (fb (σ.set i (some d))).bind _ = _
 unfold zhv
 cases fb (σ.set i (some d)) with
 | ok o => cases o <;> rfl
 | err e => rfl
 | bad => rfl
theorem zl2 {i : Nat} {fb : DSt -> R Out} (I : DSt -> Prop) : ∀ (ds : List D), (∀ d ∈ ds, ∀ σ, I σ -> ∃ σ', (fb (σ.set i (some d)) = .ok (.nx σ') \/ fb (σ.set i (some d)) = .ok (.ct σ')) /\ I σ') -> ∀ σ, I σ -> ∃ σ', zgP [i] zaL fb ds σ = .ok (.nx σ') /\ I σ'
 | [], _, σ, h => ⟨σ, rfl, h⟩
 | d :: ds, hs, σ, h => by
  obtain ⟨σ1, h1, h2⟩ := hs d xal σ h
  obtain ⟨σ2, h3, h4⟩ := zl2 I ds (fun d' hd => hs d' (xaf _ hd)) σ1 h2
  refine ⟨σ2, ?_, h4⟩
  rw [zeh]
  rcases h1 with h1 | h1 <;> rw [h1]
  ·exact h3
  ·exact h3
theorem zl3 {i : Nat} {fb : DSt -> R Out} (I : Nat -> DSt -> Prop) (ds : List D) (hs : ∀ (k : Nat) (d : D) (σ : DSt), ds[k]? = some d -> I k σ -> ∃ σ', (fb (σ.set i (some d)) = .ok (.nx σ') \/ fb (σ.set i (some d)) = .ok (.ct σ')) /\ I (k + 1) σ') (σ : DSt) (h : I 0 σ) : ∃ σ', zgP [i] zaL fb ds σ = .ok (.nx σ') /\ I ds.length σ' := by
 have go : ∀ (ds : List D) (n : Nat), (∀ (k : Nat) (d : D) (σ : DSt), ds[k]? = some d -> I (n + k) σ -> ∃ σ', (fb (σ.set i (some d)) = .ok (.nx σ') \/ fb (σ.set i (some d)) = .ok (.ct σ')) /\ I (n + k + 1) σ') -> ∀ σ, I n σ -> ∃ σ', zgP [i] zaL fb ds σ = .ok (.nx σ') /\ I (n + ds.length) σ' := by
  intro ds
  induction ds with
  | nil => intro n _ σ h; exact ⟨σ, rfl, h⟩
  | cons d ds ih =>
   intro n hs σ h
   obtain ⟨σ1, h1, h2⟩ := hs 0 d σ rfl h
   obtain ⟨σ2, h3, h4⟩ := ih (n + 1) (fun k d' σ hd hI => by
    have := hs (k + 1) d' σ (by simpa using hd) (by rw [show n + (k + 1) = n + 1 + k by omega]; exact hI)
    rw [show n + (k + 1) + 1 = n + 1 + k + 1 by omega] at this
    exact this) σ1 h2
   refine ⟨σ2, ?_, by rw [xar, show n + (ds.length + 1) = n + 1 + ds.length by omega]; exact h4⟩
   rw [zeh]
   rcases h1 with h1 | h1 <;> rw [h1]
   ·exact h3
   ·exact h3
 obtain ⟨σ', h1, h2⟩ := go ds 0 (fun k d σ hd hI => by
  rw [xbo] at hI ⊢
  exact hs k d σ hd hI) σ h
 exact ⟨σ', h1, by rw [xbo] at h2; exact h2⟩
theorem zl4 {c : DSt -> R Bool} {fb : DSt -> R Out} {σ σ' : DSt} (h : c σ = .ok true) (h' : fb σ = .ok (.nx σ')) : zbr c fb σ = zbr c fb σ' := by rw [zgQ, h]; show (fb σ).bind _ = _; rw [h']; rfl
theorem zl5 {c : DSt -> R Bool} {fb : DSt -> R Out} {σ : DSt} (h : c σ = .ok false) : zbr c fb σ = .ok (.nx σ) := by rw [zgQ, h]; rfl
def lcK (k : Nat) (ks : List Nat) (a : R (List D)) (gp : D -> R (List D)) (c : DSt -> R Bool) (e : DSt -> R D) (σ : DSt) : R (List D) := a.bind fun ds => bif most ds.length then (lcD ks gp c e (List.replicate k none ++ σ) ds).noerr else .bad
theorem zoT (k : Nat) (ks : List Nat) (fi : DSt -> R (List D)) (gp : D -> R (List D)) (c : DSt -> R Bool) (e : DSt -> R D) (σ : DSt) : eLC k ks fi gp c e σ = lcK k ks (fi σ) gp c e σ := rfl
theorem zky {n : Nat} (h : n <= 1000000) : most n = true := decide_eq_true (xbt h (by decide))
theorem zjP {ds : List D} {e : DSt -> R D} {σ : DSt} {g : D -> D} (hl : ds.length <= 1000000) (h : ∀ d ∈ ds, e (some d :: σ) = .ok (g d)) : lcK 1 [0] (.ok ds) zaL zbS e σ = .ok (ds.map g) := by
 have go : ∀ ds : List D, (∀ d ∈ ds, e (some d :: σ) = .ok (g d)) -> lcD [0] zaL zbS e (List.replicate 1 none ++ σ) ds = .ok (ds.map g) := by
  intro ds
  induction ds with
  | nil => intro _; rfl
  | cons d ds ih =>
   intro h
   show (e (some d :: σ)).bind (fun y => (lcD [0] zaL zbS e (List.replicate 1 none ++ σ) ds).bind fun ys => .ok (y :: ys)) = _
   rw [h d xal, ih fun d' hd => h d' (xaf _ hd)]; rfl
 show (bif most ds.length then _ else _) = _
 rw [zky hl, go ds h]; rfl
theorem ze5 {ds : List D} {c : DSt -> R Bool} {e : DSt -> R D} {σ : DSt} {p : D -> Bool} {g : D -> D} (hl : ds.length <= 1000000) (hc : ∀ d ∈ ds, c (some d :: σ) = .ok (p d)) (h : ∀ d ∈ ds, p d = true -> e (some d :: σ) = .ok (g d)) :
  lcK 1 [0] (.ok ds) zaL c e σ = .ok ((ds.filter p).map g) := by
 have go : ∀ ds : List D, (∀ d ∈ ds, c (some d :: σ) = .ok (p d)) -> (∀ d ∈ ds, p d = true -> e (some d :: σ) = .ok (g d)) -> lcD [0] zaL c e (List.replicate 1 none ++ σ) ds = .ok ((ds.filter p).map g) := by
  intro ds
  induction ds with
  | nil => intro _ _; rfl
  | cons d ds ih =>
   intro hc h
   have ih' := ih (fun d' hd => hc d' (xaf _ hd)) fun d' hd => h d' (xaf _ hd)
   show (c (some d :: σ)).bind (fun k => bif k then (e (some d :: σ)).bind (fun y => (lcD [0] zaL c e (List.replicate 1 none ++ σ) ds).bind fun ys => .ok (y :: ys)) else lcD [0] zaL c e (List.replicate 1 none ++ σ) ds) = _
   rw [hc d xal, ih']
   cases hp : p d with
   | true =>
    show (e (some d :: σ)).bind _ = _
    rw [h d xal hp, List.filter_cons_of_pos hp]; rfl
   | false => rw [List.filter_cons_of_neg (by rw [hp]; exact xau)]; rfl
 show (bif most ds.length then _ else _) = _
 rw [zky hl, go ds hc h]; rfl
end DL
namespace DL
open L2 PyProof.Rows
def inD (d : D) (xs : List D) : Bool := xs.any fun y => eqD y d
def in2 (d : D) (xs : List D) : Bool := zdY 9 d && xs.all (zdY 9)
def gIn : D -> D -> R D
 | d, .lst xs => bif in2 d xs then .ok (.bl (inD d xs)) else .bad
 | d, .tup xs => bif in2 d xs then .ok (.bl (inD d xs)) else .bad
 | .str i, .str j => .ok (.bl (!(Builtin.Str.occurrences j i 0 j.length 1).isEmpty))
 | _, _ => .bad
def zpv : D -> D -> R D
 | d, .lst xs => bif in2 d xs then .ok (.bl (!inD d xs)) else .bad
 | d, .tup xs => bif in2 d xs then .ok (.bl (!inD d xs)) else .bad
 | .str i, .str j => .ok (.bl (!(!(Builtin.Str.occurrences j i 0 j.length 1).isEmpty)))
 | _, _ => .bad
section
variable {X : Cx} {E : XK}
theorem zvP {K : xFg} {mg : Str -> Option Value} {G : Hp} {d : D} (f : Value -> Bool) : ∀ {ds : List D} {vs : List V} {its : List Value}, (∀ d' v' u, d' ∈ ds -> Rep K mg G d' v' -> zbg v' u -> f u = eqD d' d) -> Reps K mg G ds vs -> zbi vs its -> its.any f = ds.any fun y => eqD y d
 | [], _, _, _, r, t => by cases r; cases t; rfl
 | d' :: ds, _, _, h, ⟨v, vs, e, r1, r2⟩, t => by
  subst e
  cases t with
  | cons q t =>
   rw [List.any_cons, List.any_cons, h d' _ _ xal r1 q, zvP f (fun d'' v'' u hd => h d'' v'' u (xaf _ hd)) r2 t]
theorem zg4 {K : xFg} {mg : Str -> Option Value} {G : Hp} : ∀ {ds : List D} {vs : List V} {its : List Value}, Reps K mg G ds vs -> zbi vs its -> ∀ u ∈ its, ∃ d' v', d' ∈ ds /\ Rep K mg G d' v' /\ zbg v' u
 | [], _, _, r, t, u, hu => by cases r; cases t; cases hu
 | d' :: ds, _, _, ⟨v, vs, e, r1, r2⟩, t, u, hu => by
  subst e
  cases t with
  | cons q t =>
   rcases xae.mp hu with rfl | hu
   ·exact ⟨d', v, xal, r1, q⟩
   ·obtain ⟨d'', v'', h1, h2, h3⟩ := zg4 r2 t u hu
    exact ⟨d'', v'', xaf _ h1, h2, h3⟩
def rInD (K : xFg) (mg : Str -> Option Value) (neg : Bool) : R2 := fun x y H Q => ∃ G d ds p vs, zaF G H /\ Rep K mg G d x /\ y = .ref p /\ (SqL K G p vs \/ SqT K G p vs) /\ Reps K mg G ds vs /\ in2 d ds = true /\ Q (.bl (bif neg then !inD d ds else inD d ds)) H
open Classical in
theorem zgq {pins : List (Addr × Obj)} {σ : L2.St} {G H : Hp} {s : Shared} (I : Inv X pins σ H s) {k : Nat} (r : zeD k X.A) (e : zaF G H) {d : D} {x : V} {v : Value} {ds : List D} {vs : List V} {its : List Value} (rx : Rep X.K X.mg G d x) (qx : zbg x v) (rs : Reps X.K X.mg G ds vs) (t : zbi vs its) (h : in2 d ds = true) :
  ∃ f : Value -> Bool, (∀ u ∈ its, SeqAt.EqAt X.A.in1 s u v (f u)) /\ its.any f = inD d ds := by
 unfold in2 at h
 rw [xa0, xa1] at h
 obtain ⟨h1, h2⟩ := h
 have key : ∀ d' v' u, d' ∈ ds -> Rep X.K X.mg G d' v' -> zbg v' u -> decide (∃ d'' v'', d'' ∈ ds /\ Rep X.K X.mg G d'' v'' /\ zbg v'' u /\ eqD d'' d = true) = eqD d' d := by
  intro d' v' u hd r1 q1
  by_cases hq : eqD d' d = true
  ·rw [hq]; exact decide_eq_true ⟨d', v', hd, r1, q1, hq⟩
  ·rw [Bool.not_eq_true] at hq
   rw [hq]
   refine decide_eq_false ?_
   rintro ⟨d'', v'', hd', r2, q2, hq'⟩
   have ev := q1.inj q2
   subst ev
   have := zkt I e 9 (h2 _ hd) (h2 _ hd') r1 r2
   subst this
   rw [hq] at hq'; cases hq'
 refine ⟨fun u => decide (∃ d'' v'', d'' ∈ ds /\ Rep X.K X.mg G d'' v'' /\ zbg v'' u /\ eqD d'' d = true), fun u hu => ?_, zvP _ key rs t⟩
 obtain ⟨d', v', hd, r1, q1⟩ := zg4 rs t u hu
 show SeqAt.EqAt X.A.in1 s u v (decide _)
 rw [key d' v' u hd r1 q1]
 exact (zn4 I e 9 (by rw [in1_units]; have := r.un; omega) (h2 _ hd) h1 r1 q1 rx qx).1
theorem zvQ {k : Nat} (r : zeD k X.A) : OpR X (compareOp .In) (rInD X.K X.mg false) := by
 intro pins s σ H x y v u Q I rx ry h
 obtain ⟨G, d, ds, p, vs, e, r1, rfl, hq, rs, c, q⟩ := h
 cases ry
 rcases hq with hq | hq
 ·obtain ⟨its, t, pl, hz⟩ := I.list (e.seq hq)
  obtain ⟨f, h1, h2⟩ := zgq I r e r1 rx rs t c
  refine SeqAt.in_listAt f pl.isList (fun w hw => h1 w (by simpa using hw)) ⟨.bl _, H, I, rfl, ?_⟩
  rw [show its.toArray.any f = its.any f by simp, h2]; exact q
 ·obtain ⟨its, t, pl, hz⟩ := I.tuple (zaF.sqT e hq)
  obtain ⟨f, h1, h2⟩ := zgq I r e r1 rx rs t c
  refine SeqAt.in_tupleAt f pl (fun w hw => h1 w (by simpa using hw)) ⟨.bl _, H, I, rfl, ?_⟩
  rw [show its.toArray.any f = its.any f by simp, h2]; exact q
theorem ztf {k : Nat} (r : zeD k X.A) : OpR X (compareOp .NotIn) (rInD X.K X.mg true) := by
 intro pins s σ H x y v u Q I rx ry h
 obtain ⟨G, d, ds, p, vs, e, r1, rfl, hq, rs, c, q⟩ := h
 cases ry
 rcases hq with hq | hq
 ·obtain ⟨its, t, pl, hz⟩ := I.list (e.seq hq)
  obtain ⟨f, h1, h2⟩ := zgq I r e r1 rx rs t c
  refine SeqAt.notIn_listAt f pl.isList (fun w hw => h1 w (by simpa using hw)) ⟨.bl _, H, I, rfl, ?_⟩
  rw [show its.toArray.any f = its.any f by simp, h2]; exact q
 ·obtain ⟨its, t, pl, hz⟩ := I.tuple (zaF.sqT e hq)
  obtain ⟨f, h1, h2⟩ := zgq I r e r1 rx rs t c
  refine SeqAt.notIn_tupleAt f pl (fun w hw => h1 w (by simpa using hw)) ⟨.bl _, H, I, rfl, ?_⟩
  rw [show its.toArray.any f = its.any f by simp, h2]; exact q
abbrev rInS (neg : Bool) : R2 := fun x y H Q => ∃ i j, x = .str i /\ y = .str j /\ Q (.bl (bif neg then !(!(Builtin.Str.occurrences j i 0 j.length 1).isEmpty) else !(Builtin.Str.occurrences j i 0 j.length 1).isEmpty)) H
theorem zxq {k : Nat} (C : XC X E k) : zlb X .In gIn := ⟨_, (zvQ C.room).or (zne : OpR X _ (rInS false)), fun G H a b x y Q e ra rb q => by
 cases b with
 | lst xs =>
  obtain ⟨p, vs, rfl, h1, h2⟩ := rb
  cases hc : in2 a xs with
  | false => simp only [gIn, hc, cond_false] at q; exact q.elim
  | true => simp only [gIn, hc, cond_true] at q; exact .inl ⟨G, a, xs, p, vs, e, ra, rfl, .inl h1, h2, hc, zao.now q e rfl⟩
 | tup xs =>
  obtain ⟨p, vs, rfl, h1, h2⟩ := rb
  cases hc : in2 a xs with
  | false => simp only [gIn, hc, cond_false] at q; exact q.elim
  | true => simp only [gIn, hc, cond_true] at q; exact .inl ⟨G, a, xs, p, vs, e, ra, rfl, .inr h1, h2, hc, zao.now q e rfl⟩
 | str j => cases a with
  | str i => cases ra; cases rb; exact .inr ⟨i, j, rfl, rfl, zao.now q e rfl⟩
  | _ => exact (show False from q).elim
 | _ => cases a <;> exact (show False from q).elim, fun a b e => by
  cases b with
  | lst xs => simp only [gIn]; cases in2 a xs <;> simp [cond]
  | tup xs => simp only [gIn]; cases in2 a xs <;> simp [cond]
  | _ => cases a <;> simp [gIn]⟩
theorem zvR {k : Nat} (C : XC X E k) : zlb X .NotIn zpv := ⟨_, (ztf C.room).or (ziZ : OpR X _ (rInS true)), fun G H a b x y Q e ra rb q => by
 cases b with
 | lst xs =>
  obtain ⟨p, vs, rfl, h1, h2⟩ := rb
  cases hc : in2 a xs with
  | false => simp only [zpv, hc, cond_false] at q; exact q.elim
  | true => simp only [zpv, hc, cond_true] at q; exact .inl ⟨G, a, xs, p, vs, e, ra, rfl, .inl h1, h2, hc, zao.now q e rfl⟩
 | tup xs =>
  obtain ⟨p, vs, rfl, h1, h2⟩ := rb
  cases hc : in2 a xs with
  | false => simp only [zpv, hc, cond_false] at q; exact q.elim
  | true => simp only [zpv, hc, cond_true] at q; exact .inl ⟨G, a, xs, p, vs, e, ra, rfl, .inr h1, h2, hc, zao.now q e rfl⟩
 | str j => cases a with
  | str i => cases ra; cases rb; exact .inr ⟨i, j, rfl, rfl, zao.now q e rfl⟩
  | _ => exact (show False from q).elim
 | _ => cases a <;> exact (show False from q).elim, fun a b e => by
  cases b with
  | lst xs => simp only [zpv]; cases in2 a xs <;> simp [cond]
  | tup xs => simp only [zpv]; cases in2 a xs <;> simp [cond]
  | _ => cases a <;> simp [zpv]⟩
end
end DL
namespace DL
open L2 PyProof.Rows
section
variable {prog : Program} {w : World} {A : Around} {E : Value -> Shared -> Prop} {s : Shared}
theorem items_int {ks : List Int} {vs : List Value} (h : ItemsAre (intKind prog w) ks vs) : ∀ v ∈ vs, ∃ i t, v = .int i t := by
 induction h with
 | nil => intro v hv; cases hv
 | cons q _ ih =>
  intro v hv
  rcases xae.mp hv with rfl | hv
  ·cases v with
   | int i t => exact ⟨i, t, rfl⟩
   | _ => cases q
  ·exact ih v hv
theorem zl6 {ks : List Int} {b : Addr} {Q : Bool -> Shared -> Prop} (hk : IsTupleKey (intKind prog w) s.heap ks b) (q : Q false s) : wpAny (model prog w) A (ofAClassStatement 8 (.ref b)) Q E s := by
 have ty := hk.typeIs
 obtain ⟨ob, its, m, g1, _, g2, g3⟩ := hk
 have hint := items_int g3
 unfold ofAClassStatement
 refine wpAny_bind (wpAny_typeOf ty ?_)
 refine wpAny_bind (wpAny_pure ?_)
 dsimp only
 rw [if_neg (by decide)]
 refine wpAny_bind (wpAny_seqItems g1 g2 ?_)
 dsimp only
 refine wpAny_bind ?_
 show wpAny _ _ (forIn its _ _) _ _ s
 rw [<- Array.forIn_toList]
 refine wpAny_forIn_list _ (fun left r s1 => r.1 = none /\ s1 = s /\ ∀ v ∈ left, ∃ i t, v = Value.int i t) _ ?_ ?_ _ _ ⟨rfl, rfl, hint⟩
 ·rintro v left r s1 ⟨hr, rfl, all⟩
  obtain ⟨i, t, rfl⟩ := all v xal
  refine wpAny_bind (wpAny_pure (a := false) ?_)
  rw [if_neg (by decide)]
  exact wpAny_pure ⟨rfl, rfl, fun u hu => all u (xaf _ hu)⟩
 ·rintro ⟨r1, r2⟩ s1 ⟨hr, rfl, _⟩
  simp only at hr
  subst hr
  exact wpAny_pure q
theorem zoU {ks : List Int} {b : Addr} {stored : List Value} {Q : Bool -> Shared -> Prop} (hk : IsTupleKey (intKind prog w) s.heap ks b) (hs : ∀ v ∈ stored, ∃ c ls, v = .ref c /\ IsTupleKey (intKind prog w) s.heap ls c) (q : Q false s) : wpAny (model prog w) A (searchCouldBeSeen (.ref b) stored) Q E s := by
 unfold searchCouldBeSeen
 refine wpAny_bind ?_
 refine wpAny_forIn_list _ (fun left r s1 => r.1 = none /\ s1 = s /\ ∀ v ∈ left, ∃ c ls, v = Value.ref c /\ IsTupleKey (intKind prog w) s.heap ls c) _ ?_ ?_ _ _ ⟨rfl, rfl, hs⟩
 ·rintro v left r s1 ⟨hr, rfl, all⟩
  obtain ⟨c, ls, rfl, hc⟩ := all v xal
  have zbR : ∀ u ∈ left, ∃ c ls, u = Value.ref c /\ IsTupleKey (intKind prog w) s1.heap ls c := fun u hu => all u (xaf _ hu)
  dsimp only
  by_cases hv : (b == c || carriedByValue (.ref b) && carriedByValue (.ref c)) = true
  ·rw [if_pos hv]
   exact wpAny_pure ⟨rfl, rfl, zbR⟩
  ·rw [if_neg hv]
   refine wpAny_bind (wpAny_eqIsQuiet_tuple hk ?_)
   rw [if_neg (by decide)]
   refine wpAny_bind (wpAny_eqIsQuiet_tuple hc ?_)
   rw [if_neg (by decide)]
   refine wpAny_bind (zl6 hk ?_)
   rw [if_neg (by decide)]
   refine wpAny_bind (zl6 hc ?_)
   rw [if_neg (by decide)]
   exact wpAny_pure ⟨rfl, rfl, zbR⟩
 ·rintro ⟨r1, r2⟩ s1 ⟨hr, rfl, _⟩
  simp only at hr
  subst hr
  exact wpAny_pure q
theorem ztg {ks : List Int} {b : Addr} {Q : Bool -> Shared -> Prop} (hk : IsTupleKey (intKind prog w) s.heap ks b) (q : Q true s) : wpAny (model prog w) A (hashByValue 8 (.ref b)) Q E s := by
 have ty := hk.typeIs
 obtain ⟨ob, its, m, g1, _, g2, g3⟩ := hk
 have hint := items_int g3
 unfold hashByValue
 refine wpAny_bind (wpAny_specialOf ty PySem.F.slot_tuple_hash.lookup ?_)
 dsimp only
 refine wpAny_bind (wpAny_seqItems g1 g2 ?_)
 refine wpAny_bind ?_
 show wpAny _ _ (forIn its _ _) _ _ s
 rw [<- Array.forIn_toList]
 refine wpAny_forIn_list _ (fun left r s1 => r.1 = none /\ s1 = s /\ ∀ v ∈ left, ∃ i t, v = Value.int i t) _ ?_ ?_ _ _ ⟨rfl, rfl, hint⟩
 ·rintro v left r s1 ⟨hr, rfl, all⟩
  obtain ⟨i, t, rfl⟩ := all v xal
  refine wpAny_bind (wpAny_pure (a := true) ?_)
  rw [if_neg (by decide)]
  exact wpAny_pure ⟨rfl, rfl, fun u hu => all u (xaf _ hu)⟩
 ·rintro ⟨r1, r2⟩ s1 ⟨hr, rfl, _⟩
  simp only at hr
  subst hr
  exact wpAny_pure q
structure TSet (prog : Program) (w : World) (h : Heap) (a : Addr) (o : Obj) (es : Array (Int × Value)) (ep : Nat) (t : SetTable) (kss : List (List Int)) : Prop where
 get : h.get? a = some o
 ex : o.ExactSet
 dat : o.data = .set es ep t
 dm : t.dummies = #[]
 pl : t.place.size = es.size
 msk : (t.mask = 7 /\ es.size <= 4) \/ (t.mask = 31 /\ es.size <= 18)
 n : es.size = kss.length
 el : ∀ e ∈ es.toList, ∃ c ls, e.2 = .ref c /\ IsTupleKey (intKind prog w) h ls c /\ ls ∈ kss
variable {h : Heap} {a : Addr} {o : Obj} {es : Array (Int × Value)} {ep : Nat} {t : SetTable} {kss : List (List Int)}
theorem zh5 : ∀ (n : Nat) (p : SetTable.Probe), p.dummy = none -> (SetT.iter t n p).dummy = none
 | 0, _, hp => hp
 | n + 1, p, hp => zh5 n (t.advance p) (by rw [SetT.adv_dummy]; exact hp)
theorem zeK {h' : Heap} (sb : Heap.SameBut a h h') (g : h.get? a = some o) (dd : o.data = .set es ep t) {ls : List Int} {c : Addr} (hk : IsTupleKey (intKind prog w) h ls c) : IsTupleKey (intKind prog w) h' ls c := by
 obtain ⟨ob, its, m, g1, g2, g3, g4⟩ := hk
 have ne : c ≠ a := fun z => by
  subst z
  rw [g] at g1
  cases g1
  rw [dd] at g3
  cases g3
 exact ⟨ob, its, m, (sb.2 c ne).trans g1, g2, g3, g4⟩
theorem zjQ {es' : Array (Int × Value)} {t' : SetTable} (g : h.get? a = some o) (dd : o.data = .set es ep t) : (h.update a (Obj.putSet es' t')).get? a = some { o with data := .set es' (ep + 1) t' } := by
 have := xbu (Obj.putSet es' t') g (by rw [putSet_of es' t' dd]; rfl)
 rw [putSet_of es' t' dd] at this
 exact this
theorem ze6 {α : Type} (xs : Array α) (p : Nat) (x : α) : (SetTable.insertAt xs p x).size = xs.size + 1 := by
 have := (SetTable.insertAt_perm xs p x).length_eq
 rw [xas, xas, Array.size_push] at this
 exact this
theorem zjR {α : Type} {xs : Array α} {p : Nat} {x y : α} (hy : y ∈ (SetTable.insertAt xs p x).toList) : y = x \/ y ∈ xs.toList := by
 have := (SetTable.insertAt_perm xs p x).mem_iff.mp hy
 rw [Array.toList_push] at this
 rcases xbd.mp this with z | z
 ·exact .inr z
 ·exact .inl (xbh.mp z)
end
end DL
namespace DL
open L2 PyProof.Rows
section
variable {prog : Program} {w : World} {A : Around} {h h' : Heap} {it l z : Addr} {items : Array Value}
theorem zg5 (kp : ∀ b u, b ∉ [it] -> h.get? b = some u -> h'.get? b = some u) {i : Nat} (hi : h.IsListIter it l i) {ls : List Int} {c : Addr} (hk : IsTupleKey (intKind prog w) h ls c) : IsTupleKey (intKind prog w) h' ls c := by
 obtain ⟨ob, its, m, g1, g2, g3, g4⟩ := hk
 obtain ⟨oi, e1, e2, _⟩ := hi
 have ne : c ∉ [it] := fun q => by
  rw [xbh] at q
  subst q
  rw [g1] at e1
  cases e1
  rw [g2] at e2
  exact absurd e2 (by decide)
 exact ⟨ob, its, m, kp c _ ne g1, g2, g3, g4⟩
abbrev zd0 (led : Bool) : Obj := { cls := .type "set", dict := none, data := .set #[] 0 (.fresh 0 0 led) }
end
end DL
namespace DL
open L2 PyProof.Rows
section
variable {X : Cx} {E : XK}
def zwj (a : Addr) (n : Nat) : Heap -> Prop := fun h => ∃ o es ep t, h.get? a = some o /\ o.ExactSet /\ o.data = .set es ep t /\ SetTable.fits t es.size = true /\ es.size = n
def zcx (K : xFg) (H : Hp) : List V -> List (List Int) -> Prop
 | [], [] => True
 | v :: vs, ks :: kss => (∃ b, v = .ref b /\ SqT K H b (ks.map V.int)) /\ zcx K H vs kss
 | _, _ => False
theorem zcx.length {K : xFg} {H : Hp} : ∀ {vs : List V} {kss : List (List Int)}, zcx K H vs kss -> vs.length = kss.length
 | [], [], _ => rfl
 | _ :: _, _ :: _, ⟨_, t⟩ => by rw [xar, xar, zcx.length t]
 | [], _ :: _, h => h.elim
 | _ :: _, [], h => h.elim
theorem zl7 : ∀ {ks : List Int} {us : List Value}, zbi (ks.map V.int) us -> ItemsAre (intKind X.prog X.w) ks us
 | [], _, h => by cases h; exact .nil
 | k :: ks, _, h => by
  cases h with
  | cons q t =>
   obtain ⟨tk, rfl⟩ := q
   exact .cons (intKind_is _ _ _ _) (zl7 t)
theorem zoV {pins : List (Addr × Obj)} {σ : L2.St} {H : Hp} {s : Shared} (I : Inv X pins σ H s) : ∀ {vs : List V} {kss : List (List Int)} {us : List Value}, zcx X.K H vs kss -> zbi vs us -> ∀ j, j < us.length -> ∃ b, us[j]? = some (.ref b) /\ IsTupleKey (intKind X.prog X.w) s.heap (kss.getD j []) b
 | [], [], _, _, h, j, hj => by cases h; cases hj
 | v :: vs, ks :: kss, _, ⟨⟨b, e1, e2⟩, t⟩, h, j, hj => by
  cases h with
  | cons q r =>
   subst e1
   cases q
   cases j with
   | zero =>
    obtain ⟨its, rv, ⟨ob, g1, g2, n, g3⟩, _⟩ := I.tuple e2
    exact ⟨b, rfl, ob, its.toArray, n, g1, g2, g3, by rw [xda]; exact zl7 rv⟩
   | succ j =>
    obtain ⟨c, c1, c2⟩ := zoV I t r j (by simpa using hj)
    exact ⟨c, c1, c2⟩
 | [], _ :: _, _, h, _, _, _ => h.elim
 | _ :: _, [], _, h, _, _, _ => h.elim
def zxr : List V -> Hp -> VK -> Prop := fun xs H Q => ∃ (a : Addr) (n : Nat), xs = [.ref a] /\ H a = some (.ext (zwj a n)) /\ n <= 1000 /\ Q (.int n) H
theorem zoW : zcK X (.builtin "len") zxr := by
 intro pins s σ H xs us Q I rs h
 obtain ⟨a, n, rfl, hq, hn, q⟩ := h
 obtain ⟨u, rfl, rx⟩ := ziS rs
 cases rx
 obtain ⟨⟨o, es, ep, t, g1, g2, g3, g4, g5⟩, _⟩ := (show zcr X.prog X.w H s.heap a (.ext (zwj a n)) from I.hok a _ hq)
 exact call_len_set g1 g2 g3 g4 (by omega) ⟨.int n, H, I.tok _, ⟨s.toks + 1, by rw [g5]⟩, q⟩
def zbF : List D -> Option (List (List Int))
 | [] => some []
 | .tup xs :: ds => match zgR xs with
  | some ks => (zbF ds).map (ks :: ·)
  | none => none
 | _ => none
theorem zjS {K : xFg} {mg : Str -> Option Value} {G : Hp} : ∀ {ds : List D} {kss : List (List Int)} {vs : List V}, zbF ds = some kss -> Reps K mg G ds vs -> zcx K G vs kss
 | [], _, _, h, r => by cases h; cases r; exact True.intro
 | .tup xs :: ds, _, _, h, ⟨v, t, e1, r1, r2⟩ => by
  subst e1
  cases hi : zgR xs with
  | none => simp [zbF, hi] at h
  | some ks =>
   cases hd : zbF ds with
   | none => simp [zbF, hi, hd] at h
   | some kss' =>
    simp [zbF, hi, hd] at h
    subst h
    obtain ⟨a, ws, rfl, q1, q2⟩ := r1
    rw [zjr hi] at q2
    rw [Reps.of_ints q2] at q1
    exact ⟨⟨a, rfl, q1⟩, zjS hd r2⟩
 | .non :: _, _, _, h, _ => by simp [zbF] at h
 | .bl _ :: _, _, _, h, _ => by simp [zbF] at h
 | .int _ :: _, _, _, h, _ => by simp [zbF] at h
 | .str _ :: _, _, _, h, _ => by simp [zbF] at h
 | .ty _ :: _, _, _, h, _ => by simp [zbF] at h
 | .cls _ :: _, _, _, h, _ => by simp [zbF] at h
 | .lst _ :: _, _, _, h, _ => by simp [zbF] at h
 | .dct _ _ :: _, _, _, h, _ => by simp [zbF] at h
 | .exc _ _ :: _, _, _, h, _ => by simp [zbF] at h
theorem zcx.mono {K : xFg} {G H : Hp} (e : zaF G H) : ∀ {vs : List V} {kss : List (List Int)}, zcx K G vs kss -> zcx K H vs kss
 | [], [], _ => True.intro
 | _ :: _, _ :: _, ⟨⟨b, e1, e2⟩, t⟩ => ⟨⟨b, e1, zaF.sqT e e2⟩, zcx.mono e t⟩
 | [], _ :: _, h => h.elim
 | _ :: _, [], h => h.elim
end
end DL
namespace L2
open PyProof.Rows
section
variable {prog : Program} {w : World} {A : Around} {E : Value -> Shared -> Prop} {s : Shared}
theorem zr1 {it t : Addr} {k : Nat} {its : Array Value} {x : Value} {Q : Value -> Shared -> Prop} (st : s.heap.IsTupleIter it t k) (ht : s.heap.IsTuple t its) (hx : its[k]? = some x)
  (q : ∀ g, g.IsTupleIter it t (k + 1) -> Heap.SameBut it s.heap g -> Q x { s with heap := g }) : wpAny (model prog w) A (Builtin.SmallTypes.nextOf (.ref it)) Q E s := by
 obtain ⟨o, eo, co, d⟩ := id st
 obtain ⟨l, el, _, n, dl⟩ := ht
 unfold Builtin.SmallTypes.nextOf
 apply wpAny_bind
 refine wpAny_callSpecial?_slot (name := "__next__") st.typeIs F.slot_tuple_iterator_next ?_
 refine wpAny_call_entry F.slot_tuple_iterator_next st.typeIs F.entry_tuple_iterator_next ?_ (F.args_tuple_iterator_next_1 _)
 show wpAny _ _ (field (.ref it) 0 >>= _) _ _ s
 apply wpAny_bind
 refine wpAny_field eo d (x := .ref t) rfl ?_
 show wpAny _ _ (if (Value.ref t == .none) = true then _ else _) _ _ s
 have nn : ¬ (Value.ref t == .none) = true := xau
 rw [if_neg nn]
 show wpAny _ _ (field (.ref it) 1 >>= _) _ _ s
 apply wpAny_bind
 refine wpAny_field eo d (x := .int k 0) rfl ?_
 show wpAny _ _ (seqItems? (.ref t) >>= _) _ _ s
 apply wpAny_bind
 refine wpAny_seqItems el dl ?_
 simp only [hx, Int.toNat_natCast]
 apply wpAny_bind
 refine wpAny_setField eo d (by simp) (wpAny_pure ⟨x, rfl, wpAny_pure (q _ ⟨_, xbu _ eo (Obj.isFreed_of_fields (Obj.data_mapFields d _)), (Obj.cls_mapFields ..).trans co, ?_⟩ (.update ..))⟩)
 rw [Obj.data_mapFields d]; simp [rawInt]
theorem zmG {it t : Addr} {k : Nat} {its : Array Value} {Q : Value -> Shared -> Prop} (hh : A.handled = none) (st : s.heap.IsTupleIter it t k) (ht : s.heap.IsTuple t its) (hx : its[k]? = none)
  (q : ∀ g e, Heap.ExtBut it s.heap g -> (∃ o, g.get? e = some o /\ o.cls = .type "StopIteration") -> E (.ref e) { s with heap := g }) : wpAny (model prog w) A (Builtin.SmallTypes.nextOf (.ref it)) Q E s := by
 obtain ⟨o, eo, co, d⟩ := id st
 obtain ⟨l, el, _, n, dl⟩ := ht
 unfold Builtin.SmallTypes.nextOf
 apply wpAny_bind
 refine wpAny_callSpecial?_slot (name := "__next__") st.typeIs F.slot_tuple_iterator_next ?_
 refine wpAny_call_entry F.slot_tuple_iterator_next st.typeIs F.entry_tuple_iterator_next ?_ (F.args_tuple_iterator_next_1 _)
 show wpAny _ _ (field (.ref it) 0 >>= _) _ _ s
 apply wpAny_bind
 refine wpAny_field eo d (x := .ref t) rfl ?_
 show wpAny _ _ (if (Value.ref t == .none) = true then _ else _) _ _ s
 have nn : ¬ (Value.ref t == .none) = true := xau
 rw [if_neg nn]
 show wpAny _ _ (field (.ref it) 1 >>= _) _ _ s
 apply wpAny_bind
 refine wpAny_field eo d (x := .int k 0) rfl ?_
 show wpAny _ _ (seqItems? (.ref t) >>= _) _ _ s
 apply wpAny_bind
 refine wpAny_seqItems el dl ?_
 simp only [hx, Int.toNat_natCast]
 apply wpAny_bind; apply wpAny_rule; apply wpAny_bind
 refine wpAny_setField eo d (by simp) ?_
 show wpAny _ _ (newExc (.type "StopIteration") [] >>= _) _ _ _
 apply wpAny_bind
 simp only [newExc, newTuple]
 apply wpAny_bind
 refine wpAny_newObj_type ?_ (by size_fits)
 apply wpAny_bind (m := firstArgMember _ _)
 refine wpAny_of_eq (a := Value.none) (by first | rfl | (simp only [firstArgMember]; rfl)) ?_
 refine wpAny_newObj_type ?_ (by size_fits)
 simp only [raiseNew]
 apply wpAny_bind
 refine wpAny_handled ?_
 first | rw [show A.in1.handled = none from hh] | rw [hh]
 exact wpAny_bind (wpAny_pure (wpAny_throw (q _ _ (((Heap.SameBut.update ..).extBut.push _).push _) ⟨_, xav _ rfl, rfl⟩)))
structure ZAt (h : Heap) (z TI TO i1 i2 t1 t2 : Addr) (k : Nat) (xs ys : Array Value) (f : Value) : Prop where
 z : IsZip h z TI TO f
 ti : IsPair h TI (.ref i1) (.ref i2)
 to : ∃ a b, IsPair h TO a b
 i1 : h.IsTupleIter i1 t1 k
 i2 : h.IsTupleIter i2 t2 k
 t1 : h.IsTuple t1 xs
 t2 : h.IsTuple t2 ys
theorem ZAt.next {z TI TO i1 i2 t1 t2 : Addr} {k : Nat} {xs ys : Array Value} {x y : Value} {Q : Value -> Shared -> Prop} (D : ZipApart z TI TO i1 i2 t1 t2) (Z : ZAt s.heap z TI TO i1 i2 t1 t2 k xs ys .none) (hx : xs[k]? = some x) (hy : ys[k]? = some y)
  (q : ∀ g, ZAt g z TI TO i1 i2 t1 t2 (k + 1) xs ys (rawInt s.heap.objs.size) -> IsPair g s.heap.objs.size x y -> g.objs.size = s.heap.objs.size + 1 -> (∀ c o, c ≠ z -> c ≠ TO -> c ≠ i1 -> c ≠ i2 -> s.heap.get? c = some o -> g.get? c = some o) -> Q (.ref s.heap.objs.size) { s with heap := g }) :
  wpAny (model prog w) A (Builtin.«zip.__next__» ⟨[.ref z], []⟩) (fun fin s' => ∃ v, fin = .done (.ret v) /\ Q v s') E s := by
 obtain ⟨a, b, hTO⟩ := Z.to
 show wpAny _ _ (field (.ref z) 2 >>= _) _ _ _
 apply wpAny_bind
 refine wpAny_field Z.z rfl (x := .bool false) rfl ?_
 show wpAny _ _ (field (.ref z) 3 >>= _) _ _ _
 apply wpAny_bind
 refine wpAny_field Z.z rfl (x := .ref TI) rfl ?_
 apply wpAny_bind
 refine wpAny_seqItems Z.ti rfl ?_
 show wpAny _ _ (Builtin.SmallTypes.ownedTupleIsFree (.ref z) >>= _) _ _ _
 apply wpAny_bind
 unfold Builtin.SmallTypes.ownedTupleIsFree
 apply wpAny_bind
 refine wpAny_field Z.z rfl (x := .none) rfl (wpAny_pure ?_)
 simp only [if_true]
 apply wpAny_bind; apply wpAny_rule; apply wpAny_bind
 refine wpAny_field Z.z rfl (x := .ref TO) rfl ?_
 apply wpAny_bind
 refine wpAny_setField_rec Z.z (by simp) fun g1 z1 s1 => ?_
 have z1 : IsZip g1 z TI TO .ellipsis := z1
 apply wpAny_bind
 simp only [List.zipIdx_cons, List.zipIdx_nil, List.forIn_cons, List.forIn_nil]
 apply wpAny_bind; apply wpAny_bind; apply wpAny_onRaise
 show wpAny _ _ (Builtin.SmallTypes.nextOf (.ref i1) >>= _) _ _ _
 apply wpAny_bind
 refine zr1 (Z.i1.extBut s1.extBut D.i1z) (Z.t1.extBut s1.extBut D.l1z) hx fun g2 j2 s2 => wpAny_pure ?_
 have o2 : IsPair g2 TO a b := s2.extBut _ _ D.TOi1 (s1.extBut _ _ D.TOz hTO)
 apply wpAny_bind
 refine wpAny_seqItems o2 rfl ?_
 apply wpAny_bind
 refine wpAny_updateSeq_pair o2 fun g3 o3 s3 => ?_
 have o3 : IsPair g3 TO x b := o3
 apply wpAny_bind
 refine wpAny_letGo (wpAny_pure ?_)
 apply wpAny_bind; apply wpAny_bind; apply wpAny_onRaise
 show wpAny _ _ (Builtin.SmallTypes.nextOf (.ref i2) >>= _) _ _ _
 apply wpAny_bind
 have u3 : ∀ c o, c ≠ z -> c ≠ TO -> c ≠ i1 -> s.heap.get? c = some o -> g3.get? c = some o := fun c o n1 n2 n3 e => s3.extBut _ _ n2 (s2.extBut _ _ n3 (s1.extBut _ _ n1 e))
 refine zr1 (Z.i2.at fun o e => u3 _ o D.i2z D.TOi2.symm D.i12.symm e) (Z.t2.at fun o e => u3 _ o D.l2z D.l2TO D.l2i1 e) hy fun g4 j4 s4 => wpAny_pure ?_
 have o4 : IsPair g4 TO x b := s4.extBut _ _ D.TOi2 o3
 apply wpAny_bind
 refine wpAny_seqItems o4 rfl ?_
 apply wpAny_bind
 refine wpAny_updateSeq_pair o4 fun g5 o5 s5 => ?_
 have o5 : IsPair g5 TO x y := o5
 apply wpAny_bind
 refine wpAny_letGo (wpAny_pure (wpAny_pure ?_))
 apply wpAny_bind
 refine wpAny_seqItems o5 rfl ?_
 apply wpAny_bind
 refine wpAny_newTuple ?_
 have sz : g5.objs.size = s.heap.objs.size := s5.1.trans (s4.1.trans (s3.1.trans (s2.1.trans s1.1)))
 have z5 : IsZip g5 z TI TO .ellipsis := s5.extBut _ _ D.TOz.symm (s4.extBut _ _ D.i2z.symm (s3.extBut _ _ D.TOz.symm (s2.extBut _ _ D.i1z.symm z1)))
 have u5 : ∀ c o, c ≠ z -> c ≠ TO -> c ≠ i1 -> c ≠ i2 -> s.heap.get? c = some o -> g5.get? c = some o := fun c o n1 n2 n3 n4 e => s5.extBut _ _ n2 (s4.extBut _ _ n4 (u3 c o n1 n2 n3 e))
 have a5 : g5.IsTupleIter i1 t1 (k + 1) := j2.at fun o e => s5.extBut _ _ D.TOi1.symm (s4.extBut _ _ D.i12 (s3.extBut _ _ D.TOi1.symm e))
 have b5 : g5.IsTupleIter i2 t2 (k + 1) := j4.at fun o e => s5.extBut _ _ D.TOi2.symm e
 have lz : z < g5.objs.size := xab z5
 show wpAny _ _ (Builtin.SmallTypes.ownedTupleHandOut (.ref z) (.ref g5.objs.size) >>= _) _ _ _
 apply wpAny_bind
 unfold Builtin.SmallTypes.ownedTupleHandOut
 have z6 : IsZip (g5.push { cls := .type "tuple", data := .seq #[x, y] }) z TI TO .ellipsis := xaa _ z5
 apply wpAny_bind
 refine wpAny_setField_rec z6 (by simp) fun g7 z7 s7 => ?_
 have z7 : IsZip g7 z TI TO (rawInt g5.objs.size) := z7
 refine wpAny_setField_rec z7 (by simp) fun g8 z8 s8 => ?_
 have z8 : IsZip g8 z TI TO (rawInt g5.objs.size) := z8
 have up : ∀ c o, c ≠ z -> g5.get? c = some o -> g8.get? c = some o := fun c o n e => s8.extBut _ _ n (s7.extBut _ _ n (xaa _ e))
 have p8 : IsPair g8 g5.objs.size x y := s8.extBut _ _ (xb5 lz) (s7.extBut _ _ (xb5 lz) (xav _ rfl))
 have w8 : g8.objs.size = g5.objs.size + 1 := s8.1.trans (s7.1.trans (xbn ..))
 rw [sz] at z8 p8 w8
 refine wpAny_pure ⟨_, rfl, ?_⟩
 show Q (.ref g5.objs.size) _
 rw [sz]
 have nT : ∀ c o, s.heap.get? c = some o -> c ≠ z -> c ≠ TO -> c ≠ i1 -> c ≠ i2 -> g8.get? c = some o := fun c o e n1 n2 n3 n4 => up c o n1 (u5 c o n1 n2 n3 n4 e)
 exact q g8 ⟨z8, nT _ _ Z.ti D.TIz D.TITO D.TIi1 D.TIi2, ⟨_, _, up _ _ D.TOz o5⟩, a5.at fun o e => up _ o D.i1z e, b5.at fun o e => up _ o D.i2z e, Z.t1.at fun o e => nT _ o e D.l1z D.l1TO D.l1i1 D.l1i2, Z.t2.at fun o e => nT _ o e D.l2z D.l2TO D.l2i1 D.l2i2⟩ p8 w8 fun c o n1 n2 n3 n4 e => nT c o e n1 n2 n3 n4
theorem ZAt.last {z TI TO i1 i2 t1 t2 : Addr} {k : Nat} {xs ys : Array Value} {Q : Fin -> Shared -> Prop} (hh : A.handled = none) (D : ZipApart z TI TO i1 i2 t1 t2) (Z : ZAt s.heap z TI TO i1 i2 t1 t2 k xs ys .none) (hx : xs[k]? = none)
  (q : ∀ g e, (∀ c o, c ≠ z -> c ≠ TO -> c ≠ i1 -> c ≠ i2 -> s.heap.get? c = some o -> g.get? c = some o) -> (∃ o, g.get? e = some o /\ o.cls = .type "StopIteration") -> E (.ref e) { s with heap := g }) :
  wpAny (model prog w) A (Builtin.«zip.__next__» ⟨[.ref z], []⟩) Q E s := by
 show wpAny _ _ (field (.ref z) 2 >>= _) _ _ _
 apply wpAny_bind
 refine wpAny_field Z.z rfl (x := .bool false) rfl ?_
 show wpAny _ _ (field (.ref z) 3 >>= _) _ _ _
 apply wpAny_bind
 refine wpAny_field Z.z rfl (x := .ref TI) rfl ?_
 apply wpAny_bind
 refine wpAny_seqItems Z.ti rfl ?_
 show wpAny _ _ (Builtin.SmallTypes.ownedTupleIsFree (.ref z) >>= _) _ _ _
 apply wpAny_bind
 unfold Builtin.SmallTypes.ownedTupleIsFree
 apply wpAny_bind
 refine wpAny_field Z.z rfl (x := .none) rfl (wpAny_pure ?_)
 simp only [if_true]
 apply wpAny_bind; apply wpAny_rule; apply wpAny_bind
 refine wpAny_field Z.z rfl (x := .ref TO) rfl ?_
 apply wpAny_bind
 refine wpAny_setField_rec Z.z (by simp) fun g1 z1 s1 => ?_
 have z1 : IsZip g1 z TI TO .ellipsis := z1
 apply wpAny_bind
 simp only [List.zipIdx_cons, List.zipIdx_nil, List.forIn_cons, List.forIn_nil]
 apply wpAny_bind; apply wpAny_bind; apply wpAny_onRaise
 show wpAny _ _ (Builtin.SmallTypes.nextOf (.ref i1) >>= _) _ _ _
 apply wpAny_bind
 refine zmG hh (Z.i1.extBut s1.extBut D.i1z) (Z.t1.extBut s1.extBut D.l1z) hx fun g2 e s2 he => ?_
 obtain ⟨o, eo, co⟩ := he
 have z2 : IsZip g2 z TI TO .ellipsis := s2 _ _ D.i1z.symm z1
 have ez : e ≠ z := fun w => by subst w; rw [z2] at eo; cases eo; simp at co
 refine wpAny_setField_rec z2 (by simp) fun g3 _ s3 => ?_
 exact q g3 e (fun c o n1 _ n3 _ w => s3.extBut _ _ n1 (s2 _ _ n3 (s1.extBut _ _ n1 w))) ⟨o, s3.extBut _ _ ez eo, co⟩
theorem zvS {z TI TO i1 i2 t1 t2 : Addr} {k : Nat} {xs ys : Array Value} {x y : Value} {Q : Option Value -> Shared -> Prop} (D : ZipApart z TI TO i1 i2 t1 t2) (Z : ZAt s.heap z TI TO i1 i2 t1 t2 k xs ys .none) (hx : xs[k]? = some x) (hy : ys[k]? = some y)
  (q : ∀ g, ZAt g z TI TO i1 i2 t1 t2 (k + 1) xs ys (rawInt s.heap.objs.size) -> IsPair g s.heap.objs.size x y -> g.objs.size = s.heap.objs.size + 1 -> (∀ c o, c ≠ z -> c ≠ TO -> c ≠ i1 -> c ≠ i2 -> s.heap.get? c = some o -> g.get? c = some o) -> Q (some (.ref s.heap.objs.size)) { s with heap := g }) :
  wpAny (model prog w) A (pyNext (.ref z)) Q E s := by
 have T : s.TypeIs (.ref z) "zip" := ⟨_, Z.z, rfl⟩
 unfold pyNext
 apply wpAny_bind; apply wpAny_attempt
 refine wpAny_callSpecial?_slot (name := "__next__") T F.slot_zip_next ?_
 refine wpAny_call_entry F.slot_zip_next T F.entry_zip_next ?_ (F.args_zip_next_1 _)
 exact Z.next D hx hy fun g a1 a2 a3 a4 => wpAny_pure (q g a1 a2 a3 a4)
theorem zth {z TI TO i1 i2 t1 t2 : Addr} {k : Nat} {xs ys : Array Value} {Q : Option Value -> Shared -> Prop} (hh : A.handled = none) (D : ZipApart z TI TO i1 i2 t1 t2) (Z : ZAt s.heap z TI TO i1 i2 t1 t2 k xs ys .none) (hx : xs[k]? = none)
  (q : ∀ g, (∀ c o, c ≠ z -> c ≠ TO -> c ≠ i1 -> c ≠ i2 -> s.heap.get? c = some o -> g.get? c = some o) -> Q none { s with heap := g }) : wpAny (model prog w) A (pyNext (.ref z)) Q E s := by
 have T : s.TypeIs (.ref z) "zip" := ⟨_, Z.z, rfl⟩
 unfold pyNext
 apply wpAny_bind; apply wpAny_attempt
 refine wpAny_callSpecial?_slot (name := "__next__") T F.slot_zip_next ?_
 refine wpAny_call_entry F.slot_zip_next T F.entry_zip_next ?_ (F.args_zip_next_1 _)
 refine Z.last hh D hx fun g e hk he => ?_
 obtain ⟨o, ho, hc⟩ := he
 apply wpAny_bind
 exact wpAny_isInstance (T := "StopIteration") (b := true) ⟨o, ho, hc⟩ isSubtype_stop (wpAny_pure (q _ hk))
def ti0 (t : Addr) : Obj := { cls := .type "tuple_iterator", data := .fields #[.ref t, .int 0 0] }
def tp2 (a b : Value) : Obj := { cls := .type "tuple", data := .seq #[a, b] }
def zp0 (TI TO : Addr) : Obj := { cls := .type "zip", data := .fields #[.none, .bool false, .bool false, .ref TI, .ref TO] }
def zpH (h : Heap) (t1 t2 : Addr) : Heap :=
 ((((h.push (ti0 t1)).push (ti0 t2)).push (tp2 (.ref h.objs.size) (.ref (h.push (ti0 t1)).objs.size))).push (tp2 .none .none)).push (zp0 ((h.push (ti0 t1)).push (ti0 t2)).objs.size (((h.push (ti0 t1)).push (ti0 t2)).push (tp2 (.ref h.objs.size) (.ref (h.push (ti0 t1)).objs.size))).objs.size)
theorem zmH (t1 t2 : Addr) (xs ys : Array Value) : Meets (Builtin.«zip.__new__» ⟨[.type "zip", .ref t1, .ref t2], []⟩) (fun _ R s => s.heap.IsTuple t1 xs /\ s.heap.IsTuple t2 ys /\
  R (.ok (.ret (.ref ((((s.heap.push (ti0 t1)).push (ti0 t2)).push (tp2 (.ref s.heap.objs.size) (.ref (s.heap.push (ti0 t1)).objs.size))).push (tp2 .none .none)).objs.size))) { s with heap := zpH s.heap t1 t2 }) :=
 .of_wp fun prog w A R s h => by
  obtain ⟨hp, g, d, tk, os⟩ := s; obtain ⟨h1, h2, h⟩ := h
  have sub := sub_zip
  have L1 : Heap.IsTuple (Shared.heap ⟨hp, g, d, tk, os⟩) t1 xs := h1
  have L2 : Heap.IsTuple (Shared.heap ⟨hp.push { cls := .type "tuple_iterator", data := .fields #[.ref t1, .int 0 0] }, g, d, tk, os⟩) t2 ys := h2.at fun o e => xaa _ e
  wp_walk using wpAny_pyIter_tuple L1, wpAny_pyIter_tuple L2
  exact ⟨_, rfl, h⟩
theorem zoX {t1 t2 : Addr} {xs ys : Array Value} {Q : Value -> Shared -> Prop} (h1 : s.heap.IsTuple t1 xs) (h2 : s.heap.IsTuple t2 ys)
  (q : ∀ g, ZAt g (s.heap.objs.size + 4) (s.heap.objs.size + 2) (s.heap.objs.size + 3) s.heap.objs.size (s.heap.objs.size + 1) t1 t2 0 xs ys .none -> (∀ c o, s.heap.get? c = some o -> g.get? c = some o) -> Q (.ref (s.heap.objs.size + 4)) { s with heap := g }) :
  wpAny (model prog w) A (call (.type "zip") [.ref t1, .ref t2]) Q E s := by
 refine callType_new F.called_zip (by decide) (F.typeCall_zip_2 _ _) (F.newCall_zip_2 _ _) (fun obj => F.args_object_init_3 obj _ _) F.entry_zip_new (zmH t1 t2 xs ys) ⟨h1, h2, ?_⟩
 have a1 : (s.heap.push (ti0 t1)).objs.size = s.heap.objs.size + 1 := xbn ..
 have a2 : ((s.heap.push (ti0 t1)).push (ti0 t2)).objs.size = s.heap.objs.size + 2 := by rw [xbn, a1]
 have a3 : (((s.heap.push (ti0 t1)).push (ti0 t2)).push (tp2 (.ref s.heap.objs.size) (.ref (s.heap.push (ti0 t1)).objs.size))).objs.size = s.heap.objs.size + 3 := by rw [xbn, a2]
 have a4 : ((((s.heap.push (ti0 t1)).push (ti0 t2)).push (tp2 (.ref s.heap.objs.size) (.ref (s.heap.push (ti0 t1)).objs.size))).push (tp2 .none .none)).objs.size = s.heap.objs.size + 4 := by rw [xbn, a3]
 have k : ∀ c o, s.heap.get? c = some o -> (zpH s.heap t1 t2).get? c = some o := fun c o e => xaa _ (xaa _ (xaa _ (xaa _ (xaa _ e))))
 have b5 : (zpH s.heap t1 t2).get? (s.heap.objs.size + 4) = some (zp0 (s.heap.objs.size + 2) (s.heap.objs.size + 3)) := by
  unfold zpH; rw [a2, a3]; exact xb3 a4.symm rfl
 have b4 : (zpH s.heap t1 t2).get? (s.heap.objs.size + 3) = some (tp2 .none .none) := xaa _ (xb3 a3.symm rfl)
 have b3 : (zpH s.heap t1 t2).get? (s.heap.objs.size + 2) = some (tp2 (.ref s.heap.objs.size) (.ref (s.heap.objs.size + 1))) := xaa _ (xaa _ (by rw [a1]; exact xb3 a2.symm rfl))
 have b2 : (zpH s.heap t1 t2).get? (s.heap.objs.size + 1) = some (ti0 t2) := xaa _ (xaa _ (xaa _ (xb3 a1.symm rfl)))
 have b1 : (zpH s.heap t1 t2).get? s.heap.objs.size = some (ti0 t1) := xaa _ (xaa _ (xaa _ (xaa _ (xav _ rfl))))
 show _ /\ _
 rw [a4]
 exact ⟨⟨_, b5, rfl⟩, q _ ⟨b5, b3, ⟨_, _, b4⟩, ⟨_, b1, rfl, rfl⟩, ⟨_, b2, rfl, rfl⟩, h1.at fun o e => k _ o e, h2.at fun o e => k _ o e⟩ k⟩
end
section
variable {X : Cx} {pins : List (Addr × Obj)} {σ : St} {H : Hp} {s : Shared} {h' : Heap}
theorem Inv.turnedL {t' : Nat} {ch : List Addr} (I : Inv X pins σ H s) (k : ∀ b o, b ∉ ch -> s.heap.get? b = some o -> h'.get? b = some o) (f : ∀ b ∈ ch, zml X pins H b) : Inv X pins σ H { s with heap := h', toks := t' } := by
 have nit : ∀ b u, H b = some u -> b ∉ ch := fun b u e z => by rw [(f b z).1] at e; cases e
 refine I.step (g' := s.gens) (d' := s.drawn) (ch := ch) (fun b hb => ?_) (fun b o _ _ hc e _ => k b o hc e) (fun b o _ _ hc e _ => ⟨o.slots, k b o hc e⟩) (fun _ _ _ _ n => n) (fun b o hc e => ⟨o, k b o hc e⟩) (fun _ _ e => e) (fun _ _ _ e => e) (fun b ps e => ⟨#[], by rw [e]; simp⟩) (fun m hm => ?_) (fun b u e => ?_) I.bare
 ·obtain ⟨_, f1, _, f3, f4, f5⟩ := f b hb
  exact ⟨f3, f1, f4, f5⟩
 ·obtain ⟨o, es, ep, ho, r⟩ := hm
  exact ⟨o, es, ep, k _ o (fun z => (f _ z).2.1 rfl) ho, r⟩
 ·refine (I.hok b u e).stay (fun c v hc q => k c v ?_ q) (fun _ q => q) fun _ _ q => q
  rcases hc with z | z
  ·rw [z]; exact nit b u e
  ·exact nit c _ z
end
def Itz (K : xFg) (a b : Addr) : It :=
 ⟨fun i H => ∃ xs ys x y, SqT K H a xs /\ SqT K H b ys /\ xs[i]? = some x /\ ys[i]? = some y,
  fun i H v H' => ∃ T x y, v = .ref T /\ H T = none /\ H' = upd H T (.tup [x, y]) /\ (∀ xs, SqT K H a xs -> xs[i]? = some x) /\ ∀ ys, SqT K H b ys -> ys[i]? = some y,
  fun i H => ∃ xs ys, SqT K H a xs /\ SqT K H b ys /\ xs.length <= i⟩
structure ZT (z TI TO i1 i2 a b : Addr) (k : Nat) (h : Heap) : Prop where
 z : IsZip h z TI TO .none
 ti : IsPair h TI (.ref i1) (.ref i2)
 to : ∃ u v, IsPair h TO u v
 i1 : h.IsTupleIter i1 a k
 i2 : h.IsTupleIter i2 b k
theorem zqq {P : Program} {w : World} {K : xFg} {es : List Expr} {ct : Nat} {ps : Pos} {z TI TO i1 i2 a b : Addr} (D : ZipApart z TI TO i1 i2 a b) : zqR P w K (.Tuple es ct ps) (Itz K a b) [z, TI, TO, i1, i2] z (ZT z TI TO i1 i2 a b) where
 mem := by simp
 obj := fun i h st c hc => by
  simp only [xae, xaq, or_false] at hc
  rcases hc with rfl | rfl | rfl | rfl | rfl
  ·exact ⟨_, st.z, fun v q => by cases q⟩
  ·exact ⟨_, st.ti, fun v q => by cases q⟩
  ·obtain ⟨u, v, e⟩ := st.to
   exact ⟨_, e, fun v q => by cases q⟩
  ·obtain ⟨o, e, c, d⟩ := st.i1
   exact ⟨o, e, fun v q => by rw [d] at q; cases q⟩
  ·obtain ⟨o, e, c, d⟩ := st.i2
   exact ⟨o, e, fun v q => by rw [d] at q; cases q⟩
 keep := fun i h h' st k => by
  obtain ⟨u, v, e⟩ := st.to
  exact ⟨k _ (by simp) _ st.z, k _ (by simp) _ st.ti, ⟨u, v, k _ (by simp) _ e⟩, st.i1.at fun o e => k _ (by simp) o e, st.i2.at fun o e => k _ (by simp) o e⟩
 item := by
  intro X hP hw hK hc i pins s σ H E I hf st hg
  subst hP hw hK
  obtain ⟨xs, ys, x, y, h1, h2, hx, hy⟩ := hg
  obtain ⟨its, rv, p, _⟩ := I.tuple h1
  obtain ⟨jts, rw', p', _⟩ := I.tuple h2
  obtain ⟨u, hu, ru⟩ := rv.get hx
  obtain ⟨v, hv, rr⟩ := rw'.get hy
  have Z : ZAt s.heap z TI TO i1 i2 a b i its.toArray jts.toArray .none := ⟨st.z, st.ti, st.to, st.i1, st.i2, p, p'⟩
  refine zvS D Z (x := u) (y := v) (by simpa using hu) (by simpa using hv) fun g Zg pg sg kg => ⟨_, rfl, ?_⟩
  refine wpAny_letOwnedTupleGo_zip Zg.z fun g' zg sb => ?_
  have lz : z < s.heap.objs.size := xab st.z
  have I1 : Inv X pins σ (upd H s.heap.objs.size (.tup [x, y])) { s with heap := s.heap.push (tp2 u v), toks := s.toks } :=
   I.laid (fun _ _ q => xaa _ q) (xag _) ⟨by show 2 <= sizeLine; decide, [u, v], .cons ru (.cons rr .nil), ⟨_, xav _ rfl, rfl, 0, rfl⟩⟩
  have fr : ∀ c ∈ [z, TI, TO, i1, i2], c ≠ s.heap.objs.size := fun c hc e => by
   simp only [xae, xaq, or_false] at hc
   obtain ⟨u, v, eTO⟩ := st.to
   obtain ⟨o1, q1, _⟩ := st.i1
   obtain ⟨o2, q2, _⟩ := st.i2
   rcases hc with rfl | rfl | rfl | rfl | rfl
   ·exact xan lz e
   ·exact xan (xab st.ti) e
   ·exact xan (xab eTO) e
   ·exact xan (xab q1) e
   ·exact xan (xab q2) e
  have I2 : Inv X pins σ (upd H s.heap.objs.size (.tup [x, y])) { s with heap := g', toks := s.toks } := by
   refine Inv.turnedL (s := { s with heap := s.heap.push (tp2 u v), toks := s.toks }) (h' := g') (t' := s.toks) (ch := [z, TI, TO, i1, i2]) I1 (fun c o hc e => ?_) fun c hc => ?_
   ·have cz : c ≠ z := fun q => hc (by simp [q])
    rcases xc7 e with ⟨rfl, rfl⟩ | e
    ·exact sb.extBut _ _ cz pg
    ·exact sb.extBut _ _ cz (kg c o cz (fun q => hc (by simp [q])) (fun q => hc (by simp [q])) (fun q => hc (by simp [q])) e)
   ·exact ⟨by rw [zak (fr c hc)]; exact (hf c hc).1, (hf c hc).2⟩
  obtain ⟨u', v', eTO⟩ := Zg.to
  refine ⟨.ref s.heap.objs.size, _, I2, rfl, ⟨_, x, y, rfl, I.fresh, rfl, fun zs hz => by rw [I.tuple_inj hz h1]; exact hx, fun zs hz => by rw [I.tuple_inj hz h2]; exact hy⟩, ⟨zg, sb.extBut _ _ D.TIz Zg.ti, ⟨u', v', sb.extBut _ _ D.TOz eTO⟩, Zg.i1.at fun o e => sb.extBut _ _ D.i1z e, Zg.i2.at fun o e => sb.extBut _ _ D.i2z e⟩, fun c hc => by rw [zak (fr c hc)]; exact (hf c hc).1⟩
 done := by
  intro X hP hw hK hc i pins s σ H E I hf st hg
  subst hP hw hK
  obtain ⟨xs, ys, h1, h2, hx⟩ := hg
  obtain ⟨its, rv, p, _⟩ := I.tuple h1
  obtain ⟨jts, rw', p', _⟩ := I.tuple h2
  have Z : ZAt s.heap z TI TO i1 i2 a b i its.toArray jts.toArray .none := ⟨st.z, st.ti, st.to, st.i1, st.i2, p, p'⟩
  have hl := rv.length
  refine zth (I.ok.hd hc) D Z (by simp; omega) fun g kg => ⟨rfl, I.turnedL (t' := s.toks) (ch := [z, TI, TO, i1, i2]) (fun c o hc e => ?_) hf⟩
  exact kg c o (fun q => hc (by simp [q])) (fun q => hc (by simp [q])) (fun q => hc (by simp [q])) (fun q => hc (by simp [q])) e
 self := fun _ _ _ _ _ st h => wpAny_pyIter_zip st.z h
end L2
namespace DL
open L2 PyProof.Rows
section
variable {X : Cx} {E : XK}
def zpw (xs ys : List D) : List D := List.zipWith (fun x y => .tup [x, y]) xs ys
theorem zeG.zip {K : xFg} {mg : Str -> Option Value} {G : Hp} {a b : Addr} {vs us : List V} {xs ys : List D} (h : SqT K G a vs) (h' : SqT K G b us) (r : Reps K mg G xs vs) (r' : Reps K mg G ys us) (hl : xs.length = ys.length) : zeG K mg (Itz K a b) G (zpw xs ys) := by
 have ln : (zpw xs ys).length = vs.length := by unfold zpw; rw [List.length_zipWith, <- hl, Nat.min_self, r.length]
 refine ⟨fun H e => ⟨vs, us, zaF.sqT e h, zaF.sqT e h', by rw [ln]; exact xag _⟩, fun H i d e hd => ?_⟩
 obtain ⟨x, y, hx, hy, rfl⟩ : ∃ x y, xs[i]? = some x /\ ys[i]? = some y /\ d = .tup [x, y] := by
  unfold zpw at hd
  rw [List.getElem?_zipWith] at hd
  cases ex : xs[i]? with
  | none => rw [ex] at hd; cases hd
  | some x =>
   cases ey : ys[i]? with
   | none => rw [ex, ey] at hd; cases hd
   | some y => rw [ex, ey] at hd; exact ⟨x, y, rfl, rfl, (Option.some.inj hd).symm⟩
 obtain ⟨v, hv, rv⟩ := r.get hx
 obtain ⟨u, hu, ru⟩ := r'.get hy
 refine ⟨⟨vs, us, v, u, zaF.sqT e h, zaF.sqT e h', hv, hu⟩, ?_⟩
 rintro _ H' ⟨T, v', u', rfl, hn, rfl, q1, q2⟩ G1 e1 e2
 have z1 := q1 _ (zaF.sqT e h)
 have z2 := q2 _ (zaF.sqT e h')
 rw [hv] at z1; cases z1
 rw [hu] at z2; cases z2
 have st := zbh.pub (o := .tup [v, u]) e2 hn
 exact ⟨upd G1 T (.tup [v, u]), st, T, [v, u], rfl, SqT.of zan, .cons (rv.mono (e1.trans st.g)) (.cons (ru.mono (e1.trans st.g)) rfl)⟩
end
end DL
namespace DL
open PySem.Spec PyProof.Rows L2
variable {K : xFg} {mg : Str -> Option Value} {X : Cx} {e : Expr} {es : List Expr} {p pos : Pos}
theorem zfZ : ∀ l : List Addr, zbi (l.map V.ref) (l.map Value.ref)
 | [] => .nil
 | p :: l => .cons rfl (zfZ l)
theorem zqr {G : Hp} {a : Addr} {its : Array Value} {n : Nat} {sl : Array (Option Value)} {l : List Addr} {ds : List D} (lk : K.lookup a = some ⟨.type "list", none, .seq its n, sl⟩) (h : its.toList = l.map Value.ref) (hz : l.length <= 100) (hr : Reps K mg G ds (l.map V.ref)) : Rep K mg G (.lst ds) (.ref a) := by
 refine ⟨a, _, rfl, .inr ⟨_, its, n, lk, rfl, rfl, rfl, ?_, by rw [h]; exact zfZ l⟩, hr⟩
 rw [<- xas, h, xad]
 exact xa3 hz (by decide)
end DL
section
namespace SetT
open PySem.SetTable
theorem go_ok2 {t : SetTable} (hd : t.dummies = #[]) (hashAt : Nat -> Int) (h : Int) : ∀ (k n : Nat) (p : Probe), p.dummy = none -> t.slot (iter t k p).j = .empty -> (∀ m, m < k -> t.slot (iter t m p).j ≠ .empty) -> k < n ->
  SetTable.probe.go t hashAt h n p = some (.empty (iter t k p).j none) \/ ∃ j i m, m < k /\ SetTable.probe.go t hashAt h n p = some (.candidate j i (iter t (m + 1) p)) /\ t.slot j = .live i /\ t.place[i]? = some j := by
 intro k
 induction k with
 | zero =>
  intro n p hp he _ hn
  obtain ⟨n, rfl⟩ : ∃ m, n = m + 1 := ⟨n - 1, by omega⟩
  have he : t.slot p.j = .empty := he
  left
  unfold SetTable.probe.go
  rw [he, hp]; rfl
 | succ k ih =>
  intro n p hp he hb hn
  obtain ⟨n, rfl⟩ : ∃ m, n = m + 1 := ⟨n - 1, by omega⟩
  rcases slot_cases hd p.j with e | ⟨i, e, hi⟩
  ·exact absurd e (hb 0 (by omega))
  ·by_cases hh : (hashAt i == h) = true
   ·refine .inr ⟨p.j, i, 0, by omega, ?_, e, hi⟩
    unfold SetTable.probe.go
    rw [e]
    simp only [hh, if_true]
    rfl
   ·rcases ih n (t.advance p) (by rw [adv_dummy]; exact hp) he (fun m hm => hb (m + 1) (by omega)) (by omega) with q | ⟨j, i', m, hm, q, q2, q3⟩
    ·left
     unfold SetTable.probe.go
     rw [e]
     simp only [hh, if_false]
     exact q
    ·refine .inr ⟨j, i', m + 1, by omega, ?_, q2, q3⟩
     unfold SetTable.probe.go
     rw [e]
     simp only [hh, if_false]
     exact q
theorem go_there {t : SetTable} (hd : t.dummies = #[]) (hashAt : Nat -> Int) (h : Int) {i0 : Nat} (h0 : hashAt i0 = h) : ∀ (k n : Nat) (p : Probe), t.slot (iter t k p).j = .live i0 -> (∀ m, m < k -> t.slot (iter t m p).j ≠ .empty) -> k < n ->
  ∃ i m, m <= k /\ SetTable.probe.go t hashAt h n p = some (.candidate (iter t m p).j i (iter t (m + 1) p)) /\ t.slot (iter t m p).j = .live i /\ t.place[i]? = some (iter t m p).j := by
 intro k
 induction k with
 | zero =>
  intro n p he _ hn
  obtain ⟨n, rfl⟩ : ∃ m, n = m + 1 := ⟨n - 1, by omega⟩
  have he : t.slot p.j = .live i0 := he
  refine ⟨i0, 0, by omega, ?_, he, ?_⟩
  ·unfold SetTable.probe.go
   rw [he]
   simp only [h0, beq_self_eq_true, if_true]
   rfl
  ·rcases slot_cases hd p.j with e | ⟨i, e, hi⟩
   ·rw [e] at he; cases he
   ·rw [e] at he; cases he; exact hi
 | succ k ih =>
  intro n p he hb hn
  obtain ⟨n, rfl⟩ : ∃ m, n = m + 1 := ⟨n - 1, by omega⟩
  rcases slot_cases hd p.j with e | ⟨i, e, hi⟩
  ·exact absurd e (hb 0 (by omega))
  ·by_cases hh : (hashAt i == h) = true
   ·refine ⟨i, 0, by omega, ?_, e, hi⟩
    unfold SetTable.probe.go
    rw [e]
    simp only [hh, if_true]
    rfl
   ·obtain ⟨i', m, hm, q, q2, q3⟩ := ih n (t.advance p) he (fun m hm => hb (m + 1) (by omega)) (by omega)
    refine ⟨i', m + 1, by omega, ?_, q2, q3⟩
    unfold SetTable.probe.go
    rw [e]
    simp only [hh, if_false]
    exact q
theorem zoY {xs : Array Nat} (hs : xs.toList.Pairwise (· < ·)) {i k a b : Nat} (h : i < k) (ha : xs[i]? = some a) (hb : xs[k]? = some b) : a < b := by
 rw [<- xax] at ha hb
 obtain ⟨h1, rfl⟩ := xah.mp ha
 obtain ⟨h2, rfl⟩ := xah.mp hb
 exact xcp.mp hs i k h1 h2 h
theorem zqs {xs : Array Nat} {j : Nat} (hs : xs.toList.Pairwise (· < ·)) : ∀ (n lo hi : Nat), hi - lo <= n -> lo <= hi -> hi <= xs.size -> (∀ i v, i < lo -> xs[i]? = some v -> v < j) -> (∀ i v, hi <= i -> xs[i]? = some v -> j <= v) ->
  SetTable.below.go xs j n lo hi <= xs.size /\ (∀ i v, i < SetTable.below.go xs j n lo hi -> xs[i]? = some v -> v < j) /\ (∀ i v, SetTable.below.go xs j n lo hi <= i -> xs[i]? = some v -> j <= v) := by
 intro n
 induction n with
 | zero =>
  intro lo hi h1 h2 h3 h4 h5
  unfold SetTable.below.go
  exact ⟨by omega, h4, fun i v hi' => h5 i v (by omega)⟩
 | succ n ih =>
  intro lo hi h1 h2 h3 h4 h5
  unfold SetTable.below.go
  by_cases hl : lo < hi
  ·rw [if_pos hl]
   simp only
   have hm : (lo + hi) / 2 < xs.size := by omega
   have hg : xs[(lo + hi) / 2]? = some xs[(lo + hi) / 2] := xbg hm
   have hd : xs.getD ((lo + hi) / 2) j = xs[(lo + hi) / 2] := by rw [xaw, hg]; rfl
   rw [hd]
   by_cases hx : xs[(lo + hi) / 2] < j
   ·rw [if_pos hx]
    refine ih _ _ (by omega) (by omega) h3 (fun i v hi' hv => ?_) h5
    by_cases e : i = (lo + hi) / 2
    ·subst e; rw [hg] at hv; cases hv; exact hx
    ·exact Nat.lt_trans (zoY hs (show i < (lo + hi) / 2 by omega) hv hg) hx
   ·rw [if_neg hx]
    refine ih _ _ (by omega) (by omega) (by omega) h4 (fun i v hi' hv => ?_)
    by_cases e : i = (lo + hi) / 2
    ·subst e; rw [hg] at hv; cases hv; omega
    ·have := zoY hs (show (lo + hi) / 2 < i by omega) hg hv
     omega
  ·rw [if_neg hl]
   exact ⟨by omega, h4, fun i v hi' => h5 i v (by omega)⟩
theorem below_ok {xs : Array Nat} (j : Nat) (hs : xs.toList.Pairwise (· < ·)) : below xs j <= xs.size /\ (∀ i v, i < below xs j -> xs[i]? = some v -> v < j) /\ (∀ i v, below xs j <= i -> xs[i]? = some v -> j <= v) :=
 zqs hs xs.size 0 xs.size (by omega) (by omega) (by omega) (fun i v h => absurd h (by omega)) fun i v h hv => by
  have := (xa8.mp hv).1
  omega
theorem slot_live {t : SetTable} (hs : t.place.toList.Pairwise (· < ·)) {i j : Nat} (hp : t.place[i]? = some j) : t.slot j = .live i := by
 obtain ⟨b1, b2, b3⟩ := below_ok j hs
 have e : below t.place j = i := by
  by_cases h1 : i < below t.place j
  ·have := b2 i j h1 hp; omega
  ·by_cases h2 : below t.place j < i
   ·have hlt : below t.place j < t.place.size := by have := (xa8.mp hp).1; omega
    have hg : t.place[below t.place j]? = some t.place[below t.place j] := xbg hlt
    have := b3 _ _ (xag _) hg
    have := zoY hs h2 hg hp
    omega
   ·omega
 unfold slot
 simp only
 rw [e, hp, if_pos (beq_self_eq_true _)]
theorem put_srt {xs : Array Nat} {j : Nat} (hs : xs.toList.Pairwise (· < ·)) (hj : ∀ i : Nat, xs[i]? ≠ some j) : (insertAt xs (below xs j) j).toList.Pairwise (· < ·) := by
 obtain ⟨b1, b2, b3⟩ := below_ok j hs
 rw [toList_insertAt, List.pairwise_append]
 refine ⟨hs.sublist (List.take_sublist _ _), List.pairwise_cons.mpr ⟨fun x hx => ?_, hs.sublist (List.drop_sublist _ _)⟩, fun x hx y hy => ?_⟩
 ·obtain ⟨i, hi, rfl⟩ := xbk hx
  have e : xs[below xs j + i]? = some (xs.toList.drop (below xs j))[i] := by
   rw [<- xax, <- List.getElem?_drop, xao hi]
  have := b3 _ _ (by omega) e
  have : (xs.toList.drop (below xs j))[i] ≠ j := fun z => hj _ (by rw [e, z])
  omega
 ·have hx' : x < j := by
   obtain ⟨i, hi, rfl⟩ := xbk hx
   rw [xa5] at hi
   have e : xs[i]? = some (xs.toList.take (below xs j))[i] := by
    rw [<- xax, List.getElem_take, xao]
   exact b2 _ _ (by omega) e
  rcases xae.mp hy with rfl | hy
  ·exact hx'
  ·obtain ⟨i, hi, rfl⟩ := xbk hy
   have e : xs[below xs j + i]? = some (xs.toList.drop (below xs j))[i] := by
    rw [<- xax, <- List.getElem?_drop, xao hi]
   have := b3 _ _ (by omega) e
   omega
theorem zip_put {α β : Type} {as : Array α} {bs : Array β} {p : Nat} {x : α} {y : β} (hl : as.size = bs.size) (hp : p <= as.size) {z : α × β} : z ∈ (insertAt as p x).toList.zip (insertAt bs p y).toList ↔ z = (x, y) \/ z ∈ as.toList.zip bs.toList := by
 rw [toList_insertAt, toList_insertAt, List.zip_append (by rw [xa5, xa5, xas, xas, hl]), List.zip_cons_cons, xbd, xae]
 have e : as.toList.zip bs.toList = (as.toList.take p).zip (bs.toList.take p) ++ (as.toList.drop p).zip (bs.toList.drop p) := by
  rw [<- List.zip_append (by rw [xa5, xa5, xas, xas, hl]), List.take_append_drop, List.take_append_drop]
 rw [e, xbd]
 constructor
 ·rintro (h | h | h)
  ·exact .inr (.inl h)
  ·exact .inl h
  ·exact .inr (.inr h)
 ·rintro (h | h | h)
  ·exact .inr (.inl h)
  ·exact .inl h
  ·exact .inr (.inr h)
theorem iter_mask {t t' : SetTable} (h : t'.mask = t.mask) : ∀ (k : Nat) (p : Probe), iter t' k p = iter t k p
 | 0, _ => rfl
 | k + 1, p => by
  show iter t' k (t'.advance p) = iter t k (t.advance p)
  have : t'.advance p = t.advance p := by unfold advance; rw [h]
  rw [this, iter_mask h k]
theorem start_mask {t t' : SetTable} (h : t'.mask = t.mask) (hh : Int) : t'.probeStart hh = t.probeStart hh := by unfold probeStart; rw [h]
theorem first_empty {t : SetTable} (p : Probe) {k : Nat} (h : t.slot (iter t k p).j = .empty) : ∃ k0, k0 <= k /\ t.slot (iter t k0 p).j = .empty /\ ∀ m, m < k0 -> t.slot (iter t m p).j ≠ .empty := by
 induction k using Nat.strongRecOn with
 | _ k ih =>
  by_cases hx : ∃ m, m < k /\ t.slot (iter t m p).j = .empty
  ·obtain ⟨m, h1, h2⟩ := hx
   obtain ⟨k0, a, b, c⟩ := ih m h1 h2
   exact ⟨k0, by omega, b, c⟩
  ·exact ⟨k, xag _, h, fun m hm e => hx ⟨m, hm, e⟩⟩
theorem relaid_found (t : SetTable) (hashes : Array Int) {n : Nat} (hn : hashes.size = n) (h : n <= 32) : ∃ t' order, t.relaid hashes 20 = some (t', order) /\ t'.mask = 31 /\ t'.dummies = #[] /\ t'.place.size = n /\ order.size = n /\ (∀ k ∈ order.toList, k < n) /\ t'.place.toList.Pairwise (· < ·) /\
  ∀ c, c < n -> ∃ (i j m : Nat), order[i]? = some c /\ t'.place[i]? = some j /\ m < 10 * turns t'.mask /\ (iter t' m (t'.probeStart (hashes.getD c 0))).j = j /\ ∀ m', m' < m -> t'.slot (iter t' m' (t'.probeStart (hashes.getD c 0))).j ≠ .empty := by
 obtain ⟨t', order, r1, r2, r3, r4, r5, r6⟩ := znK t hashes hn h
 refine ⟨t', order, r1, r2, r3, r4, r5, r6, ?_⟩
 have e0 : sizeAbove 20 - 1 = 31 := by decide
 unfold relaid at r1
 rw [e0] at r1
 unfold laid at r1
 cases hl : layClean 31 hashes with
 | none => rw [hl] at r1; cases r1
 | some o =>
  rw [hl] at r1
  have r1 := Option.some.inj r1
  have rt := (congrArg Prod.fst r1).symm
  have ro := (congrArg Prod.snd r1).symm
  simp only at rt ro
  have pl : t'.place = (((List.range 32).filterMap fun j => (o.getD j none).map (j, ·)).map (·.1)).toArray := by rw [rt]
  have srt : t'.place.toList.Pairwise (· < ·) := by
   rw [pl, xda]
   exact znM _ _ List.pairwise_lt_range
  refine ⟨srt, ?_⟩
  unfold layClean at hl
  rw [<- Array.foldl_toList] at hl
  obtain ⟨⟨o', k'⟩, hl1, hl2⟩ := xb0.mp hl
  have hl2 : o' = o := hl2
  subst hl2
  have m0 : ∀ P : Nat -> Prop, P 31 -> P t'.mask := fun P hP => by rw [r2]; exact hP
  obtain ⟨os, L⟩ := zji (t := t') (fun c => hashes.getD c 0) hashes.toList (Array.replicate 32 none) o' 0 k' (by rw [r2]; simp) (fun i hi => by
   rw [xbo, xaw, xax]
   rw [xas] at hi
   rw [xbg hi]; rfl) (fun c hc => absurd hc (by omega)) (by rw [r2]; exact hl1)
  rw [xbo, xas, hn] at L
  have tk : ∀ j, j <= t'.mask -> (o'.getD j none).isSome = true -> t'.slot j ≠ .empty := fun j hj hs => by
   obtain ⟨b, hb⟩ := xbb.mp hs
   have := zq4 (f := fun j => o'.getD j none) (l := List.range 32) (xa7.mpr (by omega)) hb
   obtain ⟨i, hi, ei⟩ := xbk this
   have : t'.place[i]? = some j := by
    rw [pl, xcb, xbz, xao hi, ei]; rfl
   rw [slot_live srt this]
   exact fun z => by cases z
  intro c hc
  obtain ⟨j, j1, j2, m, m1, m2, m3⟩ := L c hc
  have := zq4 (f := fun j => o'.getD j none) (l := List.range 32) (xa7.mpr (by omega)) j2
  obtain ⟨i, hi, ei⟩ := xbk this
  refine ⟨i, j, m, ?_, ?_, m1, m2, fun m' hm => tk _ (ziw _ _) (m3 m' hm)⟩
  ·rw [ro, xcb, xbz, xao hi, ei]; rfl
  ·rw [pl, xcb, xbz, xao hi, ei]; rfl
end SetT
namespace DL
open L2 PyProof.Rows
section
variable {prog : Program} {w : World} {A : Around} {E : Value -> Shared -> Prop} {s : Shared}
structure zkz (prog : Program) (w : World) (h : Heap) (a : Addr) (o : Obj) (es : Array (Int × Value)) (ep : Nat) (t : SetTable) (kss : List (List Int)) : Prop where
 get : h.get? a = some o
 ex : o.ExactSet
 dat : o.data = .set es ep t
 dm : t.dummies = #[]
 pl : t.place.size = es.size
 msk : (t.mask = 7 /\ es.size <= 4) \/ (t.mask = 31 /\ es.size <= 18)
 srt : t.place.toList.Pairwise (· < ·)
 n : es.size = kss.length
 el : ∀ e ∈ es.toList, ∃ c ls, e.2 = .ref c /\ IsTupleKey (intKind prog w) h ls c /\ ls ∈ kss
 all : ∀ ls ∈ kss, ∃ c j k, ((tupleKeyHash (intKind prog w) ls, Value.ref c), j) ∈ es.toList.zip t.place.toList /\ IsTupleKey (intKind prog w) h ls c /\ k < 10 * SetTable.turns t.mask /\ (SetT.iter t k (t.probeStart (tupleKeyHash (intKind prog w) ls))).j = j /\ ∀ m, m < k -> t.slot (SetT.iter t m (t.probeStart (tupleKeyHash (intKind prog w) ls))).j ≠ .empty
variable {h : Heap} {a : Addr} {o : Obj} {es : Array (Int × Value)} {ep : Nat} {t : SetTable} {kss : List (List Int)}
theorem zkz.fits (S : zkz prog w h a o es ep t kss) : t.fits es.size = true := by
 unfold SetTable.fits SetTable.fill
 rw [S.pl, S.dm, xa0, decide_eq_true_eq]
 refine ⟨beq_self_eq_true _, ?_⟩
 show es.size + 0 <= t.mask
 rcases S.msk with ⟨h1, h2⟩ | ⟨h1, h2⟩ <;> omega
theorem zkz.odd (S : zkz prog w h a o es ep t kss) : t.gaveWay = false := by
 unfold SetTable.gaveWay
 rcases S.msk with ⟨h1, h2⟩ | ⟨h1, h2⟩ <;> rw [h1] <;> rfl
theorem zqt {ks : List Int} {b : Addr} {Q : SetFound -> Shared -> Prop} (S : zkz prog w s.heap a o es ep t kss) (hk : IsTupleKey (intKind prog w) s.heap ks b) (hu : A.units < cLine) (hh : Int) {i0 j0 : Nat} {c0 : Addr} (z1 : es[i0]? = some (hh, .ref c0)) (z2 : t.place[i0]? = some j0) (z3 : IsTupleKey (intKind prog w) s.heap ks c0) (q : Q (.there none) s) :
  ∀ (k fuel : Nat) (stand : Option SetTable.Probe), (SetT.iter t k (stand.getD (t.probeStart hh))).j = j0 -> (∀ m, m < k -> t.slot (SetT.iter t m (stand.getD (t.probeStart hh))).j ≠ .empty) -> k < 10 * SetTable.turns t.mask -> k < fuel -> wpAny (model prog w) A (setSearchFrom a (.ref b) hh true fuel stand) Q E s := by
 intro k
 induction k using Nat.strongRecOn with
 | _ k ih =>
  intro fuel stand he hb hk1 hk2
  obtain ⟨f, rfl⟩ : ∃ f, fuel = f + 1 := ⟨fuel - 1, by omega⟩
  have l0 := SetT.slot_live S.srt z2
  unfold setSearchFrom
  refine wpAny_bind (wpAny_setState_of S.get S.dat S.fits ?_)
  dsimp only
  rw [S.odd, if_neg (by decide)]
  have key2 : ∀ ha X, ha i0 = hh -> t.probe ha hh (stand.getD (t.probeStart hh)) = X -> ∃ i m, m <= k /\ X = some (.candidate (SetT.iter t m (stand.getD (t.probeStart hh))).j i (SetT.iter t (m + 1) (stand.getD (t.probeStart hh)))) /\ t.slot (SetT.iter t m (stand.getD (t.probeStart hh))).j = .live i /\ t.place[i]? = some (SetT.iter t m (stand.getD (t.probeStart hh))).j := fun ha X h0 z => by
   subst z
   exact SetT.go_there S.dm ha hh h0 k (10 * SetTable.turns t.mask) (stand.getD (t.probeStart hh)) (by rw [he]; exact l0) hb hk1
  generalize hX : t.probe _ hh (stand.getD (t.probeStart hh)) = X
  obtain ⟨i, m, hm, rfl, hl, hp⟩ := key2 _ _ (by show (Option.map (fun x => x.fst) es[i0]?).getD 0 = hh; rw [z1]; rfl) hX
  dsimp only
  have hi : i < es.size := by
   have := (xa8.mp hp).1
   rw [S.pl] at this
   exact this
  have pre : ∀ {mm : Sem SetFound}, wpAny (model prog w) A mm Q E s -> wpAny (model prog w) A (if (!t.led) = true then do
    let l <- searchCouldBeSeen (Value.ref b) (List.map (fun x => x.snd) (Array.filter (fun x => x.fst == hh) es).toList)
    if l = true then do
     unsupported "set:the-search-would-show-the-table"
     mm
    else mm
   else mm) Q E s := by
   intro mm hmm
   by_cases hled : (!t.led) = true
   ·rw [if_pos hled]
    refine wpAny_bind (zoU hk (fun v hv => ?_) ?_)
    ·obtain ⟨x, hx, rfl⟩ := xbf.mp hv
     rw [Array.toList_filter] at hx
     obtain ⟨c, ls, h1, h2, _⟩ := S.el x (xbv.mp hx).1
     exact ⟨c, ls, h1, h2⟩
    ·rw [if_neg (by decide)]
     exact hmm
   ·rw [if_neg hled]
    exact hmm
  refine pre ?_
  by_cases ei : i = i0
  ·subst ei
   rw [z1]
   dsimp only
   refine wpAny_bind (wpAny_holding (wpAny_eqBool_tuple hu z3 hk ?_))
   rw [decide_eq_true rfl]
   refine wpAny_bind (wpAny_setState_of S.get S.dat S.fits ?_)
   dsimp only
   rw [if_pos (by decide)]
   exact wpAny_pure q
  ·have hmk : m < k := by
    refine Nat.lt_of_le_of_ne hm fun z => ei ?_
    rw [z, he, l0] at hl
    cases hl; rfl
   obtain ⟨c, ls, h1, h2, h3⟩ := S.el es[i] (by rw [<- Array.getElem_toList]; exact xb6 _)
   have eqn : es[i]? = some (es[i].1, Value.ref c) := by rw [xbg hi, <- h1]
   rw [eqn]
   dsimp only
   refine wpAny_bind (wpAny_holding (wpAny_eqBool_tuple hu h2 hk ?_))
   by_cases ek : ls = ks
   ·rw [decide_eq_true ek]
    refine wpAny_bind (wpAny_setState_of S.get S.dat S.fits ?_)
    dsimp only
    rw [if_pos (by decide)]
    exact wpAny_pure q
   ·rw [decide_eq_false ek]
    refine wpAny_bind (wpAny_setState_of S.get S.dat S.fits ?_)
    dsimp only
    rw [if_neg (by decide), show t.sameMemory t.moves t.mask = some true from by unfold SetTable.sameMemory; rw [if_pos (beq_self_eq_true _)]]
    dsimp only
    rw [if_pos rfl, hl]
    dsimp only
    rw [eqn]
    dsimp only
    refine wpAny_bind (wpAny_isSame_ref_self ?_)
    refine wpAny_bind (wpAny_pure ?_)
    rw [if_pos rfl]
    dsimp only
    rw [if_neg (by decide)]
    have e3 : ∀ n, SetT.iter t (m + 1 + n) (stand.getD (t.probeStart hh)) = SetT.iter t n (SetT.iter t (m + 1) (stand.getD (t.probeStart hh))) := fun n => SetT.iter_add t (m + 1) n _
    refine ih (k - (m + 1)) (by omega) f (some _) ?_ (fun n hn => ?_) (by omega) (by omega)
    ·show (SetT.iter t (k - (m + 1)) (SetT.iter t (m + 1) (stand.getD (t.probeStart hh)))).j = j0
     rw [<- e3, show m + 1 + (k - (m + 1)) = k by omega]; exact he
    ·show t.slot (SetT.iter t n (SetT.iter t (m + 1) (stand.getD (t.probeStart hh)))).j ≠ .empty
     rw [<- e3]; exact hb _ (by omega)
theorem zmI {ks : List Int} {b : Addr} {Q : SetFound -> Shared -> Prop} (S : zkz prog w s.heap a o es ep t kss) (hk : IsTupleKey (intKind prog w) s.heap ks b) (hu : A.units < cLine) (hne : ks ∉ kss) (hh : Int) {j0 : Nat} (q : Q (.free j0 false) s) :
  ∀ (k fuel : Nat) (stand : Option SetTable.Probe), (stand.getD (t.probeStart hh)).dummy = none -> (SetT.iter t k (stand.getD (t.probeStart hh))).j = j0 -> t.slot j0 = .empty -> (∀ m, m < k -> t.slot (SetT.iter t m (stand.getD (t.probeStart hh))).j ≠ .empty) -> k < 10 * SetTable.turns t.mask -> k < fuel -> wpAny (model prog w) A (setSearchFrom a (.ref b) hh true fuel stand) Q E s := by
 intro k
 induction k using Nat.strongRecOn with
 | _ k ih =>
  intro fuel stand hd hj he hb hk1 hk2
  obtain ⟨f, rfl⟩ : ∃ f, fuel = f + 1 := ⟨fuel - 1, by omega⟩
  unfold setSearchFrom
  refine wpAny_bind (wpAny_setState_of S.get S.dat S.fits ?_)
  dsimp only
  rw [S.odd, if_neg (by decide)]
  have key2 : ∀ ha X, t.probe ha hh (stand.getD (t.probeStart hh)) = X -> X = some (.empty j0 none) \/ ∃ j i m, m < k /\ X = some (.candidate j i (SetT.iter t (m + 1) (stand.getD (t.probeStart hh)))) /\ t.slot j = .live i /\ t.place[i]? = some j := fun ha X z => by
   subst z
   have := SetT.go_ok2 S.dm ha hh k (10 * SetTable.turns t.mask) (stand.getD (t.probeStart hh)) hd (by rw [hj]; exact he) hb hk1
   rw [hj] at this
   exact this
  generalize hX : t.probe _ hh (stand.getD (t.probeStart hh)) = X
  rcases key2 _ _ hX with rfl | ⟨j, i, m, hm, rfl, hl, hp⟩
  ·exact wpAny_pure q
  ·dsimp only
   have hi : i < es.size := by
    have := (xa8.mp hp).1
    rw [S.pl] at this
    exact this
   have pre : ∀ {mm : Sem SetFound}, wpAny (model prog w) A mm Q E s -> wpAny (model prog w) A (if (!t.led) = true then do
     let l <- searchCouldBeSeen (Value.ref b) (List.map (fun x => x.snd) (Array.filter (fun x => x.fst == hh) es).toList)
     if l = true then do
      unsupported "set:the-search-would-show-the-table"
      mm
     else mm
    else mm) Q E s := by
    intro mm hmm
    by_cases hled : (!t.led) = true
    ·rw [if_pos hled]
     refine wpAny_bind (zoU hk (fun v hv => ?_) ?_)
     ·obtain ⟨x, hx, rfl⟩ := xbf.mp hv
      rw [Array.toList_filter] at hx
      obtain ⟨c, ls, h1, h2, _⟩ := S.el x (xbv.mp hx).1
      exact ⟨c, ls, h1, h2⟩
     ·rw [if_neg (by decide)]
      exact hmm
    ·rw [if_neg hled]
     exact hmm
   refine pre ?_
   obtain ⟨c, ls, h1, h2, h3⟩ := S.el es[i] (by rw [<- Array.getElem_toList]; exact xb6 _)
   have eqn : es[i]? = some (es[i].1, Value.ref c) := by rw [xbg hi, <- h1]
   rw [eqn]
   dsimp only
   refine wpAny_bind (wpAny_holding (wpAny_eqBool_tuple hu h2 hk ?_))
   rw [decide_eq_false (fun z : ls = ks => hne (z ▸ h3))]
   refine wpAny_bind (wpAny_setState_of S.get S.dat S.fits ?_)
   dsimp only
   rw [if_neg (by decide), show t.sameMemory t.moves t.mask = some true from by unfold SetTable.sameMemory; rw [if_pos (beq_self_eq_true _)]]
   dsimp only
   rw [if_pos rfl, hl]
   dsimp only
   rw [eqn]
   dsimp only
   refine wpAny_bind (wpAny_isSame_ref_self ?_)
   refine wpAny_bind (wpAny_pure ?_)
   rw [if_pos rfl]
   dsimp only
   rw [if_neg (by decide)]
   have e3 : ∀ n, SetT.iter t (m + 1 + n) (stand.getD (t.probeStart hh)) = SetT.iter t n (SetT.iter t (m + 1) (stand.getD (t.probeStart hh))) := fun n => SetT.iter_add t (m + 1) n _
   refine ih (k - (m + 1)) (by omega) f (some _) (zh5 _ _ hd) ?_ he (fun n hn => ?_) (by omega) (by omega)
   ·show (SetT.iter t (k - (m + 1)) (SetT.iter t (m + 1) (stand.getD (t.probeStart hh)))).j = j0
    rw [<- e3, show m + 1 + (k - (m + 1)) = k by omega]; exact hj
   ·show t.slot (SetT.iter t n (SetT.iter t (m + 1) (stand.getD (t.probeStart hh)))).j ≠ .empty
    rw [<- e3]; exact hb _ (by omega)
theorem zvT {ks : List Int} {b : Addr} {Q : Bool -> Shared -> Prop} (S : zkz prog w s.heap a o es ep t kss) (hk : IsTupleKey (intKind prog w) s.heap ks b) (hu : A.units < cLine) (hks : ks ∈ kss)
  (q : ∀ tk, Q false { s with toks := tk }) : wpAny (model prog w) A (setAdd a (.ref b)) Q E s := by
 unfold setAdd
 refine wpAny_holding (wpAny_bind (wpAny_pyHash_tuple hu hk ?_))
 obtain ⟨c0, j0, k, z1, z2, z3, z4, z5⟩ := S.all ks hks
 generalize tupleKeyHash (intKind prog w) ks = hh at z1 z4 z5
 unfold setAddHashed setAddHashedIn
 refine wpAny_holding (wpAny_bind (wpAny_setState_of S.get S.dat S.fits ?_))
 dsimp only
 rw [show byScan (.ref b) es = false from rfl, if_neg (by decide)]
 unfold setSearch
 obtain ⟨i0, hi, e⟩ := xbk z1
 have hi1 : i0 < es.toList.length := by rw [xc8] at hi; omega
 have hi2 : i0 < t.place.toList.length := by rw [xc8] at hi; omega
 rw [List.getElem_zip] at e
 have e1 : es[i0]? = some (hh, .ref c0) := by rw [<- xax, xao hi1]; exact congrArg some (congrArg Prod.fst e)
 have e2 : t.place[i0]? = some j0 := by rw [<- xax, xao hi2]; exact congrArg some (congrArg Prod.snd e)
 refine wpAny_bind (zqt (s := { s with toks := s.toks + (ks.length + 1) }) S hk hu hh e1 e2 z2 ?_ k 100000 none z4 z5 z3 (by
  have : 10 * SetTable.turns t.mask <= 460 := by unfold SetTable.turns; rcases S.msk with ⟨h1, h2⟩ | ⟨h1, h2⟩ <;> omega
  omega))
 dsimp only
 exact wpAny_pure (q _)
theorem zvU {ks : List Int} {b : Addr} {Q : Bool -> Shared -> Prop} (S : zkz prog w s.heap a o es ep t kss) (hk : IsTupleKey (intKind prog w) s.heap ks b) (hu : A.units < cLine) (hne : ks ∉ kss) (hsz : kss.length <= 17)
  (q : ∀ h' o' es' ep' t' tk, Heap.SameBut a s.heap h' -> zkz prog w h' a o' es' ep' t' (ks :: kss) -> Q true { s with heap := h', toks := tk }) : wpAny (model prog w) A (setAdd a (.ref b)) Q E s := by
 unfold setAdd
 refine wpAny_holding (wpAny_bind (wpAny_pyHash_tuple hu hk ?_))
 obtain ⟨hh, hhe⟩ : ∃ hh, tupleKeyHash (intKind prog w) ks = hh := ⟨_, rfl⟩
 rw [hhe]
 unfold setAddHashed setAddHashedIn
 refine wpAny_holding (wpAny_bind (wpAny_setState_of S.get S.dat S.fits ?_))
 dsimp only
 rw [show byScan (.ref b) es = false from rfl, if_neg (by decide)]
 unfold setSearch
 obtain ⟨k', k1', k2'⟩ := SetT.meets_empty S.dm (S.msk.elim (fun h => .inl h.1) fun h => .inr h.1) (by rw [S.pl]; rcases S.msk with ⟨h1, h2⟩ | ⟨h1, h2⟩ <;> omega) hh
 obtain ⟨k, kk, k2, k3⟩ := SetT.first_empty (t.probeStart hh) k2'
 have k1 : k < 10 * SetTable.turns t.mask := by omega
 obtain ⟨j, hj⟩ : ∃ j, (SetT.iter t k (t.probeStart hh)).j = j := ⟨_, rfl⟩
 rw [hj] at k2
 refine wpAny_bind (zmI (s := { s with toks := s.toks + (ks.length + 1) }) (j0 := j) S hk hu hne hh ?_ k 100000 none rfl hj k2 k3 k1 (by
  have : 10 * SetTable.turns t.mask <= 460 := by unfold SetTable.turns; rcases S.msk with ⟨h1, h2⟩ | ⟨h1, h2⟩ <;> omega
  omega))
 dsimp only
 have p1 : (t.put j).1.mask = t.mask := rfl
 have p2 : (t.put j).1.dummies = #[] := by
  show (if SetTable.has t.dummies j then SetTable.eraseAt t.dummies (SetTable.below t.dummies j) else t.dummies) = #[]
  rw [S.dm, SetT.no_has]
  rfl
 have p3 : (t.put j).1.place.size = es.size + 1 := by
  show (SetTable.insertAt t.place _ j).size = _
  rw [ze6, S.pl]
 have nj : ∀ i : Nat, t.place[i]? ≠ some j := fun i e => by
  have := SetT.slot_live S.srt e
  rw [k2] at this; cases this
 have p4 : (t.put j).1.place.toList.Pairwise (· < ·) := SetT.put_srt S.srt nj
 have bl := (SetT.below_ok j S.srt).1
 have p5 : ∀ z, z ∈ (SetTable.insertAt es (t.put j).snd (hh, Value.ref b)).toList.zip (t.put j).1.place.toList ↔ z = ((hh, Value.ref b), j) \/ z ∈ es.toList.zip t.place.toList := fun z => SetT.zip_put (as := es) (bs := t.place) (p := SetTable.below t.place j) S.pl.symm (by rw [<- S.pl]; exact bl)
 have fin : wpAny (model prog w) A (do
   storeSet a (SetTable.insertAt es (t.put j).snd (hh, Value.ref b)) (t.put j).fst
   if (!false && (t.put j).fst.tooFull) = true then do
    setRelay a (SetTable.grown (es.size + 1))
    pure true
   else pure true) Q E { s with toks := s.toks + (ks.length + 1) } := by
  generalize (t.put j).fst = t1 at p1 p2 p3 p4 p5
  have zz := ze6 es (t.put j).snd (hh, Value.ref b)
  have mm := fun y hy => zjR (xs := es) (p := (t.put j).snd) (x := (hh, Value.ref b)) (y := y) hy
  generalize SetTable.insertAt es (t.put j).snd (hh, Value.ref b) = es1 at zz mm p5
  have hn := S.n
  have h18 : es.size <= 17 := by omega
  refine wpAny_bind (wpAny_storeSet_of S.get S.dat ?_ (xa3 (show es1.size <= 1000 by omega) (by decide)))
  have g1 := zjQ (es' := es1) (t' := t1) S.get S.dat
  have sb1 : Heap.SameBut a s.heap (s.heap.update a (Obj.putSet es1 t1)) := Heap.SameBut.update _ a _
  generalize s.heap.update a (Obj.putSet es1 t1) = h1 at g1 sb1
  have el1 : ∀ e ∈ es1.toList, ∃ c ls, e.2 = .ref c /\ IsTupleKey (intKind prog w) h1 ls c /\ ls ∈ ks :: kss := by
   intro e he
   rcases mm e he with rfl | he
   ·exact ⟨b, ks, rfl, zeK sb1 S.get S.dat hk, xal⟩
   ·obtain ⟨c, ls, e1, e2, e3⟩ := S.el e he
    exact ⟨c, ls, e1, zeK sb1 S.get S.dat e2, xaf _ e3⟩
  have fill1 : t1.fill = es.size + 1 := by
   unfold SetTable.fill
   rw [p2, p3]; rfl
  have full : t1.tooFull = decide ((es.size + 1) * 5 ≥ t.mask * 3) := by
   unfold SetTable.tooFull
   rw [fill1, p1]
  have taken : ∀ jj, t.slot jj ≠ .empty -> t1.slot jj ≠ .empty := fun jj hx => by
   rcases SetT.slot_cases S.dm jj with e | ⟨i, e, hi⟩
   ·exact absurd e hx
   ·have hm : jj ∈ t1.place.toList := by
     have hi1 : i < t.place.toList.length := by have := (xa8.mp hi).1; simpa using this
     have hi2 : i < es.toList.length := by have := S.pl; simp at hi1 ⊢; omega
     have : (es.toList[i], t.place.toList[i]) ∈ es.toList.zip t.place.toList := by
      rw [<- List.getElem_zip (h := by rw [xc8]; omega)]; exact xb6 _
     have := (p5 _).mpr (.inr this)
     have := (xc4 this).2
     rw [<- xax, xao hi1] at hi
     rw [Option.some.inj hi] at this
     exact this
    obtain ⟨i', hi', e'⟩ := xbk hm
    rw [SetT.slot_live p4 (i := i') (j := jj) (by rw [<- xax, xao hi', e'])]
    exact fun z => by cases z
  have zre : ∀ ls ∈ ks :: kss, ∃ c j k, ((tupleKeyHash (intKind prog w) ls, Value.ref c), j) ∈ es1.toList.zip t1.place.toList /\ IsTupleKey (intKind prog w) h1 ls c /\ k < 10 * SetTable.turns t1.mask /\ (SetT.iter t1 k (t1.probeStart (tupleKeyHash (intKind prog w) ls))).j = j /\ ∀ m, m < k -> t1.slot (SetT.iter t1 m (t1.probeStart (tupleKeyHash (intKind prog w) ls))).j ≠ .empty := by
   intro ls hls
   rcases xae.mp hls with rfl | hls
   ·refine ⟨b, j, k, (p5 _).mpr (.inl (by rw [hhe])), zeK sb1 S.get S.dat hk, by rw [p1]; exact k1, ?_, fun m hm => ?_⟩
    ·rw [SetT.iter_mask p1, SetT.start_mask p1, hhe]; exact hj
    ·rw [SetT.iter_mask p1, SetT.start_mask p1, hhe]; exact taken _ (k3 m hm)
   ·obtain ⟨c, j', k', y1, y2, y3, y4, y5⟩ := S.all ls hls
    refine ⟨c, j', k', (p5 _).mpr (.inr y1), zeK sb1 S.get S.dat y2, by rw [p1]; exact y3, ?_, fun m hm => ?_⟩
    ·rw [SetT.iter_mask p1, SetT.start_mask p1]; exact y4
    ·rw [SetT.iter_mask p1, SetT.start_mask p1]; exact taken _ (y5 m hm)
  by_cases hf : (es.size + 1) * 5 ≥ t.mask * 3
  ·have h7 : t.mask = 7 /\ es.size = 4 := by rcases S.msk with ⟨x1, x2⟩ | ⟨x1, x2⟩ <;> omega
   rw [full, decide_eq_true hf, if_pos (by decide), h7.2]
   have gr : SetTable.grown (4 + 1) = 20 := by decide
   rw [gr]
   unfold setRelay
   refine wpAny_bind (wpAny_bind (wpAny_setState_of g1 rfl ?_ ?_))
   ·unfold SetTable.fits
    rw [fill1, p1, p3, zz, xa0, decide_eq_true_eq]
    exact ⟨beq_self_eq_true _, by omega⟩
   ·dsimp only
    obtain ⟨t2, order, r1, r2, r3, r4, r5, r6, r7, r8⟩ := SetT.relaid_found t1 (Array.map (fun x => x.fst) es1) (n := 5) (by rw [Array.size_map]; omega) (by decide)
    have some2 : ∀ k ∈ order.toList, (es1[k]?).isSome = true := fun k hk => by
     have := r6 k hk
     rw [xbg (by omega)]; rfl
    have z2 : (order.filterMap (es1[·]?)).size = 5 := by
     rw [<- xas, xcx, SetT.fm_all _ _ some2, xas, r5]
    have i2 : ∀ i : Nat, (order.filterMap (es1[·]?)).toList[i]? = (order.toList[i]?).bind (es1[·]?) := fun i => by
     rw [xcx]; exact SetT.fm_get _ _ some2 i
    have m2 : ∀ e ∈ (order.filterMap (es1[·]?)).toList, e ∈ es1.toList := by
     intro e he
     rw [xcx] at he
     obtain ⟨k, _, hk⟩ := xbl.mp he
     rw [<- xax] at hk
     exact xbe hk
    rw [if_neg (by decide), r1]
    refine wpAny_bind (wpAny_of_eq (a := (order.filterMap (es1[·]?), t2)) ?_ ?_)
    ·show (if ((order.filterMap (es1[·]?)).size != es1.size) = true then _ else _) = _
     rw [if_neg (by rw [z2, zz, h7.2]; decide)]
    ·generalize order.filterMap (es1[·]?) = es2 at z2 m2 i2
     refine wpAny_storeSet_of g1 rfl ?_ (xa3 (show es2.size <= 1000 by omega) (by decide))
     have g2 := zjQ (es' := es2) (t' := t2) g1 rfl
     have sb2 : Heap.SameBut a h1 (h1.update a (Obj.putSet es2 t2)) := Heap.SameBut.update _ a _
     generalize h1.update a (Obj.putSet es2 t2) = h2 at g2 sb2
     refine wpAny_pure (q h2 _ es2 (ep + 1 + 1) t2 _ (sb1.trans sb2) ⟨g2, S.ex, rfl, r3, by rw [r4, z2], .inr ⟨r2, by omega⟩, r7, by rw [z2, xar, <- hn, h7.2], fun e he => ?_, fun ls hls => ?_⟩)
     ·obtain ⟨c, ls, e1, e2, e3⟩ := el1 e (m2 e he)
      exact ⟨c, ls, e1, zeK sb2 g1 rfl e2, e3⟩
     ·obtain ⟨c, j1, _, y1, y2, _⟩ := zre ls hls
      obtain ⟨i0, hi, e⟩ := xbk y1
      have hi1 : i0 < es1.toList.length := by rw [xc8] at hi; omega
      rw [List.getElem_zip] at e
      have e1 : es1[i0]? = some (tupleKeyHash (intKind prog w) ls, .ref c) := by rw [<- xax, xao hi1]; exact congrArg some (congrArg Prod.fst e)
      have eh : (Array.map (fun x => x.fst) es1).getD i0 0 = tupleKeyHash (intKind prog w) ls := by
       rw [xaw, Array.getElem?_map, e1]; rfl
      obtain ⟨i, j2, m, o1, o2, o3, o4, o5⟩ := r8 i0 (by rw [xas, zz, h7.2] at hi1; omega)
      rw [eh] at o4 o5
      refine ⟨c, j2, m, ?_, zeK sb2 g1 rfl y2, o3, o4, o5⟩
      have f1 : es2.toList[i]? = some (tupleKeyHash (intKind prog w) ls, .ref c) := by
       rw [i2, xax, o1]; exact e1
      have f2 : t2.place.toList[i]? = some j2 := by rw [xax]; exact o2
      refine xbe (i := i) ?_
      rw [List.getElem?_zip_eq_some]
      exact ⟨f1, f2⟩
  ·rw [full, decide_eq_false hf, if_neg (by decide)]
   refine wpAny_pure (q h1 _ es1 (ep + 1) t1 _ sb1 ⟨g1, S.ex, rfl, p2, by rw [p3, zz], ?_, p4, by rw [zz, hn, xar], el1, zre⟩)
   rw [p1, zz]
   rcases S.msk with ⟨x1, x2⟩ | ⟨x1, x2⟩
   ·exact .inl ⟨x1, by omega⟩
   ·exact .inr ⟨x1, by omega⟩
 refine wpAny_bind (wpAny_setState_of (s := { s with toks := s.toks + (ks.length + 1) }) S.get S.dat S.fits ?_)
 dsimp only
 by_cases hpl : (t.put j).fst.plain = true
 ·rw [if_pos hpl]
  refine wpAny_bind (ztg (s := { s with toks := s.toks + (ks.length + 1) }) hk ?_)
  exact fin
 ·rw [if_neg hpl]
  refine wpAny_bind (wpAny_pure ?_)
  exact fin
end
end DL
namespace DL
open L2 PyProof.Rows
section
variable {prog : Program} {w : World} {A : Around} {h h' : Heap} {it l z : Addr} {items : Array Value}
theorem zkz.move (kp : ∀ b u, b ∉ [it] -> h.get? b = some u -> h'.get? b = some u) {i : Nat} (hi : h.IsListIter it l i) (hz : z ≠ it) {o : Obj} {es : Array (Int × Value)} {ep : Nat} {t : SetTable} {kss : List (List Int)} (S : zkz prog w h z o es ep t kss) : zkz prog w h' z o es ep t kss :=
 ⟨kp z _ (by simpa using hz) S.get, S.ex, S.dat, S.dm, S.pl, S.msk, S.srt, S.n, fun e he => by
  obtain ⟨c, ls, e1, e2, e3⟩ := S.el e he
  exact ⟨c, ls, e1, zg5 kp hi e2, e3⟩, fun ls hls => by
  obtain ⟨c, j, k, e1, e2, e3⟩ := S.all ls hls
  exact ⟨c, j, k, e1, zg5 kp hi e2, e3⟩⟩
def ziC (kss : List (List Int)) (ks : List Int) : List (List Int) := if ks ∈ kss then kss else ks :: kss
def zgr (keys : Nat -> List Int) : Nat -> List (List Int)
 | 0 => []
 | i + 1 => ziC (zgr keys i) (keys i)
theorem ztj (kss : List (List Int)) (ks : List Int) : kss.length <= (ziC kss ks).length := by unfold ziC; split <;> simp
theorem zoZ (keys : Nat -> List Int) : ∀ (n i : Nat), i <= n -> (zgr keys i).length <= (zgr keys n).length
 | 0, i, h => by rw [show i = 0 by omega]; exact xag _
 | n + 1, i, h => by
  by_cases e : i = n + 1
  ·rw [e]; exact xag _
  ·exact xa3 (zoZ keys n i (by omega)) (ztj _ _)
def zvV (prog : Program) (w : World) (h : Heap) (z : Addr) (keys : Nat -> List Int) (i : Nat) : Prop := ∃ o es ep t, zkz prog w h z o es ep t (zgr keys i)
theorem zo0 {R : Result -> Shared -> Prop} (hh : A.handled = none) (hl : l ≠ it) (hz1 : z ≠ it) (hz2 : z ≠ l) (hu : A.units + 1 < cLine) (keys : Nat -> List Int) (h4 : (zgr keys items.size).length <= 18) :
  ∀ (k i : Nat) (s : Shared), items.size - i = k -> i <= items.size -> (s.heap.IsListIter it l i /\ s.heap.IsList l items) -> zvV prog w s.heap z keys i -> (∀ j, j < items.size -> ∃ b, items[j]? = some (.ref b) /\ IsTupleKey (intKind prog w) s.heap (keys j) b) ->
   (∀ h2 tk, (∀ b u, b ≠ z -> b ≠ it -> s.heap.get? b = some u -> h2.get? b = some u) -> zvV prog w h2 z keys items.size -> R (.ok (.ret .none)) { s with heap := h2, toks := tk }) ->
   codeAny (model prog w) A (.builtin "set.update.loop" ⟨[.ref z, .ref it], []⟩) R s := by
 have W := Walks.list (prog := prog) (w := w) (A := A.in1) (by rw [Around.in1_handled]; exact hh) it l hl items
 intro k
 induction k with
 | zero =>
  intro i s hk hi st ⟨o, es, ep, t, S⟩ ht fin
  obtain rfl : i = items.size := by omega
  refine codeAny_builtin PyProof.Rows.F.entry_set_update_loop ?_
  rw [Around.under_plainId PyProof.Rows.F.plain_set_update_loop _]
  show wpAny _ A.in1 (pyNext (.ref it) >>= _) _ _ _
  refine wpAny_bind (W.done s _ _ st fun h2 tk kp => ?_)
  show wpAny _ A.in1 (ret Value.none) _ _ _
  exact wpAny_pure (fin h2 tk (fun b u _ b2 e => kp b u (by simpa using b2) e) ⟨o, es, ep, t, S.move kp st.1 hz1⟩)
 | succ k ih =>
  intro i s hk hi st ⟨o, es, ep, t, S⟩ ht fin
  have hlt : i < items.size := by omega
  refine codeAny_builtin PyProof.Rows.F.entry_set_update_loop ?_
  rw [Around.under_plainId PyProof.Rows.F.plain_set_update_loop _]
  show wpAny _ A.in1 (pyNext (.ref it) >>= _) _ _ _
  refine wpAny_bind (W.item i s _ _ hlt st fun v h1 tk hv st1 kp => ?_)
  obtain ⟨b, e1, e2⟩ := ht i hlt
  rw [hv] at e1
  cases e1
  have S1 := S.move (prog := prog) (w := w) kp st.1 hz1
  have ht1 : ∀ j, j < items.size -> ∃ b, items[j]? = some (.ref b) /\ IsTupleKey (intKind prog w) h1 (keys j) b := fun j hj => by
   obtain ⟨c, c1, c2⟩ := ht j hj
   exact ⟨c, c1, zg5 kp st.1 c2⟩
  show wpAny _ A.in1 (holding [Value.ref b] (setAdd z (.ref b)) >>= _) _ _ _
  have gz : z ∉ [it, l] := by
   rw [xae, xbh]
   rintro (q | q)
   ·exact hz1 q
   ·exact hz2 q
  by_cases hin : keys i ∈ zgr keys i
  ·refine wpAny_bind (wpAny_holding (zvT (s := { s with heap := h1, toks := tk }) S1 (zg5 kp st.1 e2) (by rw [Around.in1_units]; exact hu) hin fun tk2 => ?_))
   refine wpAny_pure ⟨plainId_quiet PyProof.Rows.F.plain_set_update_loop _, ih (i + 1) _ (by omega) hlt ?_ ⟨o, es, ep, t, ?_⟩ (fun j hj => ht1 j hj) fun h3 tk3 kp3 S3 => ?_⟩
   ·exact W.frame _ h1 h1 st1 fun b hb u e => e
   ·show zkz prog w _ z o es ep t (ziC (zgr keys i) (keys i))
    unfold ziC
    rw [if_pos hin]
    exact S1
   ·exact fin h3 tk3 (fun b u b1 b2 e => kp3 b u b1 b2 (kp b u (by simpa using b2) e)) S3
  ·have l3 : (zgr keys i).length <= 17 := by
    have := zoZ keys items.size (i + 1) hlt
    have e : (zgr keys (i + 1)).length = (zgr keys i).length + 1 := by
     show (ziC (zgr keys i) (keys i)).length = _
     unfold ziC
     rw [if_neg hin]; rfl
    omega
   refine wpAny_bind (wpAny_holding (zvU (s := { s with heap := h1, toks := tk }) S1 (zg5 kp st.1 e2) (by rw [Around.in1_units]; exact hu) hin l3 fun h2 o2 es2 ep2 t2 tk2 sb S2 => ?_))
   refine wpAny_pure ⟨plainId_quiet PyProof.Rows.F.plain_set_update_loop _, ih (i + 1) _ (by omega) hlt ?_ ⟨o2, es2, ep2, t2, ?_⟩ (fun j hj => ?_) fun h3 tk3 kp3 S3 => ?_⟩
   ·exact W.frame _ h1 h2 st1 fun b hb u e => (sb.2 b fun q => gz (q ▸ hb)).trans e
   ·show zkz prog w _ z o2 es2 ep2 t2 (ziC (zgr keys i) (keys i))
    unfold ziC
    rw [if_neg hin]
    exact S2
   ·obtain ⟨c, c1, c2⟩ := ht1 j hj
    exact ⟨c, c1, zeK sb S1.get S1.dat c2⟩
   ·exact fin h3 tk3 (fun b u b1 b2 e => kp3 b u b1 b2 ((sb.2 b b1).trans (kp b u (by simpa using b2) e))) S3
theorem zqu {led : Bool} {keys : Nat -> List Int} (g : h.get? z = some (zd0 led)) : zvV prog w h z keys 0 :=
 ⟨_, #[], 0, .fresh 0 0 led, g, ⟨rfl, rfl, rfl⟩, rfl, rfl, rfl, .inl ⟨rfl, by decide⟩, List.Pairwise.nil, rfl, (fun e he => by cases he), (fun ls hls => by cases hls)⟩
set_option maxHeartbeats 3200000 in
theorem zo1 {E : Value -> Shared -> Prop} {s : Shared} {Q : Value -> Shared -> Prop} (hh : A.handled = none) (hl : s.heap.IsList l items) (hu : A.units + 3 < cLine) (keys : Nat -> List Int) (h4 : (zgr keys items.size).length <= 18)
  (ht : ∀ j, j < items.size -> ∃ b, items[j]? = some (.ref b) /\ IsTupleKey (intKind prog w) s.heap (keys j) b)
  (q : ∀ h2 tk, zvV prog w h2 s.heap.objs.size keys items.size -> (∀ b u, s.heap.get? b = some u -> h2.get? b = some u) -> Q (.ref s.heap.objs.size) { s with heap := h2, toks := tk }) : wpAny (model prog w) A (call (.type "set") [.ref l]) Q E s := by
 obtain ⟨mr1, mr2, mr3⟩ := PySem.F.called_set.mro
 have ma := PySem.F.called_set.made
 have su := PySem.F.called_set.sub
 have no := PySem.F.called_set.notType
 have cc := PySem.F.called_set.canCreate
 have ct := PySem.F.typeCall_set_1 (.ref l)
 refine wpAny_call (codeAny_of_tree ?_)
 show wpAny _ _ (callAny (.type "set") _) _ _ _
 refine wpAny_pure ⟨Code.quiet_builtin _ (by decide +kernel), codeAny_builtin F.entry_type_call ?_⟩
 rw [Around.under_plain (weight_type_call_type "set" [.ref l] []) rfl]
 repeat (any_goals (first | assumption | wp_step))
 refine codeAny_mono (code_set_new_1 (.ref l) (E := E) (Q₁ := fun ob s1 => ∃ led : Bool, ob = .ref s.heap.objs.size /\ s1 = { s with heap := s.heap.push (zd0 led) }) fun led => ⟨led, rfl, rfl⟩) fun r s1 hr => ?_
 cases r with
 | error e => exact hr
 | ok fl =>
  cases fl with
  | ret ob =>
   obtain ⟨led, rfl, rfl⟩ := hr
   have gS : (s.heap.push (zd0 led)).get? s.heap.objs.size = some (zd0 led) := xav _ rfl
   have tS : Shared.TypeIs { s with heap := s.heap.push (zd0 led) } (.ref s.heap.objs.size) "set" := ⟨_, gS, rfl⟩
   have il := PySem.F.called_set.init.lookup
   have ib := PySem.F.called_set.init.bind (.ref s.heap.objs.size)
   repeat (any_goals (first | assumption | wp_step))
   refine codeAny_mono (codeAny_call_builtin (R := wants (fun r s2 => r = .none /\ ∃ h2 tk, s2 = { s with heap := h2, toks := tk } /\ zvV prog w h2 s.heap.objs.size keys items.size /\ (∀ b u, s.heap.get? b = some u -> h2.get? b = some u)) E) PySem.F.called_set.init.plain PySem.F.entry_set_init (check_set_init_1 tS ?_)) fun r2 s2 hr2 => ?_
   ·obtain ⟨⟨c1, c2, c3, c4⟩, gl, cl, nl, dl⟩ := hl
    simp only at cl dl
    subst cl dl
    have gl1 : (s.heap.push (zd0 led)).get? l = some { cls := .type "list", dict := c2, data := .seq items nl, slots := c4 } := xaa _ gl
    have ls := PySem.F.sub_list_set
    have lf := PySem.F.sub_list_frozenset
    have nd : (Value.type "list" == Value.type "dict") = false := by decide
    have il1 : (s.heap.push (zd0 led)).IsList l items := ⟨_, gl1, rfl, nl, rfl⟩
    unfold Builtin.«set.__init__» noKeywords Builtin.Frozenset.updateFrom
    generalize hPI : pyIter = PI
    wp_walk
    subst hPI
    refine wpAny_pyIter_list il1 ?_
    refine wpAny_bind (wpAny_runValue ?_)
    have lS : l < s.heap.objs.size := xab gl
    refine zo0 (A := A.in1.in1) (it := (s.heap.push (zd0 led)).objs.size) (l := l) (z := s.heap.objs.size) (items := items) hh ?_ ?_ ?_ hu keys h4 items.size 0 _ (by omega) (xci _) ⟨⟨_, xav _ rfl, rfl, rfl⟩, il1.push _⟩ (zqu (led := led) (xaa _ gS)) ?_ ?_
    ·rw [xbn]; exact xan (Nat.lt_succ_of_lt lS)
    ·rw [xbn]; exact xan (xc0 _)
    ·exact xb5 lS
    ·intro j hj
     obtain ⟨b, b1, b2⟩ := ht j hj
     obtain ⟨ob, its, m, g1, g2, g3, g4⟩ := b2
     exact ⟨b, b1, ob, its, m, xaa _ (xaa _ g1), g2, g3, g4⟩
    ·intro h2 tk kp S2
     show wpAny _ _ _ _ _ _
     refine wpAny_pure ?_
     show wpAny _ _ (ret Value.none) _ _ _
     refine wpAny_pure ⟨rfl, h2, tk, rfl, S2, fun b u e => ?_⟩
     have lb := xab e
     refine kp b u (xan lb) ?_ (xaa _ (xaa _ e))
     rw [xbn]; exact xan (Nat.lt_succ_of_lt lb)
   ·cases r2 with
    | error e => exact hr2
    | ok fl2 =>
     cases fl2 with
     | ret r =>
      obtain ⟨rfl, h2, tk, rfl, S2, k2⟩ := hr2
      repeat (any_goals (first | assumption | wp_step))
      exact q _ _ S2 k2
     | _ => exact hr2.elim
  | _ => exact hr.elim
end
end DL
namespace DL
open L2 PyProof.Rows
section
variable {X : Cx} {E : XK}
def zgs (kss : List (List Int)) : List (List Int) := zgr (fun j => kss.getD j []) kss.length
def zxs (K : xFg) : List V -> Hp -> VK -> Prop := fun xs H Q => ∃ (p : Addr) (ys : List V) (kss : List (List Int)), xs = [.ref p] /\ SqL K H p ys /\ zcx K H ys kss /\ (zgs kss).length <= 18 /\ ∀ a, H a = none -> Q (.ref a) (upd H a (.ext (zwj a (zgs kss).length)))
theorem zo2 {k : Nat} (hc : X.calm = true) (r : zeD k X.A) : zcK X (.type "set") (zxs X.K) := by
 intro pins s σ H xs us Q I rs h
 obtain ⟨p, ys, kss, rfl, hq, ht, h4, q⟩ := h
 obtain ⟨u, rfl, rx⟩ := ziS rs
 cases rx
 obtain ⟨its, rv, pl, hz⟩ := I.list hq
 have hlen : its.length = kss.length := by rw [<- rv.length, ht.length]
 have hsz : its.toArray.size = kss.length := by rw [xak, hlen]
 refine zo1 (I.ok.hd hc) pl.isList (by have := r.un; omega) (fun j => kss.getD j []) (by rw [hsz]; exact h4) (fun j hj => ?_) fun h2 tk S2 kp => ?_
 ·rw [xak] at hj
  obtain ⟨b, b1, b2⟩ := zoV I ht rv j hj
  exact ⟨b, by rw [xcb]; exact b1, b2⟩
 ·obtain ⟨o, es, ep, t, S⟩ := S2
  have hn : es.size = (zgs kss).length := by rw [S.n, hsz]; rfl
  refine ⟨.ref s.heap.objs.size, _, I.laid (t' := tk) (h' := h2) kp (xag _) (show zcr X.prog X.w _ h2 _ (.ext (zwj s.heap.objs.size (zgs kss).length)) from ⟨⟨o, es, ep, t, S.get, S.ex, S.dat, S.fits, hn⟩, ⟨o, S.get⟩, ?_⟩), rfl, q _ (I.hok.fresh (xag _))⟩
  rintro h1 h3 ⟨o, es, ep, t, g, r1⟩ kk
  exact ⟨o, es, ep, t, kk o g, r1⟩
def zd1 : D -> R D
 | .lst ds => match zbF ds with
  | some kss => bif Nat.ble (zgs kss).length 18 then .ok (.int (zgs kss).length) else .bad
  | none => .bad
 | _ => .bad
def ziD (f : DSt -> R D) : DSt -> R D := fun σ => (f σ).bind zd1
theorem zmJ {k : Nat} (C : XC X E k) (hm1 : X.mg "len" = none) (hm2 : X.mg "set" = none) {e : Expr} {fe : DSt -> R D} {p1 p2 pos pos2 : Pos} (hfe : DE X E e fe) (hg1 : Gl X "len" := by rfl) (hg2 : Gl X "set" := by rfl)
  (he1 : starEach [.Call (.Name "set" p2) [e] [] pos2] X.env = (false, eval (.Call (.Name "set" p2) [e] [] pos2) X.env) :: starEach [] X.env := by rfl) (hpl1 : (backTo pos (starEach [] X.env)).any (·.1) = false := by rfl)
  (he2 : starEach [e] X.env = (false, eval e X.env) :: starEach [] X.env := by rfl) (hpl2 : (backTo pos2 (starEach [] X.env)).any (·.1) = false := by rfl) :
  DE X E (.Call (.Name "len" p1) [.Call (.Name "set" p2) [e] [] pos2] [] pos) (ziD fe) := by
 refine PE.mono' (zkV zoW hg1 hm1 PySem.boot_len (znj (zgy (zo2 C.calm C.room) hg2 hm2 (by rfl) (zay hfe zbE he2) (by decide) (by decide) he2 hpl2) zqT he1) (by decide) (by decide) he1 hpl1) fun σ H Q ⟨G, σd, ok, q⟩ => ?_
 refine ⟨G, σd, ok, (show RW ((zaa fe zaj) σd) _ _ from ?_)⟩
 unfold zaa
 have q2 := q.of_bind
 cases hf : fe σd with
 | bad => rw [hf] at q2; exact q2.elim
 | err x => rw [hf] at q2; exact (show zaM X.K X.mg E G H x from q2)
 | ok d =>
  rw [hf] at q2
  have q3 : RW (zd1 d) (zao X.K X.mg Q G H) (zaM X.K X.mg E G H) := q2
  rintro ws G2 H2 s2 ⟨v, _, e1, r3, r4⟩
  subst e1
  cases r4
  cases d with
  | lst ds =>
   obtain ⟨b, vs, rfl, hb, hv⟩ := r3
   cases hs' : zbF ds with
   | none => simp only [zd1, hs'] at q3; exact q3.elim
   | some kss =>
    cases hC : Nat.ble (zgs kss).length 18 with
    | false => simp only [zd1, hs', hC, cond_false] at q3; exact q3.elim
    | true =>
     simp only [zd1, hs', hC, cond_true] at q3
     rw [Nat.ble_eq] at hC
     refine ⟨b, vs, kss, rfl, s2.e.seq hb, (zjS hs' hv).mono s2.e, hC, fun a ha => ?_⟩
     have q4 : zao X.K X.mg Q G H (.int (zgs kss).length) := q3
     exact ⟨a, (zgs kss).length, rfl, zan, by omega, q4 _ G2 _ (s2.trans (.hid s2.e ha)) rfl⟩
  | _ => exact (show False from q3).elim
end
end DL
end
section
namespace L2
open PyProof.Rows
def zxt (K : xFg) (a b : Addr) : It :=
 ⟨fun i H => ∃ xs ys x y, SqL K H a xs /\ SqL K H b ys /\ xs[i]? = some x /\ ys[i]? = some y,
  fun i H v H' => ∃ T x y, v = .ref T /\ H T = none /\ H' = upd H T (.tup [x, y]) /\ (∀ xs, SqL K H a xs -> xs[i]? = some x) /\ ∀ ys, SqL K H b ys -> ys[i]? = some y,
  fun i H => ∃ xs ys, SqL K H a xs /\ SqL K H b ys /\ xs.length <= i⟩
structure ZL (z TI TO i1 i2 a b : Addr) (k : Nat) (h : Heap) : Prop where
 z : IsZip h z TI TO .none
 ti : IsPair h TI (.ref i1) (.ref i2)
 to : ∃ u v, IsPair h TO u v
 i1 : h.IsListIter i1 a k
 i2 : h.IsListIter i2 b k
theorem zo3 {P : Program} {w : World} {K : xFg} {es : List Expr} {ct : Nat} {ps : Pos} {z TI TO i1 i2 a b : Addr} (D : ZipApart z TI TO i1 i2 a b) : zqR P w K (.Tuple es ct ps) (zxt K a b) [z, TI, TO, i1, i2] z (ZL z TI TO i1 i2 a b) where
 mem := by simp
 obj := fun i h st c hc => by
  simp only [xae, xaq, or_false] at hc
  rcases hc with rfl | rfl | rfl | rfl | rfl
  ·exact ⟨_, st.z, fun v q => by cases q⟩
  ·exact ⟨_, st.ti, fun v q => by cases q⟩
  ·obtain ⟨u, v, e⟩ := st.to
   exact ⟨_, e, fun v q => by cases q⟩
  ·obtain ⟨o, e, c, d⟩ := st.i1
   exact ⟨o, e, fun v q => by rw [d] at q; cases q⟩
  ·obtain ⟨o, e, c, d⟩ := st.i2
   exact ⟨o, e, fun v q => by rw [d] at q; cases q⟩
 keep := fun i h h' st k => by
  obtain ⟨u, v, e⟩ := st.to
  exact ⟨k _ (by simp) _ st.z, k _ (by simp) _ st.ti, ⟨u, v, k _ (by simp) _ e⟩, st.i1.at fun o e => k _ (by simp) o e, st.i2.at fun o e => k _ (by simp) o e⟩
 item := by
  intro X hP hw hK hc i pins s σ H E I hf st hg
  subst hP hw hK
  obtain ⟨xs, ys, x, y, h1, h2, hx, hy⟩ := hg
  obtain ⟨its, rv, p, _⟩ := I.list h1
  obtain ⟨jts, rw', p', _⟩ := I.list h2
  obtain ⟨u, hu, ru⟩ := rv.get hx
  obtain ⟨v, hv, rr⟩ := rw'.get hy
  obtain ⟨ta, tb, hTO⟩ := st.to
  refine wpAny_pyNext_zip_item D st.z st.ti hTO st.i1 st.i2 p.isList p'.isList (x := u) (y := v) (by simpa using hu) (by simpa using hv) fun g Zz Zto Zi1 Zi2 pg sg kg => ⟨_, rfl, ?_⟩
  refine wpAny_letOwnedTupleGo_zip Zz fun g' zg sb => ?_
  have lz : z < s.heap.objs.size := xab st.z
  have I1 : Inv X pins σ (upd H s.heap.objs.size (.tup [x, y])) { s with heap := s.heap.push (tp2 u v), toks := s.toks } :=
   I.laid (fun _ _ q => xaa _ q) (xag _) ⟨by show 2 <= sizeLine; decide, [u, v], .cons ru (.cons rr .nil), ⟨_, xav _ rfl, rfl, 0, rfl⟩⟩
  have fr : ∀ c ∈ [z, TI, TO, i1, i2], c ≠ s.heap.objs.size := fun c hc e => by
   simp only [xae, xaq, or_false] at hc
   obtain ⟨o1, q1, _⟩ := st.i1
   obtain ⟨o2, q2, _⟩ := st.i2
   rcases hc with rfl | rfl | rfl | rfl | rfl
   ·exact xan lz e
   ·exact xan (xab st.ti) e
   ·exact xan (xab hTO) e
   ·exact xan (xab q1) e
   ·exact xan (xab q2) e
  have I2 : Inv X pins σ (upd H s.heap.objs.size (.tup [x, y])) { s with heap := g', toks := s.toks } := by
   refine Inv.turnedL (s := { s with heap := s.heap.push (tp2 u v), toks := s.toks }) (h' := g') (t' := s.toks) (ch := [z, TI, TO, i1, i2]) I1 (fun c o hc e => ?_) fun c hc => ?_
   ·have cz : c ≠ z := fun q => hc (by simp [q])
    rcases xc7 e with ⟨rfl, rfl⟩ | e
    ·exact sb.extBut _ _ cz pg
    ·exact sb.extBut _ _ cz (kg c o cz (fun q => hc (by simp [q])) (fun q => hc (by simp [q])) (fun q => hc (by simp [q])) e)
   ·exact ⟨by rw [zak (fr c hc)]; exact (hf c hc).1, (hf c hc).2⟩
  refine ⟨.ref s.heap.objs.size, _, I2, rfl, ⟨_, x, y, rfl, I.fresh, rfl, fun zs hz => by rw [I.list_inj hz h1]; exact hx, fun zs hz => by rw [I.list_inj hz h2]; exact hy⟩, ⟨zg, sb.extBut _ _ D.TIz (kg _ _ D.TIz D.TITO D.TIi1 D.TIi2 st.ti), ⟨_, _, sb.extBut _ _ D.TOz Zto⟩, Zi1.at fun o e => sb.extBut _ _ D.i1z e, Zi2.at fun o e => sb.extBut _ _ D.i2z e⟩, fun c hc => by rw [zak (fr c hc)]; exact (hf c hc).1⟩
 done := by
  intro X hP hw hK hc i pins s σ H E I hf st hg
  subst hP hw hK
  obtain ⟨xs, ys, h1, h2, hx⟩ := hg
  obtain ⟨its, rv, p, _⟩ := I.list h1
  obtain ⟨jts, rw', p', _⟩ := I.list h2
  obtain ⟨ta, tb, hTO⟩ := st.to
  have hl := rv.length
  refine wpAny_pyNext_zip_end (I.ok.hd hc) D st.z st.ti hTO st.i1 st.i2 p.isList p'.isList (.inl (by simp; omega)) fun g kg => ⟨rfl, I.turnedL (t' := s.toks) (ch := [z, TI, TO, i1, i2]) (fun c o hc e => ?_) hf⟩
  exact kg c o (fun q => hc (by simp [q])) (fun q => hc (by simp [q])) (fun q => hc (by simp [q])) (fun q => hc (by simp [q])) e
 self := fun _ _ _ _ _ st h => wpAny_pyIter_zip st.z h
end L2
namespace DL
open L2 PyProof.Rows
section
variable {X : Cx} {E : XK}
def zxu (K : xFg) (ta : TA) : TI := fun σ H R => ta σ H fun vs H1 => ∃ a b, vs = [.ref a, .ref b] /\ (((∃ xs, SqT K H1 a xs) /\ (∃ ys, SqT K H1 b ys) /\ R (Itz K a b) H1) \/ ((∃ xs, SqL K H1 a xs) /\ (∃ ys, SqL K H1 b ys) /\ R (zxt K a b) H1))
theorem ztk {a b : Expr} {ta : TA} {p pos ps : Pos} {es : List Expr} {ct : Nat} (hg : Gl X "zip") (hm : X.mg "zip" = none) (ha : PA X [a, b] ta) (hs : starEach [a, b] X.env = [(false, eval a X.env), (false, eval b X.env)] := by rfl) (hs2 : starEach [b] X.env = [(false, eval b X.env)] := by rfl) :
  PI X (.Tuple es ct ps) (.Call (.Name "zip" p) [a, b] [] pos) (zxu X.K ta) := by
 intro pins s σ H R I h
 refine Call_ (zhK I hg hm boot_zip (PyProof.Rows.callWith_type1 (thn (ha pos pins s σ H _ I h) fun us s1 ⟨vs, H1, I1, r1, q1⟩ => ?_) (by rw [hs, hs2]) (by rw [hs2]; rfl)))
 obtain ⟨a, b, e, q⟩ := q1
 subst e
 cases r1 with
 | cons r rr =>
  cases rr with
  | cons r' rr =>
   cases rr
   cases r
   cases r'
   have fp : ∀ c ∈ [s1.heap.objs.size + 4, s1.heap.objs.size + 2, s1.heap.objs.size + 3, s1.heap.objs.size, s1.heap.objs.size + 1], zml X pins H1 c := fun c hc => by
    have hc : s1.heap.objs.size <= c := by
     simp only [xae, xaq, or_false] at hc
     rcases hc with rfl | rfl | rfl | rfl | rfl
     ·exact xcc _ _
     ·exact xcc _ _
     ·exact xcc _ _
     ·exact xag _
     ·exact xcc _ _
    exact I1.fpOk hc (I1.hok.fresh hc)
   rcases q with ⟨⟨xs, hx⟩, ⟨ys, hy⟩, q⟩ | ⟨⟨xs, hx⟩, ⟨ys, hy⟩, q⟩
   ·obtain ⟨its, _, p1, _⟩ := I1.tuple hx
    obtain ⟨jts, _, p2, _⟩ := I1.tuple hy
    have l1 : a < s1.heap.objs.size := by obtain ⟨o, e, _⟩ := p1; exact xab e
    have l2 : b < s1.heap.objs.size := by obtain ⟨o, e, _⟩ := p2; exact xab e
    refine zoX p1 p2 fun g Z kg => ?_
    refine wpAny_pyIter_zip Z.z ?_
    exact ⟨_, [s1.heap.objs.size + 4, s1.heap.objs.size + 2, s1.heap.objs.size + 3, s1.heap.objs.size, s1.heap.objs.size + 1], _, _, H1, rfl, I1.kept (t' := s1.toks) kg, zqq (zipApart_new l1 l2), ⟨Z.z, Z.ti, Z.to, Z.i1, Z.i2⟩, fp, q⟩
   ·obtain ⟨its, _, p1, _⟩ := I1.list hx
    obtain ⟨jts, _, p2, _⟩ := I1.list hy
    have l1 : a < s1.heap.objs.size := by obtain ⟨o, e, _⟩ := p1.isList; exact xab e
    have l2 : b < s1.heap.objs.size := by obtain ⟨o, e, _⟩ := p2.isList; exact xab e
    refine call_zip_2 p1.isList p2.isList fun g zz zti zto zi1 zi2 _ kg => ?_
    refine wpAny_pyIter_zip zz ?_
    exact ⟨_, [s1.heap.objs.size + 4, s1.heap.objs.size + 2, s1.heap.objs.size + 3, s1.heap.objs.size, s1.heap.objs.size + 1], _, _, H1, rfl, I1.kept (t' := s1.toks) kg, zo3 (zipApart_new l1 l2), ⟨zz, zti, ⟨_, _, zto⟩, zi1, zi2⟩, fp, q⟩
def zkA : List D -> R (List D)
 | [.tup xs, .tup ys] => bif xs.length == ys.length then .ok (zpw xs ys) else .bad
 | [.lst xs, .lst ys] => bif xs.length == ys.length then .ok (zpw xs ys) else .bad
 | _ => .bad
theorem zeG.zipL {K : xFg} {mg : Str -> Option Value} {G : Hp} {a b : Addr} {vs us : List V} {xs ys : List D} (h : SqL K G a vs) (h' : SqL K G b us) (r : Reps K mg G xs vs) (r' : Reps K mg G ys us) (hl : xs.length = ys.length) : zeG K mg (zxt K a b) G (zpw xs ys) := by
 have ln : (zpw xs ys).length = vs.length := by unfold zpw; rw [List.length_zipWith, <- hl, Nat.min_self, r.length]
 refine ⟨fun H e => ⟨vs, us, e.seq h, e.seq h', by rw [ln]; exact xag _⟩, fun H i d e hd => ?_⟩
 obtain ⟨x, y, hx, hy, rfl⟩ : ∃ x y, xs[i]? = some x /\ ys[i]? = some y /\ d = .tup [x, y] := by
  unfold zpw at hd
  rw [List.getElem?_zipWith] at hd
  cases ex : xs[i]? with
  | none => rw [ex] at hd; cases hd
  | some x =>
   cases ey : ys[i]? with
   | none => rw [ex, ey] at hd; cases hd
   | some y => rw [ex, ey] at hd; exact ⟨x, y, rfl, rfl, (Option.some.inj hd).symm⟩
 obtain ⟨v, hv, rv⟩ := r.get hx
 obtain ⟨u, hu, ru⟩ := r'.get hy
 refine ⟨⟨vs, us, v, u, e.seq h, e.seq h', hv, hu⟩, ?_⟩
 rintro _ H' ⟨T, v', u', rfl, hn, rfl, q1, q2⟩ G1 e1 e2
 have z1 := q1 _ (e.seq h)
 have z2 := q2 _ (e.seq h')
 rw [hv] at z1; cases z1
 rw [hu] at z2; cases z2
 have st := zbh.pub (o := .tup [v, u]) e2 hn
 exact ⟨upd G1 T (.tup [v, u]), st, T, [v, u], rfl, SqT.of zan, .cons (rv.mono (e1.trans st.g)) (.cons (ru.mono (e1.trans st.g)) rfl)⟩
theorem ztl {a b : Expr} {fs : DSt -> R (List D)} {p pos ps : Pos} {es : List Expr} {ct : Nat} (hm : X.mg "zip" = none) (ha : DA X E [a, b] fs) (hg : Gl X "zip" := by rfl) (hs : starEach [a, b] X.env = [(false, eval a X.env), (false, eval b X.env)] := by rfl) (hs2 : starEach [b] X.env = [(false, eval b X.env)] := by rfl) :
  DI X E (.Tuple es ct ps) (.Call (.Name "zip" p) [a, b] [] pos) (zdV zkA fs) := by
 refine PI.mono' (ztk hg hm ha hs hs2) fun σ H R ⟨G, σd, ok, q⟩ => ?_
 refine ⟨G, σd, ok, q.of_bind.mono (fun ds _ z vs G' H' s r => ?_) fun _ z => z⟩
 match ds, z, r with
 | [.tup xs, .tup ys], z, r =>
  obtain ⟨v, r1, rfl, ⟨a, as, rfl, h1, k1⟩, r2⟩ := r
  obtain ⟨v', r3, rfl, ⟨b, bs, rfl, h2, k2⟩, r4⟩ := r2
  cases r4
  cases hl : (xs.length == ys.length) with
  | false => simp only [zkA, hl, cond_false] at z; exact z.elim
  | true =>
   simp only [zkA, hl, cond_true] at z
   exact ⟨a, b, rfl, .inl ⟨⟨as, zaF.sqT s.e h1⟩, ⟨bs, zaF.sqT s.e h2⟩, z _ G' H' s (.zip h1 h2 k1 k2 (by simpa using hl))⟩⟩
 | [.lst xs, .lst ys], z, r =>
  obtain ⟨v, r1, rfl, ⟨a, as, rfl, h1, k1⟩, r2⟩ := r
  obtain ⟨v', r3, rfl, ⟨b, bs, rfl, h2, k2⟩, r4⟩ := r2
  cases r4
  cases hl : (xs.length == ys.length) with
  | false => simp only [zkA, hl, cond_false] at z; exact z.elim
  | true =>
   simp only [zkA, hl, cond_true] at z
   exact ⟨a, b, rfl, .inr ⟨⟨as, s.e.seq h1⟩, ⟨bs, s.e.seq h2⟩, z _ G' H' s (.zipL h1 h2 k1 k2 (by simpa using hl))⟩⟩
end
end DL
end
namespace DL
open L2 PyProof.Rows
def zek : List D -> Option (List Str)
 | [] => some []
 | .cls c :: ds => (zek ds).map (c :: ·)
 | _ => none
def zjT (c : Str) : List Str -> Option Bool
 | [] => some false
 | d :: ds => match zjj c d with
  | some true => some true
  | some false => zjT c ds
  | none => none
section
variable {X : Cx} {E : XK} {K : xFg} {mg : Str -> Option Value} {G H : Hp}
variable {x : Str} {p pos : Pos} {e : Expr} {es : List Expr} {fs : DSt -> R (List D)}
theorem Reps.clss : ∀ {ds : List D} {cs : List Str} {vs : List V}, zek ds = some cs -> Reps K mg G ds vs -> ∃ Ds : List Addr, vs = Ds.map V.ref /\ cs.map mg = Ds.map fun a => some (.ref a)
 | [], _, _, h, r => by cases h; cases r; exact ⟨[], rfl, rfl⟩
 | .cls c :: ds, _, _, h, ⟨v, t, e1, r1, r2⟩ => by
  subst e1
  cases hd : zek ds with
  | none => simp [zek, hd] at h
  | some cs' =>
   simp [zek, hd] at h
   subst h
   obtain ⟨Ds, rfl, e2⟩ := Reps.clss hd r2
   obtain ⟨C, rfl, hC⟩ := r1
   exact ⟨C :: Ds, rfl, by rw [xaz, xaz, hC, e2]⟩
 | .non :: _, _, _, h, _ => by simp [zek] at h
 | .bl _ :: _, _, _, h, _ => by simp [zek] at h
 | .int _ :: _, _, _, h, _ => by simp [zek] at h
 | .str _ :: _, _, _, h, _ => by simp [zek] at h
 | .ty _ :: _, _, _, h, _ => by simp [zek] at h
 | .tup _ :: _, _, _, h, _ => by simp [zek] at h
 | .lst _ :: _, _, _, h, _ => by simp [zek] at h
 | .dct _ _ :: _, _, _, h, _ => by simp [zek] at h
 | .exc _ _ :: _, _, _, h, _ => by simp [zek] at h
theorem zjU : ∀ {Ds : List Addr} {us : List Value}, zbi (Ds.map V.ref) us -> us = Ds.map Value.ref
 | [], _, h => by cases h; rfl
 | T :: Ts, _, h => by
  cases h with
  | cons q t =>
   rw [zjU t]
   rw [show _ = Value.ref T from q]; rfl
theorem zl8 {c : Str} {C : Addr} (hx : zkf K mg c C) : ∀ {cs : List Str} {Ds : List Addr} {b : Bool}, zjT c cs = some b -> (cs.map mg = Ds.map fun a => some (.ref a)) -> PySem.W.kitAny K (.ref C) (Ds.map Value.ref) = some b
 | [], [], _, h, _ => h
 | [], _ :: _, _, _, h => by cases h
 | _ :: _, [], _, _, h => by cases h
 | d :: cs, a :: Ds, b, h, he => by
  rw [xaz, xaz, List.cons.injEq] at he
  rw [xaz]
  unfold PySem.W.kitAny
  unfold zjT at h
  cases hs : zjj c d with
  | none => rw [hs] at h; cases h
  | some v =>
   rw [hs] at h
   rw [hx.isi d a v hs he.1]
   cases v with
   | true => exact h
   | false => exact zl8 hx h he.2
end
inductive KI | i (n : Int) (t : Tok) | s (x : Str) (t : Tok)
def KI.d : KI -> D
 | .i n _ => .int n
 | .s x _ => .str x
def KI.v : KI -> V
 | .i n _ => .int n
 | .s x _ => .str x
def KI.u : KI -> Value
 | .i n t => .int n t
 | .s x t => .str x t
section
variable {K : xFg} {mg : Str -> Option Value}
theorem zfK : ∀ l : List KI, zbi (l.map KI.v) (l.map KI.u)
 | [] => .nil
 | .i n t :: l => .cons ⟨t, rfl⟩ (zfK l)
 | .s x t :: l => .cons ⟨t, rfl⟩ (zfK l)
theorem zfL {G : Hp} : ∀ l : List KI, Reps K mg G (l.map KI.d) (l.map KI.v)
 | [] => Reps.nil
 | .i n t :: l => Reps.cons rfl (zfL l)
 | .s x t :: l => Reps.cons rfl (zfL l)
theorem zbL {G : Hp} {a : Addr} {dd : Option Addr} {its : Array Value} {n : Nat} {sl : Array (Option Value)} {l : List KI} (lk : K.lookup a = some ⟨.type "tuple", dd, .seq its n, sl⟩) (h : its.toList = l.map KI.u) (hz : l.length <= 100) : Rep K mg G (.tup (l.map KI.d)) (.ref a) := by
 refine ⟨a, _, rfl, .inr ⟨_, its, n, lk, rfl, rfl, ?_, by rw [h]; exact zfK l⟩, zfL l⟩
 rw [<- xas, h, xad]
 exact xa3 hz (by decide)
end
end DL
namespace PySem
open PySem.Sem (wp)
def zjV (h : Heap) (C : Addr) (vs : List Value) : Heap :=
 (h.push { cls := .type "tuple", data := .seq vs.toArray }).push { cls := .ref C, data := .fields #[.ref h.objs.size, .none, .none, .none, .bool false, .none] }
theorem ze7 {h : Heap} {C : Addr} {vs : List Value} (b : Addr) (o : Obj) (e : h.get? b = some o) : (zjV h C vs).get? b = some o := by
 unfold zjV
 exact xaa _ (xaa _ e)
theorem zjW {h : Heap} {C : Addr} {vs : List Value} : (zjV h C vs).get? (h.objs.size + 1) = some ⟨.ref C, none, .fields #[.ref h.objs.size, .none, .none, .none, .bool false, .none], #[]⟩ := by
 unfold zjV
 exact xb3 (xbn ..).symm rfl
structure zmK (h : Heap) (C fI : Addr) (bm : List Value) (o : Obj) : Prop where
 at_ : h.get? C = some o
 cls : ∃ nm q N bs hdct sn sub ab col dd k0 k1 k2 k3 k5, o = excClassObj nm q C N bs bm hdct sn sub ab col dd k0 k1 k2 k3 k5 "ValueError.__new__" /\ ∃ mN, h.Ns N mN /\ mN "__init__" = some (.ref fI)
 tail : OwnTail h [.type "ValueError", .type "Exception", .type "BaseException", .type "object"] bm
 fn : ∃ oI, h.get? fI = some oI /\ oI.cls = .type "function"
theorem zmK.keeps {h h' : Heap} {C fI : Addr} {bm : List Value} {o : Obj} (k : ∀ b o, h.get? b = some o -> h'.get? b = some o) (x : zmK h C fI bm o) : zmK h' C fI bm o := by
 obtain ⟨e1, ⟨nm, q, N, bs, hdct, sn, sub, ab, col, dd, k0, k1, k2, k3, k5, eo, mN, e2, e3⟩, e4, oI, e5, e6⟩ := x
 exact ⟨k _ _ e1, ⟨nm, q, N, bs, hdct, sn, sub, ab, col, dd, k0, k1, k2, k3, k5, eo, mN, e2.keeps k, e3⟩, e4.keeps k, oI, k _ _ e5, e6⟩
section
variable {prog : Program} {w : World} {A : Around} {E : Value -> Shared -> Prop} {C fI : Addr} {bm vs : List Value} {oC : Obj}
theorem zo4 {s : Shared} {Q : Value -> Shared -> Prop} (x : zmK s.heap C fI bm oC) (hz : vs.length <= sizeLine)
  (h : wpAny (model prog w) (A.under (.builtin "type.__call__" ⟨.ref C :: vs, []⟩)) (call (.ref fI) (.ref (s.heap.objs.size + 1) :: vs)) (fun r s' => r = .none /\ Q (.ref (s.heap.objs.size + 1)) s') E { s with heap := zjV s.heap C vs }) :
  wpAny (model prog w) A (call (.ref C) vs) Q E s := by
 have y := x.keeps (ze7 (C := C) (vs := vs))
 obtain ⟨lk, ⟨nm, q, N, bs, hdct, sn, sub, ab, col, dd, k0, k1, k2, k3, k5, rfl, mN, hn, hi⟩, tl, oI, ef, cf⟩ := x
 obtain ⟨lk', ⟨_, _, _, _, _, _, _, _, _, _, _, _, _, _, _, _, _⟩, tl', _⟩ := y
 obtain ⟨hp, g, d, tk, os⟩ := s
 have V := PySem.F.excBase_ValueError
 have b0 : ([.type "ValueError", .type "Exception", .type "BaseException", .type "object"] : List Value).contains (.type "ValueError") = true := by decide
 have callsType := tc_lookup
 have bindsType := tc_bind (.ref C)
 have isType : (⟨hp, g, d, tk, os⟩ : Shared).TypeIs (.ref C) "type" := ⟨_, lk, rfl⟩
 have itself : (Value.ref C :: bm).contains (.ref C) = true := by rw [List.contains_cons, beq_self_eq_true, Bool.true_or]
 refine wpAny_call (codeAny_of_tree (show wpAny _ _ (callAny (.ref C) _) _ _ _ from ?_))
 repeat (any_goals (first | assumption | with_reducible refine wpAny_loadPart_at lk ?_ | with_reducible refine wpAny_madeBy_exc lk ?_ | wp_step))
 refine ⟨rfl, codeAny_call_builtin_at (Code.quiet_builtin _ (by decide +kernel)) entry_typeCall (wpAny_check_type_call_sub lk ?_)⟩
 unfold Builtin.«type.__call__»
 repeat (any_goals (first | assumption | with_reducible refine wpAny_loadPart_at lk ?_ | with_reducible refine wpAny_madeBy_exc lk ?_ | wp_step))
 refine codeAny_call_builtin_code (Code.quiet_builtin _ V.quiet) (wpAny_check_new_subU V b0 tl lk (codeAny_exc_new_subU V b0 V tl lk (show wpAny _ _ _ _ _ _ from ?_) hz))
 change wpAny _ _ _ _ _ ⟨zjV hp C vs, g, d, tk, os⟩
 have en := zjW (h := hp) (C := C) (vs := vs)
 unfold isInstance
 repeat (first | (with_reducible refine wpAny_loadPart_at en ?_) | (with_reducible refine wpAny_isSubtype_exc lk' ?_; rw [itself]) | wp_step)
 refine (show wpAny _ _ (typeLookup (.ref C) "__init__") _ _ _ from wpAny_typeLookup_tail lk' (hn.keeps ze7) tl' V.mroIs V.init.lookup ?_)
 rw [hi]
 refine wpAny_holding (wpAny_bind (show wpAny _ _ (bindSpecial (.ref fI) _) _ _ _ from ?_))
 unfold bindSpecial
 refine wpAny_bind (wpAny_typeOf (T := "function") ⟨oI, ze7 _ _ ef, cf⟩ ?_)
 rw [if_pos (by decide)]
 refine wpAny_pure (wpAny_bind (wpAny_mono h (fun r s' z => ?_) fun _ _ z => z))
 obtain ⟨rfl, z⟩ := z
 wp_walk
 exact z
theorem zmL {s : Shared} {env : Env} {x : Str} {np cpos pos : Pos} {args : List Expr} {Q : Flow -> Shared -> Prop} (hh : A.handled = none) (hpl : (backTo cpos (starEach args env)).any (·.1) = false)
  (h : wpAny (model prog w) A (eval (.Name x np) env) (fun f s1 => f = .ref C /\ wpAny (model prog w) A (evalArgs (.ref C) true (backTo cpos (starEach args env)) []) (fun a s2 => a.kw = [] /\ a.pos.length <= sizeLine /\ zmK s2.heap C fI bm oC /\
   wpAny (model prog w) (A.under (.builtin "type.__call__" ⟨.ref C :: a.pos, []⟩)) (call (.ref fI) (.ref (s2.heap.objs.size + 1) :: a.pos)) (fun r s' => r = .none /\ s'.heap.get? C = some oC /\
    (∃ t dx sl, s'.heap.get? (s2.heap.objs.size + 1) = some ⟨.ref C, dx, .fields #[.ref t, .none, .none, .none, .bool false, .none], sl⟩) /\ E (.ref (s2.heap.objs.size + 1)) s') E { s2 with heap := zjV s2.heap C a.pos }) E s1) E s) :
  wpAny (model prog w) A (exec (.Raise (some (.Call (.Name x np) args [] cpos)) none pos) env) Q E s := by
 rw [arm_exec_Raise]
 refine wpAny_bind (wpAny_standAt ?_)
 unfold raiseStmt
 refine wpAny_bind (wpAny_bind (wpAny_mono (wpAny_Call_ofName (wpAny_mono h (fun f s1 ⟨e1, q1⟩ => ?_) fun _ _ z => z)) (fun v s3 z => wpAny_bind (wpAny_standAt (wpAny_pure z))) fun _ _ z => z))
 subst e1
 unfold callWith
 refine wpAny_bind (wpAny_holding (wpAny_mono q1 (fun a s2 q2 => wpAny_bind (wpAny_standAt ?_)) fun _ _ z => z))
 obtain ⟨us, ks⟩ := a
 obtain ⟨hk, hz, x2, q3⟩ := q2
 obtain rfl : ks = [] := hk
 simp only [hpl]
 have lk : s2.heap.get? C = some oC := x2.at_
 have bas : (Value.ref C :: bm).contains (.type "BaseException") = true := by rw [List.contains_cons, x2.tail.hasType PySem.F.excBase_ValueError.hasBase, Bool.or_true]
 obtain ⟨nm, q, N, bs, hdct, sn, sub, ab, col, dd, k0, k1, k2, k3, k5, eo, _⟩ := x2.cls
 refine wpAny_bind (wpAny_keeperOf_exc (eo ▸ lk) (wpAny_bind (zo4 x2 hz (wpAny_mono q3 (fun r s4 ⟨e2, lk4, ⟨t, dx, sl, ex⟩, fin⟩ => ⟨e2, ?_⟩) fun _ _ z => z))))
 refine wpAny_bind (wpAny_holding (wpAny_point (wpAny_pure ?_)))
 rw [eo] at lk4
 obtain ⟨hp, g, d, tk, os⟩ := s4
 repeat (first | with_reducible refine wpAny_loadPart_at ex ?_ | with_reducible refine wpAny_loadPart_at lk4 ?_ | (with_reducible refine wpAny_isSubtype_exc lk4 ?_; rw [bas]) | wp_step)
 exact wpAny_raiseNew_none hh fin
end
end PySem
namespace L2
open PySem.Spec PyProof.Rows
abbrev bmV : List Value := [.type "ValueError", .type "Exception", .type "BaseException", .type "object"]
def zwk (K : xFg) (C : Addr) : Prop := ∃ cd Ck, PySem.W.clsIn K C = some cd /\ cd.mro = .ref C :: .ref Ck :: bmV
section
open PySem.W Builtin Builtin.ObjectAttr
variable {prog : Program} {w : World} {A : Around} {R : Result -> Shared -> Prop} {s : Shared} {K : Frag} {x C : Addr}
theorem ztm {ox : Obj} {od : Option Obj} {name : Str} {tk : Tok} {v : Value} (kin : K.In s.heap) (at_ : InstAt s.heap x ox C od) (mv : zwk K C) (ob : mroIn K C (.type "object") = some true) (free : takerIn K C name = some none)
  (fin : ∀ b, wpAny (model prog w) A.in1 (storeInOwnDict (.ref x) (.ref C) (.str name tk) name v b) (fun z s' => match z with
   | .done f => R (.ok f) s'
   | .again c => c.quiet = true /\ codeAny (model prog w) A c R s') (fun e s' => R (.error e) s') s) :
  codeAny (model prog w) A (.call (.builtin "object.__setattr__") ⟨[.ref x, .str name tk, v], []⟩) R s := by
 obtain ⟨cd, Ck, isC, mro⟩ := mv
 have O := PySem.F.store_object
 obtain ⟨attr, found, none_⟩ := Option.bind_eq_some_iff.mp free
 have taker : Looks (model prog w) s.heap (storeTaker? attr) none := match attr, none_ with
  | none, _ => .now
  | some a, e => by
   obtain ⟨t, tt, et⟩ := xb0.mp e
   cases t
   ·exact (looks_takesIn kin tt).andThen .now
   ·cases et
 have passes : refuseLoop (.ref x) "__setattr__" cd.mro = pure () := by
  rw [mro, refuseLoop_ref, refuseLoop_ref]
  exact PySem.F.store_ValueError.passes (.ref x)
 have mroL : Looks (model prog w) s.heap (mroOf (.ref C)) cd.mro := Looks.andThen (looks_clsIn kin isC) .now
 refine codeAny_call_builtin O.slot.plain O.entry (@check_slot (model prog w) _ _ s _ "object" "__setattr__" (.ref x) [.str name tk, v] [] _ O.kind O.split (at_.type.andThen (looks_mroIn kin ob)) (O.args _ _ _) ?_)
 rw [osa_eq, refuse_eq]
 exact wpAny_bind (wpAny_bind (at_.type.here (wpAny_bind (mroL.here (by
  rw [passes]
  exact wpAny_pure (wpAny_bind (at_.type.here (wpAny_bind ((looks_findIn kin found).here (wpAny_bind (taker.here (fin _))))))))))))
end
section
variable {prog : Program} {w : World} {A : Around} {E : Value -> Shared -> Prop} {s : Shared} {K : xFg} {x C : Addr} {vs : Array Value} {sl : Array (Option Value)} {name : Str} {v : Value}
def zqv (h : Heap) (x : Addr) : Heap := (h.push { cls := .type "dict", data := .dict #[] }).update x fun o => { cls := o.cls, dict := some h.objs.size, data := o.data, slots := o.slots }
theorem ztn {Q : Unit -> Shared -> Prop} (kin : K.In s.heap) (hx : s.heap.get? x = some ⟨.ref C, none, .fields vs, sl⟩)
  (sa : PySem.W.findIn K (.ref C) "__setattr__" = some (some (.builtin "object.__setattr__"))) (mv : zwk K C) (ob : PySem.W.mroIn K C (.type "object") = some true) (free : PySem.W.takerIn K C name = some none) (has : PySem.W.hasDictIn K C = true)
  (h : ∀ h', h'.get? x = some ⟨.ref C, some s.heap.objs.size, .fields vs, sl⟩ -> h'.Ns1 s.heap.objs.size (fun y => if y = name then some v else none) -> (∀ b o, b ≠ x -> s.heap.get? b = some o -> h'.get? b = some o) -> Q () { s with heap := h', toks := s.toks + 2 }) :
  wpAny (model prog w) A (setAttr (.ref x) name v) Q E s := by
 have inst : PySem.W.InstAt s.heap x ⟨.ref C, none, .fields vs, sl⟩ C none := ⟨hx, rfl, rfl, trivial⟩
 have far : x ≠ s.heap.objs.size := xan (xab hx)
 have hx1 : (s.heap.push { cls := .type "dict", data := .dict #[] }).get? x = some ⟨.ref C, none, .fields vs, sl⟩ := xaa _ hx
 have dx : (zqv s.heap x).get? x = some ⟨.ref C, some s.heap.objs.size, .fields vs, sl⟩ := xbu _ hx1 rfl
 have bare : (zqv s.heap x).Ns1 s.heap.objs.size fun _ => none := .of_empty ⟨_, #[], 0, (xck _ _ _ _ far.symm).trans (xb3 rfl rfl), rfl, (fun e he => by cases he with | mk q => cases q), fun _ => rfl⟩
 have old : ∀ b o, b ≠ x -> s.heap.get? b = some o -> (zqv s.heap x).get? b = some o := fun b o nb e => (xck _ _ _ _ nb).trans (xaa _ e)
 obtain ⟨cd, isC, hasD⟩ := PySem.W.any_some has
 refine PySem.W.set_plain kin inst sa (ztm (s := { s with toks := s.toks + 1 }) kin inst mv ob free fun b => wpAny_bind (wpAny_pure (wpAny_bind (wpAny_bind (wpAny_loadPart hx (wpAny_bind ?_))))))
 refine PySem.W.Looks.here (s := { s with toks := s.toks + 1 }) (PySem.W.looks_clsIn kin isC) ?_
 rw [hasD]
 refine wpAny_bind (wpAny_alloc' (wpAny_bind (wpAny_update' hx1 (wpAny_pure (a := some s.heap.objs.size) (wpAny_bind (wpAny_pure (wpAny_bind ?_)))))))
 refine wpAny_nsSet1 (s := { s with heap := zqv s.heap x, toks := s.toks + 1 }) bare fun g ns same => ?_
 obtain ⟨od, es, n, lk, dat, few⟩ := ns.count (Within.cons name v Within.nil)
 have fits : es.size <= sizeLine + 1 := xa3 few (by show 1 <= sizeLine + 1; decide)
 refine wpAny_bind (wpAny_lookBehind lk (by rw [dat]; exact pastItsLine_dict fits) (wpAny_pure ?_))
 exact h g ((same.2 x far).trans dx) ns fun b o nb e => (same.2 b (xan (xab e))).trans (old b o nb e)
end
end L2
namespace L2
open PySem.Spec PyProof.Rows
def ztp (x C : Addr) : HO := .ext fun h => ∃ t sl, h.get? x = some ⟨.ref C, none, .fields #[.ref t, .none, .none, .none, .bool false, .none], sl⟩
def zki (x C dx : Addr) : HO := .ext fun h => ∃ t sl, h.get? x = some ⟨.ref C, some dx, .fields #[.ref t, .none, .none, .none, .bool false, .none], sl⟩
structure XA (K : xFg) (C : Addr) (n : Str) : Prop where
 sa : PySem.W.findIn K (.ref C) "__setattr__" = some (some (.builtin "object.__setattr__"))
 mo : zwk K C
 ob : PySem.W.mroIn K C (.type "object") = some true
 tk : PySem.W.takerIn K C n = some none
 hd : PySem.W.hasDictIn K C = true
section
variable {X : Cx} {pins : List (Addr × Obj)} {σ : St} {H : Hp} {s : Shared} {x C : Addr}
theorem Inv.xat {n : Str} {y : V} {u : Value} {h' : Heap} {t : Addr} {sl : Array (Option Value)} (I : Inv X pins σ H s) (e : H x = some (ztp x C)) (ry : zbg y u) (hx0 : s.heap.get? x = some ⟨.ref C, none, .fields #[.ref t, .none, .none, .none, .bool false, .none], sl⟩)
  (hx' : h'.get? x = some ⟨.ref C, some s.heap.objs.size, .fields #[.ref t, .none, .none, .none, .bool false, .none], sl⟩) (hn : h'.Ns1 s.heap.objs.size (fun z => if z = n then some u else none)) (hk : ∀ b o, b ≠ x -> s.heap.get? b = some o -> h'.get? b = some o) {tk : Nat} :
  Inv X pins σ (upd (upd H x (zki x C s.heap.objs.size)) s.heap.objs.size (.xd [(n, y)])) { s with heap := h', toks := tk } := by
 have g1 : (s.heap.update x fun o => { o with dict := some s.heap.objs.size }).get? x = some ⟨.ref C, some s.heap.objs.size, .fields #[.ref t, .none, .none, .none, .bool false, .none], sl⟩ := xbu _ hx0 rfl
 have I1 := I.write (x := x) (e := x) (o := zki x C s.heap.objs.size) (h' := s.heap.update x fun o => { o with dict := some s.heap.objs.size }) (t' := s.toks) (by rw [e]; exact True.intro) (.inl rfl) (fun b u hb q => (xck _ _ _ _ hb).trans q) ⟨_, g1⟩
  ⟨⟨t, sl, g1⟩, ⟨_, g1⟩, fun h1 h2 ⟨t, sl, q⟩ k => ⟨t, sl, k _ q⟩⟩
 refine I1.laid (a := s.heap.objs.size) (o := .xd [(n, y)]) (h' := h') (t' := tk) (fun b u q => ?_) (by show (s.heap.update x _).objs.size <= _; rw [Heap.size_update]; exact xag _) ⟨_, hn, fun f => ?_⟩
 ·by_cases hb : b = x
  ·subst hb
   have q : (s.heap.update b fun o => { o with dict := some s.heap.objs.size }).get? b = some u := q
   rw [g1] at q; cases q; exact hx'
  ·have q : (s.heap.update x fun o => { o with dict := some s.heap.objs.size }).get? b = some u := q
   rw [xck _ _ _ _ hb] at q
   exact hk b u hb q
 ·show ztH (List.lookup f [(n, y)]) (if f = n then some u else none)
  by_cases hf : f = n
  ·subst hf
   rw [if_pos rfl, xbi, beq_self_eq_true]
   exact ry
  ·rw [if_neg hf, xbi, show (f == n) = false from beq_false_of_ne hf]
   exact True.intro
theorem zr2 {o value : Expr} {n : Str} {pos pos' : Pos} {ta tv : TE} (ha : PE X o ta) (hv : PE X value tv) (hs : swapsWith value (some (.Attribute o n pos')) pos.line X.env = pure false) :
  PS X (.Assign [.Attribute o n pos'] value pos) (fun D σ H => tv σ H fun y H1 => ta σ H1 fun z H2 => ∃ a C, z = .ref a /\ H2 a = some (ztp a C) /\ XA X.K C n /\ ∀ dx, H2 dx = none -> dx ≠ a -> D.nx σ (upd (upd H2 a (zki a C dx)) dx (.xd [(n, y)]))) := by
 intro pins s σ H D I h
 refine plainObj_wpAny_Assign_Attribute (thn (hv pins s σ H _ I h) fun u s1 ⟨y, H1, I1, ry, q⟩ => thn (ha pins s1 σ H1 _ I1 q) fun ov s2 ⟨z, H2, I2, rx, a, C, ex, ea, xa, q2⟩ => ?_) hs
 subst ex
 obtain rfl : ov = Value.ref a := rx
 obtain ⟨⟨t, sl, hx⟩, _⟩ := (show zcr X.prog X.w H2 s2.heap a (ztp a C) from I2.hok a _ ea)
 refine ztn I2.kIn hx xa.sa xa.mo xa.ob xa.tk xa.hd fun h' hx' hn' hk => ⟨σ, _, I2.xat ea ry hx hx' hn' hk, q2 _ (I2.hok.fresh (xag _)) ?_⟩
 exact fun z => xan (xab hx) z.symm
end
def spX (C : Addr) (n : Str) : Sp := fun vs H Q _ => ∃ a v, vs = [.ref a, v] /\ H a = some (ztp a C) /\ ∀ dx, H dx = none -> dx ≠ a -> Q .non (upd (upd H a (zki a C dx)) dx (.xd [(n, v)]))
def off (H : Hp) (x : Addr) : Hp := fun b => if b = x then none else H b
theorem ze8 {H : Hp} {x b : Addr} (h : b ≠ x) : off H x b = H b := by unfold off; rw [if_neg h]
theorem zgt (H : Hp) (x : Addr) : off H x x = none := by unfold off; rw [if_pos rfl]
section
variable {X : Cx} {pins : List (Addr × Obj)} {σ : St} {H : Hp} {s : Shared} {x C dx : Addr} {E : XK} {M : Model} {EE : Value -> Shared -> Prop}
theorem zkB {tk : Nat} (I : Inv X pins σ H s) (hst : X.stack = X.env :: X.outer) (hf : X.env.frame = some X.env.locals) (hex : X.ex = []) (hx : H x = some (zki x C dx)) (new : X.s₀.heap.get? x = none) (hE : E (.ref C) (some dx) (off H x)) :
  wpAny M X.A (leaving X.env (.ref x)) (fun _ s2 => CXe X.prog X.w X.outer X.H₀ X.s₀ E (.ref x) s2) EE { s with toks := tk } := by
 have stk := I.stack
 have hfr : X.A.frames = some (X.env :: X.outer) := by rw [<- hst]; exact I.ok.frames
 rw [hst] at stk
 have fc : frs (X.env :: X.outer) = X.env.locals :: X.fs := zio hf
 have hin : ∀ env ∈ (X.env :: X.outer), ∀ b, env.frame = some b -> b ∈ x :: frs (X.env :: X.outer) := fun env he b hb => xaf _ (xbl.mpr ⟨env, he, hb⟩)
 generalize eB : PySem.W.hideAll s.heap (x :: frs (X.env :: X.outer)) = B
 have inB : ∀ b o, s.heap.get? b = some o -> b ∉ frs (X.env :: X.outer) -> b ≠ x -> B.get? b = some o := fun b o e n nx => by
  rw [<- eB]
  exact PySem.W.hideAll_get _ e fun q => (xae.mp q).elim nx n
 have ofB : ∀ b o, B.get? b = some o -> s.heap.get? b = some o := fun b o e => by rw [<- eB] at e; exact PySem.W.of_hideAll _ e
 have fl0 : s.heap.FunFrames B (X.env :: X.outer) := by rw [<- eB]; exact PySem.W.funFrames_hide stk hin
 have nx : B.get? x = none := by rw [<- eB]; exact PySem.W.hideAll_none _ xal
 obtain ⟨⟨t, sl, et⟩, _⟩ := (show zcr X.prog X.w H s.heap x (zki x C dx) from I.hok x _ hx)
 have tfree : ∀ b u, H b = some u -> b ∉ frs (X.env :: X.outer) := fun b u e hb => by
  have := I.stkFree b (by rw [hst]; exact hb)
  rw [e] at this; cases this
 unfold leaving
 refine wpAny_bind (zi8 (s := { s with toks := tk }) hfr fl0 hf et ofB nx rfl rfl fun h1 F1 u1 => zeT F1 fun h2 F2 u2 => ?_)
 have up : s.heap.UpToSlots h2 := u1.trans u2
 have keep2 : ∀ b o, s.heap.get? b = some o -> b ∉ frs (X.env :: X.outer) -> b ≠ x -> h2.get? b = some o := fun b o e n nb => F2.stays b o (inB b o e n nb)
 have below : ∀ b o, X.s₀.heap.get? b = some o -> b ∉ X.fs -> b ∉ frs (X.env :: X.outer) := fun b o e nb hb => by
  rw [fc] at hb
  rcases xae.mp hb with z | z
  ·exact absurd (xai (xab e) I.ok.above) (by rw [z]; exact xbm _)
  ·exact nb z
 have nex : ∀ b o, X.s₀.heap.get? b = some o -> b ≠ x := fun b o e z => by rw [z, new] at e; cases e
 have noex : ∀ b, b ∉ X.ex := fun b z => by rw [hex] at z; cases z
 have slot2 : ∀ b o, s.heap.get? b = some o -> b ∈ X.fs -> ∃ sl, h2.get? b = some { o with slots := sl } := fun b o e hb => by
  obtain ⟨_, o1, e1, nf⟩ := stk.mem (b := b) (by show b ∈ frs (X.env :: X.outer); rw [fc]; exact xaf _ hb)
  rw [e] at e1; cases e1
  exact up b o e nf
 have o2 : ∃ o, h2.get? x = some o := by
  obtain ⟨ox, _, _, _, _, e, _⟩ := F2.obj
  exact ⟨ox, e⟩
 refine ⟨x, C, some dx, off H x, B, rfl, I.os, I.bare, ⟨fun b o e n hb _ => keep2 b o (I.base.keep b o e n hb (noex b)) (below b o e hb) (nex b o e), fun b o e n hb _ => ?_, fun b o e n _ => ?_, fun b o e _ => ?_, fun b xs q => ?_, fun b o u q => ?_, fun b ps q => ?_⟩,
  fun b u e => ?_, F2.out, ⟨fun b o e nb o' e' => ?_, fun b u e o' e' => ?_⟩, zgt _ _, hE⟩
 ·obtain ⟨sl, e1⟩ := I.base.slot b o e n hb (noex b)
  obtain ⟨sl2, e2⟩ := slot2 b _ e1 hb
  exact ⟨sl2, e2⟩
 ·rw [ze8 (nex b o e)]; exact I.base.free b o e n (noex b)
 ·obtain ⟨o1, e1⟩ := I.base.there b o e (noex b)
  by_cases hb : b ∈ X.fs
  ·obtain ⟨sl2, e2⟩ := slot2 b _ e1 hb
   exact ⟨_, e2⟩
  ·exact ⟨o1, keep2 b o1 e1 (below b o e hb) (nex b o e)⟩
 ·have z := I.base.tups b xs q
  have ne : b ≠ x := fun w => by rw [w, hx] at z; unfold zki at z; cases z
  rw [ze8 ne]; exact z
 ·have z := I.base.frzs b o u q
  have ne : b ≠ x := fun w => by rw [w, hx] at z; unfold zki at z; cases z
  rw [ze8 ne]; exact z
 ·obtain ⟨more, z⟩ := I.base.tbls b ps q
  have ne : b ≠ x := fun w => by rw [w, hx] at z; unfold zki at z; cases z
  exact ⟨more, by rw [ze8 ne]; exact z⟩
 ·have nb : b ≠ x := fun w => by rw [w, zgt] at e; cases e
  rw [ze8 nb] at e
  refine (I.hok b u e).stay (fun c v hc q => ?_) (fun c q => ?_) fun c xs q => ?_
  ·rcases hc with z | z
   ·rw [z] at q ⊢; exact keep2 b v q (tfree b u e) nb
   ·have nc : c ≠ x := fun w => by rw [w, hx] at z; unfold zki at z; cases z
    exact keep2 c v q (tfree c _ z) nc
  ·have nc : c ≠ x := fun w => by rw [w, hx] at q; unfold zki at q; cases q
   rw [ze8 nc]; exact q
  ·have nc : c ≠ x := fun w => by rw [w, hx] at q; unfold zki at q; cases q
   rw [ze8 nc]; exact q
 ·obtain ⟨o1, e1⟩ := I.base.there b o e (noex b)
  have q := inB b o1 e1 (below b o e nb) (nex b o e)
  rw [F2.stays b o1 q] at e'
  cases e'; exact q
 ·have nb : b ≠ x := fun w => by rw [w, zgt] at e; cases e
  rw [ze8 nb] at e
  obtain ⟨o1, e1⟩ := (I.hok b u e).there
  have q := inB b o1 e1 (tfree b u e) nb
  rw [F2.stays b o1 q] at e'
  cases e'; exact q
end
end L2
namespace L2
open PySem.Spec PyProof.Rows
def zxv (K : xFg) (C f : Addr) : Prop := ∃ bm o, ∀ h : Heap, K.In h -> zmK h C f bm o
def zkC (es : Array DictEntry) : Bool := es.toList.all fun e => match e.key with | .str _ _ => true | _ => false
theorem zkD {K : xFg} {C Ck N f : Addr} {nm qn : Str} {bs : List Value} {hdct : Bool} {sn : List Str} {sub : List Value} {ab : Bool} {col : Option Bool} {dd : Option Addr} {k0 k1 k2 k3 k5 : Option Value} {oc : Value} {od : Option Addr} {es : Array DictEntry} {n : Nat} {sl : Array (Option Value)}
  (lk : K.lookup C = some (excClassObj nm qn C N bs (.ref Ck :: bmV) hdct sn sub ab col dd k0 k1 k2 k3 k5 "ValueError.__new__")) (q : PySem.W.excIn K Ck bmV "ValueError.__new__" = true) (ln : K.lookup N = some ⟨oc, od, .dict es n, sl⟩) (sk : zkC es = true)
  (hi : PySem.W.nsIn K N "__init__" = some (some (.ref f))) (hfn : PySem.W.isFn K (.ref f) = true) : zxv K C f /\ zwk K C := by
 refine ⟨⟨.ref Ck :: bmV, excClassObj nm qn C N bs (.ref Ck :: bmV) hdct sn sub ab col dd k0 k1 k2 k3 k5 "ValueError.__new__", fun h X => ?_⟩, ?_⟩
 ·obtain ⟨bm, Nk, nmk, qnk, bsk, hdk, snk, subk, abk, colk, ddk, j0, j1, j2, j3, j5, mK, hC, hN, hni, T⟩ := znw X q
  have hns : h.Ns N (nsFind es) := by
   refine ⟨_, es, n, X _ _ ln, rfl, fun e he => ?_, fun _ => rfl⟩
   have := xa1.mp sk e (Array.mem_toList_iff.mpr he)
   revert this
   cases e.key with
   | str x t => intro _; exact ⟨x, t, rfl⟩
   | _ => intro z; cases z
  have hin : nsFind es "__init__" = some (.ref f) := by
   unfold PySem.W.nsIn at hi
   rw [ln] at hi
   dsimp only at hi
   split at hi
   ·rename_i en he
    have hv := Option.some.inj hi
    unfold nsFind findBy
    rw [<- Array.find?_toList, he]; exact hv
   ·split at hi <;> cases hi
  have z : PySem.W.typeIn K (.ref f) = some (.type "function") := beq_iff_eq.mp hfn
  obtain ⟨o, e1, e2⟩ := xb0.mp (show (K.lookup f).map (·.cls) = some (.type "function") from z)
  exact ⟨X _ _ lk, ⟨nm, qn, N, bs, hdct, sn, sub, ab, col, dd, k0, k1, k2, k3, k5, rfl, _, hns, hin⟩, .own hC hN hni .base, o, X _ _ e1, e2⟩
 ·exact ⟨_, Ck, by unfold PySem.W.clsIn; rw [lk], rfl⟩
theorem zqw {H : Hp} {x dx : Addr} {a b c : HO} (hx : H x = none) (hd : dx ≠ x) : off (upd (upd (upd H x a) x b) dx c) x = upd H dx c := by
 funext y
 by_cases hy : y = x
 ·subst hy; rw [zgt, zak hd.symm, hx]
 ·rw [ze8 hy]
  by_cases h2 : y = dx
  ·subst h2; rw [zan, zan]
  ·rw [zak h2, zak h2, zak hy, zak hy]
def ztq (C : Addr) (n : Str) (dvs : List V) (ta : TA) (E : XK) : TS := fun _ σ H => ta σ H fun vs H1 => ∃ v, vs ++ dvs = [v] /\ ∀ dx, H1 dx = none -> E (.ref C) (some dx) (upd H1 dx (.xd [(n, v)]))
section
variable {P : Program} {w : World} {K : xFg} {mg : Str -> Option Value} {base : Heap} {N : List Str} {qual : Str} {scope : Scope} {f : Addr} {cdv : Value} {A : Around} {outer : List Env} {s0 : Shared} {H0 : Hp} {E : XK}
theorem zvW {x : Str} {C fI : Addr} {n : Str} {args : List Expr} {np cpos pos : Pos} {ta : TA} {fd : FuncData} {k : Nat} {ds : List Value} {dvs : List V} (q : zxv K C fI)
  (F : zgj P w K mg base (CXe P w) k fI fd ["self", n] (spX C n)) (hb : zgx K fd ["self", n] ds) (hd : zbi dvs ds)
  (hr : zeD (k + 1) (zdc (CXe P w) P w K mg base N qual scope f cdv A outer s0 H0 E).A)
  (hg : Gl (zdc (CXe P w) P w K mg base N qual scope f cdv A outer s0 H0 E) x) (hm : mg x = some (.ref C))
  (ha : ∀ pins s σ H (Q : List V -> Hp -> Prop), Inv (zdc (CXe P w) P w K mg base N qual scope f cdv A outer s0 H0 E) pins σ H s -> ta σ H Q -> wpAny (model P w) (zdc (CXe P w) P w K mg base N qual scope f cdv A outer s0 H0 E).A (evalArgs (.ref C) true (backTo cpos (starEach args (envOfC qual scope s0.heap.objs.size f cdv))) []) (fun a s2 => a.kw = [] /\ ∃ vs H1, Inv (zdc (CXe P w) P w K mg base N qual scope f cdv A outer s0 H0 E) pins σ H1 s2 /\ zbi vs a.pos /\ Q vs H1) (zdc (CXe P w) P w K mg base N qual scope f cdv A outer s0 H0 E).xe s)
  (hpl : (backTo cpos (starEach args (envOfC qual scope s0.heap.objs.size f cdv))).any (·.1) = false)
  (hdb : (x == ("__debug__" : Str)) = false := by decide) :
  PS (zdc (CXe P w) P w K mg base N qual scope f cdv A outer s0 H0 E) (.Raise (some (.Call (.Name x np) args [] cpos)) none pos) (ztq C n dvs ta E) := by
 intro pins s σ H D I h
 obtain ⟨bm, oC, init⟩ := q
 refine zmL (C := C) (fI := fI) (bm := bm) (oC := oC) (I.ok.hd rfl) hpl (zfF I hg hm ⟨rfl, ?_⟩ hdb)
 refine thn (ha pins s σ H _ I h) fun a s2 ⟨hkw, vs, H1, I1, r, v, hv, hE⟩ => ?_
 obtain ⟨us, akw⟩ := a
 obtain rfl : akw = [] := hkw
 have r : zbi vs us := r
 have hlen : us.length <= 1 := by
  have h1 := congrArg List.length hv
  rw [xbr, List.length_singleton] at h1
  have := r.length
  omega
 refine ⟨rfl, xa3 hlen (by decide), init _ I1.kIn, ?_⟩
 have gx := zjW (h := s2.heap) (C := C) (vs := us)
 have I2 := I1.laid (a := s2.heap.objs.size + 1) (o := ztp (s2.heap.objs.size + 1) C) (h' := zjV s2.heap C us) (t' := s2.toks) ze7 (Nat.le_succ _) ⟨⟨_, _, gx⟩, ⟨_, gx⟩, fun h1 h2 ⟨t, sl, q⟩ k => ⟨t, sl, k _ q⟩⟩
 have r2 : zbi (V.ref (s2.heap.objs.size + 1) :: (vs ++ dvs)) (Value.ref (s2.heap.objs.size + 1) :: (us ++ ds)) := .cons rfl (r.append hd)
 have hl : (Value.ref (s2.heap.objs.size + 1) :: us ++ ds).length = (["self", n] : List Str).length := by
  have e := r2.length
  rw [hv] at e
  exact e.symm
 have hx1 : H1 (s2.heap.objs.size + 1) = none := I1.hok.fresh (Nat.le_succ _)
 refine wpAny_call (codeAny_mono (F.run _ (zdc (CXe P w) P w K mg base N qual scope f cdv A outer s0 H0 E).stack _ _ ⟨Value.ref (s2.heap.objs.size + 1) :: us, []⟩ (Value.ref (s2.heap.objs.size + 1) :: (us ++ ds)) _ (fun v' H' => v' = .non /\ ∃ dx, H1 dx = none /\ dx ≠ s2.heap.objs.size + 1 /\ H' = upd (upd (upd H1 (s2.heap.objs.size + 1) (ztp (s2.heap.objs.size + 1) C)) (s2.heap.objs.size + 1) (zki (s2.heap.objs.size + 1) C dx)) dx (.xd [(n, v)])) E0 (hr.make C us [])
  (I2.env0.make C us []) (hb _ (Value.ref (s2.heap.objs.size + 1) :: us) I2.kIn hl) r2 ⟨_, v, by rw [hv], zan, fun dx hdx nd => ⟨rfl, dx, by rw [zak nd] at hdx; exact hdx, nd, rfl⟩⟩) fun rr s' hq' => ?_)
 cases rr with
 | error e =>
  obtain ⟨_, _, _, _, _, _, _, _, _, _, _, _, _, z⟩ := hq'
  exact z.elim
 | ok fl =>
  cases fl with
  | ret u =>
   obtain ⟨v', H', I3, rv, ev, dx, d1, d2, rfl⟩ := I2.after hq'
   subst ev
   have hxx : (upd (upd (upd H1 (s2.heap.objs.size + 1) (ztp (s2.heap.objs.size + 1) C)) (s2.heap.objs.size + 1) (zki (s2.heap.objs.size + 1) C dx)) dx (.xd [(n, v)])) (s2.heap.objs.size + 1) = some (zki (s2.heap.objs.size + 1) C dx) := by rw [zak d2.symm, zan]
   obtain ⟨⟨t, sl, et⟩, _⟩ := (show zcr _ _ _ s'.heap (s2.heap.objs.size + 1) (zki (s2.heap.objs.size + 1) C dx) from I3.hok _ _ hxx)
   refine ⟨rv, (init _ I3.kIn).at_, ⟨t, some dx, sl, et⟩, ?_⟩
   refine zkB (tk := s'.toks) I3 rfl rfl rfl hxx ?_ ?_
   ·cases z : (zdc (CXe P w) P w K mg base N qual scope f cdv A outer s0 H0 E).s₀.heap.get? (s2.heap.objs.size + 1) with
    | none => rfl
    | some o =>
     obtain ⟨o1, e1⟩ := I1.base.there _ o z (by simp [zdc])
     exact absurd (xab e1) (Nat.not_lt_of_le (Nat.le_succ _))
   ·rw [zqw hx1 d2]
    exact hE dx d1
  | next => exact False.elim hq'
  | brk => exact False.elim hq'
  | cont => exact False.elim hq'
end
end L2
namespace DL
open L2 PyProof.Rows
structure XI (P : Program) (w : World) (K : xFg) (mg : Str -> Option Value) (base : Heap) (c : Str) (C : Addr) (dd : List D) : Prop where
 xc : zkf K mg c C
 run : ∃ (fI : Addr) (fd : FuncData) (ds : List Value) (dvs : List V), zxv K C fI /\
  zgj P w K mg base (CXe P w) 1 fI fd ["self", "at"] (spX C "at") /\ zgx K fd ["self", "at"] ds /\ zbi dvs ds /\ ∀ G, Reps K mg G dd dvs
def zkE (c : Str) (dd : List D) (fs : DSt -> R (List D)) : DSt -> R Out := fun σ => (fs σ).bind fun ds => match ds ++ dd with
 | [d] => .err (.exc c [d])
 | _ => .bad
section
variable {P : Program} {w : World} {K : xFg} {mg : Str -> Option Value} {base : Heap} {N : List Str} {qual : Str} {scope : Scope} {f : Addr} {cdv : Value} {A : Around} {outer : List Env} {s0 : Shared} {H0 : Hp} {E : XK} {own own' ol : List Nat}
theorem zmM {x : Str} {C : Addr} {np cpos pos : Pos} {args : List Expr} {fs : DSt -> R (List D)} {dd : List D} {k : Nat} (xi : XI P w K mg base x C dd) (hr : zeD 2 (zdc (CXe P w) P w K mg base N qual scope f cdv A outer s0 H0 E).A)
  (hg : Gl (zdc (CXe P w) P w K mg base N qual scope f cdv A outer s0 H0 E) x)
  (ha : ∀ pins s σ H (Q : List V -> Hp -> Prop), Inv (zdc (CXe P w) P w K mg base N qual scope f cdv A outer s0 H0 E) pins σ H s -> tAr K mg E fs σ H Q -> wpAny (model P w) (zdc (CXe P w) P w K mg base N qual scope f cdv A outer s0 H0 E).A (evalArgs (.ref C) true (backTo cpos (starEach args (envOfC qual scope s0.heap.objs.size f cdv))) []) (fun a s2 => a.kw = [] /\ ∃ vs H1, Inv (zdc (CXe P w) P w K mg base N qual scope f cdv A outer s0 H0 E) pins σ H1 s2 /\ zbi vs a.pos /\ Q vs H1) (zdc (CXe P w) P w K mg base N qual scope f cdv A outer s0 H0 E).xe s)
  (hpl : (backTo cpos (starEach args (envOfC qual scope s0.heap.objs.size f cdv))).any (·.1) = false) (hdb : (x == ("__debug__" : Str)) = false) :
  DS (zdc (CXe P w) P w K mg base N qual scope f cdv A outer s0 H0 E) E own own' ol (.Raise (some (.Call (.Name x np) args [] cpos)) none pos) (zkE x dd fs) := fun G0 => by
 obtain ⟨fI, fd, ds, dvs, q1, F, hb, hd, rd⟩ := xi.run
 refine PS.mono' (zvW (ta := tAr K mg E fs) q1 F hb hd hr hg xi.xc.here ha hpl hdb) fun Dn σ H ⟨G, σd, ok, s1, z⟩ => ?_
 have sp := ok.pubStep s1
 refine ⟨_, σd, ok.pub.1, z.of_bind.mono (fun ds' _ z vs G' H' s r => ?_) fun _ z => z.step sp⟩
 have r2 : Reps K mg G' (ds' ++ dd) (vs ++ dvs) := r.append (rd G')
 match e : ds' ++ dd, z with
 | [d], z =>
  rw [e] at r2
  obtain ⟨v, t, ev, rv, rt⟩ := r2
  cases rt
  refine ⟨v, ev, fun dx hdx => ?_⟩
  have sq := zbh.pub (o := .xd [("at", v)]) s.e hdx
  exact (show zaM K mg E G0 H0 (.exc x [d]) from z) _ _ C (some dx) ((sp.trans s).trans sq) ⟨x, [d], [v], rfl, xi.xc, .inr ⟨dx, v, rfl, rfl, zan⟩, Reps.cons (rv.mono sq.g) Reps.nil⟩
 | [], z =>
  exact (show False from z).elim
 | _ :: _ :: _, z =>
  exact (show False from z).elim
theorem zmN {x : Str} {C : Addr} {np cpos pos : Pos} {dd : List D} {k : Nat} (xi : XI P w K mg base x C dd) (hk : 2 <= k) (hr : zeD k (zdc (CXe P w) P w K mg base N qual scope f cdv A outer s0 H0 E).A)
  (hg : Gl (zdc (CXe P w) P w K mg base N qual scope f cdv A outer s0 H0 E) x := by rfl) (hdb : (x == ("__debug__" : Str)) = false := by decide) :
  DS (zdc (CXe P w) P w K mg base N qual scope f cdv A outer s0 H0 E) E own own' ol (.Raise (some (.Call (.Name x np) [] [] cpos)) none pos) (zkE x dd zaj) := by
 refine zmM (k := k) xi (hr.mono hk) hg (fun pins s σ H Q I h => ?_) rfl hdb
 obtain ⟨G, σd, ok, z⟩ := h
 have z : ∀ vs G' H', zbh G H G' H' -> Reps K mg G' [] vs -> Q vs H' := z
 refine wpAny_of_eq (a := ⟨[], []⟩) rfl ⟨rfl, [], H, I, .nil, z [] G H (.refl ok.ext) Reps.nil⟩
end
end DL
section
namespace L2
open PySem.Spec PyProof.Rows PySem.W
section
variable {prog : Program} {w : World} {A : Around} {E : Value -> Shared -> Prop} {s : Shared} {K : Frag} {x D : Addr} {ox : Obj} {od : Option Obj} {name : Str} {tk : Tok}
theorem ztr {R : Result -> Shared -> Prop} {v : Value} (X : K.In s.heap) (I : InstAt s.heap x ox D od) (hb : mroIn K D (.type "BaseException") = some true) (hf : findObj K D od name = some (.value v))
  (h : R (.ok (.ret v)) s) :
  codeAny (model prog w) A (.call (.builtin "BaseException.__getattribute__") ⟨[.ref x, .str name tk], []⟩) R s := by
 refine codeAny_call_builtin F.attr_ValueError.ga.plain F.entry_bexc_ga (zi9 X I hb ?_)
 obtain ⟨hh, gg, d, t, os⟩ := s
 have L0 := I.type (M := model prog w)
 have L1 := looks_find (M := model prog w) X I hf
 unfold Builtin.«object.__getattribute__»
 refine wpAny_bind (wpAny_of_eq (a := (Value.ref x, [Value.str name tk])) rfl ?_)
 refine wpAny_bind (wpAny_of_eq (a := name) rfl ?_)
 refine wpAny_bind (L0.at (wpAny_bind (L1.at ?_)))
 exact wpAny_pure h
theorem zts {expr : Bool} {v : Value} {Q : Value -> Shared -> Prop} (c : zpu K D) (X : K.In s.heap) (I : InstAt s.heap x ox D od) (hf : findObj K D od name = some (.value v)) (hh : handedIn v = true) (h : Q v { s with toks := s.toks + 1 }) :
  wpAny (model prog w) A (getAttr (.ref x) name expr) Q E s := by
 obtain ⟨hh', gg, d, t, os⟩ := s
 have L0 := I.type (M := model prog w)
 have L1 := looks_findIn (M := model prog w) X c.ga
 have L2 := looks_findIn (M := model prog w) X c.gh
 have hx1 : (onTheHeap (Value.ref D) && Value.builtin "BaseException.__getattribute__" == Value.builtin "object.__getattribute__") = false := by
  rw [show (Value.builtin "BaseException.__getattribute__" == Value.builtin "object.__getattribute__") = false by decide +kernel]; rfl
 unfold getAttr getAttrBy
 refine wpAny_bind (wpAny_mkText (wpAny_holding (wpAny_bind (L0.at (wpAny_bind (L1.at ?_))))))
 dsimp only
 rw [hx1, if_neg xau]
 unfold getAttrByItsOwn
 refine wpAny_bind ?_
 show wpAny _ _ (typeLookup (.ref D) "__getattr__") _ _ _
 refine L2.at ?_
 refine wpAny_bind (wpAny_attempt (wpAny_holding ?_))
 unfold callGetattribute
 rw [show (expr && onTheHeap (.builtin "BaseException.__getattribute__")) = false from by cases expr <;> rfl, if_neg xau]
 unfold boundAndCalled
 refine wpAny_bind (wpAny_of_eq (F.attr_ValueError.ga.bind (.ref x)) ?_)
 refine wpAny_call (ztr X I c.base hf ?_)
 show wpAny _ _ (handedOut v) _ _ _
 rw [handedOut_of hh]; exact wpAny_pure h
end
section
variable {X : Cx} {pins : List (Addr × Obj)} {σ : St} {H : Hp} {s : Shared}
theorem zo5 {a C : Addr} {dct : Option Addr} (I : Inv X pins σ H s) (ha : H a = some (zkX a C dct)) (hd : ∀ dx, dct = some dx -> ∃ u, H dx = some u) : ∃ o od, InstAt s.heap a o C od := by
 obtain ⟨⟨o, e1, e2, e3, e4⟩, _, _⟩ := I.hok a _ ha
 cases dct with
 | none => exact ⟨o, none, e1, e2, e4, by rw [e3]; trivial⟩
 | some dx =>
  obtain ⟨u, hu⟩ := hd dx rfl
  obtain ⟨ob, e⟩ := (I.hok dx u hu).there
  exact ⟨o, some ob, e1, e2, e4, by rw [e3]; exact e⟩
theorem zvX {e : PySem.Expr} {n : Str} {pos : Pos} {te : TE} (he : PE X e te) (hb : attributeBase e n X.env (eval e X.env) = eval e X.env) :
  PE X (.Attribute e n pos) (fun σ H Q => te σ H fun z H1 => ∃ a C dx v, z = .ref a /\ H1 a = some (zkX a C (some dx)) /\ H1 dx = some (.xd [(n, v)]) /\ zpu X.K C /\ hasDictIn X.K C = true /\ findIn X.K (.ref C) n = some none /\ Q v H1) := by
 intro pins s σ H Q I h
 refine zsn hb (thn (he pins s σ H _ I h) fun u s1 ⟨z, H1, I1, rx, a, C, dx, v, ez, ea, ed, ec, hh, hn, q⟩ => ?_)
 subst ez
 obtain rfl : u = Value.ref a := rx
 obtain ⟨⟨o, e1, e2, e3, e4⟩, _, _⟩ := I1.hok a _ ea
 obtain ⟨mA, hns, r⟩ := (show zcr X.prog X.w H1 s1.heap dx (.xd [(n, v)]) from I1.hok dx _ ed)
 obtain ⟨ob, ho, hl⟩ := znh hns
 have J : InstAt s1.heap a o C (some ob) := ⟨e1, e2, e4, by rw [e3]; exact ho⟩
 have rn := r n
 rw [xbi, beq_self_eq_true] at rn
 obtain ⟨u, hu, ru⟩ := ztH.some_of (v := v) (o := mA n) rn
 exact zts ec I1.kIn J (findObj_own hh hn rfl (by rw [hl, hu])) (zni ru) ⟨v, H1, I1.tok _, ru, q⟩
end
end L2
namespace DL
open L2 PyProof.Rows
def gAt (cs : List Str) : D -> R D
 | .exc c [d] => bif cs.contains c then .ok d else .bad
 | _ => .bad
section
variable {X : Cx} {E : XK} {K : xFg} {mg : Str -> Option Value} {G H : Hp}
variable {x : Str} {p pos : Pos} {e : PySem.Expr} {es : List PySem.Expr} {fs : DSt -> R (List D)}
def zxw (K : xFg) (mg : Str -> Option Value) (cs : List Str) : Prop := ∀ c ∈ cs, ∀ C, mg c = some (.ref C) -> PySem.W.hasDictIn K C = true /\ PySem.W.findIn K (.ref C) "at" = some none
theorem zxx {cs : List Str} {fe : DSt -> R D} (hat : zxw X.K X.mg cs) (he : DE X E e fe) (hb : attributeBase e "at" X.env (eval e X.env) = eval e X.env := by rfl) : DE X E (.Attribute e "at" pos) (eUn (gAt cs) fe) := by
 refine PE.mono' (zvX he hb) fun σ H Q ⟨G, σd, ok, q⟩ => ?_
 refine ⟨G, σd, ok, (show RW (fe σd) _ _ from ?_)⟩
 have q2 : RW ((fe σd).bind (gAt cs)) (zao X.K X.mg Q G H) (zaM X.K X.mg E G H) := q
 refine q2.of_bind.mono (fun d _ z v G' H' s r => ?_) fun _ z => z
 match d, z, r with
 | .exc c [d], z, r =>
  cases hc : cs.contains c with
  | false => simp only [gAt, hc, cond_false] at z; exact z.elim
  | true =>
   simp only [gAt, hc, cond_true] at z
   obtain ⟨x, C, dct, vs, rfl, h2, h3, h4, h5⟩ := r
   obtain ⟨v, t, ev, rv, rt⟩ := h5
   cases rt
   rcases h4 with ⟨_, z0⟩ | ⟨dx, w, rfl, z0, h6⟩
   ·rw [ev] at z0; cases z0
   ·rw [ev] at z0; cases z0
    obtain ⟨a1, a2⟩ := hat c (by simpa using hc) C h3.here
    exact ⟨x, C, dx, v, rfl, s.e _ _ h2, s.e _ _ h6, h3.exc, a1, a2, (show zao X.K X.mg Q G H d from z) v G' H' s rv⟩
 | .exc c [], z, r => exact (show False from z).elim
 | .exc c (_ :: _ :: _), z, r => exact (show False from z).elim
 | .non, z, r => exact (show False from z).elim
 | .bl _, z, r => exact (show False from z).elim
 | .int _, z, r => exact (show False from z).elim
 | .str _, z, r => exact (show False from z).elim
 | .ty _, z, r => exact (show False from z).elim
 | .cls _, z, r => exact (show False from z).elim
 | .tup _, z, r => exact (show False from z).elim
 | .lst _, z, r => exact (show False from z).elim
 | .dct _ _, z, r => exact (show False from z).elim
abbrev zvY (K : xFg) : List V -> Hp -> VK -> Prop := fun xs H Q => ∃ (a C : Addr) (c : V) (cv : Value) (b : Bool) (dct : Option Addr), xs = [.ref a, c] /\ H a = some (zkX a C dct) /\ (∀ dx, dct = some dx -> ∃ u, H dx = some u) /\ ((∃ D, c = .ref D /\ cv = .ref D) \/ ∃ T, c = .ty T /\ cv = .type T) /\ zpu K C /\ PySem.W.kitOne K (.ref C) cv = some b /\ Q (.bl b) H
theorem zo6 : zcK X (.builtin "isinstance") (zvY X.K) := by
 intro pins s σ H xs us Q I r h
 obtain ⟨a, C, c, cv, b, dct, rfl, ha, hd, hc, ec, hk, q⟩ := h
 obtain ⟨u, w', rfl, ru, rw'⟩ := znf r
 obtain rfl : u = Value.ref a := ru
 have e : w' = cv := by
  rcases hc with ⟨D, rfl, rfl⟩ | ⟨T, rfl, rfl⟩
  ·exact rw'
  ·exact rw'
 subst e
 exact PySem.W.kia_one (ziq ec) I.kIn (zo5 I ha hd) hk (fun z => nomatch z) fun tk => ⟨.bl b, H, I.tok tk, rfl, q⟩
def zr3 (K : xFg) : List V -> Hp -> VK -> Prop := fun xs H Q => ∃ (a C q : Addr) (Ds : List Addr) (b : Bool) (dct : Option Addr), xs = [.ref a, .ref q] /\ H a = some (zkX a C dct) /\ (∀ dx, dct = some dx -> ∃ u, H dx = some u) /\ zpu K C /\ SqT K H q (Ds.map V.ref) /\ PySem.W.kitAny K (.ref C) (Ds.map Value.ref) = some b /\ Q (.bl b) H
theorem zmO : zcK X (.builtin "isinstance") (zr3 X.K) := by
 intro pins s σ H xs us Q I r h
 obtain ⟨a, C, q, Ds, b, dct, rfl, ha, hd, ec, hq, hk, z⟩ := h
 obtain ⟨u, w', rfl, ru, rw'⟩ := znf r
 cases (show u = Value.ref a from ru)
 cases (show w' = Value.ref q from rw')
 obtain ⟨its, rv, ⟨⟨oc, od, odt, osl⟩, ho, hc, n, hdt⟩, _⟩ := I.tuple hq
 simp only at hc hdt
 subst hc hdt
 have ei := zjU rv
 subst ei
 exact PySem.W.kia_tup (ziq ec) I.kIn (zo5 I ha hd) ho hk (fun z => nomatch z) fun tk => ⟨.bl b, H, I.tok tk, rfl, z⟩
def zg6 : D -> D -> R D
 | .exc c _, .cls d => match zjj c d with
  | some b => .ok (.bl b)
  | none => .bad
 | .exc _ _, .ty T => bif T == "ValueError" then .ok (.bl true) else .bad
 | .exc c _, .tup ts => match zek ts with
  | some cs => match zjT c cs with
   | some b => .ok (.bl b)
   | none => .bad
  | none => .bad
 | .exc _ _, _ => .bad
 | d, t => zeI d t
theorem ztt : zgK K mg (fun xs H Q => (zxj K mg xs H Q \/ zvz K xs H Q) \/ (zvY K xs H Q \/ zr3 K xs H Q)) (g2 zg6) := cd2 fun G H d d' v v' Q e r r' q => by
 by_cases hx : ∃ c as, d = .exc c as
 ·obtain ⟨c, as, rfl⟩ := hx
  refine .inr ?_
  obtain ⟨a, C, dct, vs, rfl, h2, h3, h4, h5⟩ := r
  have hd : ∀ dx, dct = some dx -> ∃ u, H dx = some u := fun dx hdx => by
   rcases h4 with ⟨z, _⟩ | ⟨dx', w, z, _, h6⟩
   ·rw [z] at hdx; cases hdx
   ·rw [z] at hdx; cases hdx; exact ⟨_, e _ _ h6⟩
  cases d' with
  | cls c' =>
   obtain ⟨Dd, rfl, hD⟩ := r'
   cases hs : zjj c c' with
   | none => simp only [zg6, hs] at q; exact q.elim
   | some b =>
    simp only [zg6, hs] at q
    exact .inl ⟨a, C, _, _, b, dct, rfl, e _ _ h2, hd, .inl ⟨Dd, rfl, rfl⟩, h3.exc, h3.isi c' Dd b hs hD, zao.now q e rfl⟩
  | ty T =>
   cases r'
   cases hT : T == "ValueError" with
   | false => simp only [zg6, hT, cond_false] at q; exact q.elim
   | true =>
    simp only [zg6, hT, cond_true] at q
    have := eq_of_beq hT
    subst this
    exact .inl ⟨a, C, _, _, true, dct, rfl, e _ _ h2, hd, .inr ⟨_, rfl, rfl⟩, h3.exc, h3.val, zao.now q e rfl⟩
  | tup ts =>
   obtain ⟨q', ws, rfl, k1, k2⟩ := r'
   cases hs : zek ts with
   | none => simp only [zg6, hs] at q; exact q.elim
   | some cs =>
    cases hb : zjT c cs with
    | none => simp only [zg6, hs, hb] at q; exact q.elim
    | some b =>
     simp only [zg6, hs, hb] at q
     obtain ⟨Ds, rfl, e2⟩ := Reps.clss hs k2
     exact .inr ⟨a, C, q', Ds, b, dct, rfl, e _ _ h2, hd, h3.exc, zaF.sqT e k1, zl8 h3 hb e2, zao.now q e rfl⟩
  | _ => exact (show False from q).elim
 ·have e4 : zg6 d d' = zeI d d' := by
   cases d with
   | exc c as => exact absurd ⟨c, as, rfl⟩ hx
   | _ => rfl
  refine .inl (zrf G H [d, d'] [v, v'] Q e (Reps.cons r (Reps.cons r' Reps.nil)) ?_)
  have q : RW (zg6 d d') (zao K mg Q G H) (fun _ => False) := q
  rw [e4] at q
  exact q
theorem zkF (hm : X.mg "isinstance" = none) (ha : DA X E (e :: es) fs) (hg : Gl X "isinstance" := by rfl) (he : starEach (e :: es) X.env = (false, eval e X.env) :: starEach es X.env := by rfl) (hpl : (backTo pos (starEach es X.env)).any (·.1) = false := by rfl) : DE X E (.Call (.Name "isinstance" p) (e :: es) [] pos) (zcv (g2 zg6) fs) :=
 zhV ((zjv.or zjb).or (zo6.or zmO)) ztt hm zlc ha hg (by decide) (by decide) he hpl
end
end DL
end
section
namespace L2
open PyProof.Rows
def Ite (K : xFg) (a : Addr) : It :=
 ⟨fun i H => ∃ xs x, SqL K H a xs /\ xs[i]? = some x,
  fun i H v H' => ∃ T x, v = .ref T /\ H T = none /\ H' = upd H T (.tup [.int i, x]) /\ ∀ xs, SqL K H a xs -> xs[i]? = some x,
  fun i H => ∃ xs, SqL K H a xs /\ xs.length <= i⟩
structure EL (e it a : Addr) (k : Nat) (h : Heap) : Prop where
 e : ∃ old, IsEnum h e it k old
 it : h.IsListIter it a k
theorem zjX {P : Program} {w : World} {K : xFg} {es : List Expr} {ct : Nat} {ps : Pos} {e it a : Addr} (ne : e ≠ it) : zqR P w K (.Tuple es ct ps) (Ite K a) [e, it] e (EL e it a) where
 mem := by simp
 obj := fun i h st c hc => by
  simp only [xae, xaq, or_false] at hc
  rcases hc with rfl | rfl
  ·obtain ⟨old, q⟩ := st.e
   exact ⟨_, q, fun v q => by cases q⟩
  ·obtain ⟨o, e, c, d⟩ := st.it
   exact ⟨o, e, fun v q => by rw [d] at q; cases q⟩
 keep := fun i h h' st k => by
  obtain ⟨old, q⟩ := st.e
  exact ⟨⟨old, k _ (by simp) _ q⟩, st.it.at fun o e => k _ (by simp) o e⟩
 item := by
  intro X hP hw hK hc i pins s σ H E I hf st hg
  subst hP hw hK
  obtain ⟨xs, x, h1, hx⟩ := hg
  obtain ⟨its, rv, p, _⟩ := I.list h1
  obtain ⟨u, hu, ru⟩ := rv.get hx
  obtain ⟨old, q0⟩ := st.e
  refine wpAny_pyNext_enum_item q0 st.it p.isList (x := u) (by simpa using hu) ne fun g Zz Zi pg sg kg => ⟨_, rfl, ?_⟩
  refine wpAny_letOwnedTupleGo_enum Zz fun g' zg sb => ?_
  obtain ⟨oi, qi, _⟩ := st.it
  have I1 : Inv X pins σ (upd H s.heap.objs.size (.tup [.int i, x])) { s with heap := s.heap.push (tp2 (.int i s.toks) u), toks := s.toks } :=
   I.laid (fun _ _ q => xaa _ q) (xag _) ⟨by show 2 <= sizeLine; decide, [.int i s.toks, u], .cons ⟨s.toks, rfl⟩ (.cons ru .nil), ⟨_, xav _ rfl, rfl, 0, rfl⟩⟩
  have fr : ∀ c ∈ [e, it], c ≠ s.heap.objs.size := fun c hc ec => by
   simp only [xae, xaq, or_false] at hc
   rcases hc with rfl | rfl
   ·exact xan (xab q0) ec
   ·exact xan (xab qi) ec
  have I2 : Inv X pins σ (upd H s.heap.objs.size (.tup [.int i, x])) { s with heap := g', toks := s.toks + 1 } := by
   refine Inv.turnedL (s := { s with heap := s.heap.push (tp2 (.int i s.toks) u), toks := s.toks }) (h' := g') (t' := s.toks + 1) (ch := [e, it]) I1 (fun c o hc ec => ?_) fun c hc => ?_
   ·have cz : c ≠ e := fun q => hc (by simp [q])
    rcases xc7 ec with ⟨rfl, rfl⟩ | ec
    ·exact sb.extBut _ _ cz pg
    ·exact sb.extBut _ _ cz (kg c o cz (fun q => hc (by simp [q])) ec)
   ·exact ⟨by rw [zak (fr c hc)]; exact (hf c hc).1, (hf c hc).2⟩
  refine ⟨.ref s.heap.objs.size, _, I2, rfl, ⟨_, x, rfl, I.fresh, rfl, fun zs hz => by rw [I.list_inj hz h1]; exact hx⟩, ⟨⟨_, by simpa using zg⟩, Zi.at fun o eo => sb.extBut _ _ ne.symm eo⟩, fun c hc => by rw [zak (fr c hc)]; exact (hf c hc).1⟩
 done := by
  intro X hP hw hK hc i pins s σ H E I hf st hg
  subst hP hw hK
  obtain ⟨xs, h1, hx⟩ := hg
  obtain ⟨its, rv, p, _⟩ := I.list h1
  obtain ⟨old, q0⟩ := st.e
  have hl := rv.length
  refine wpAny_pyNext_enum_end (I.ok.hd hc) q0 st.it p.isList (by simp; omega) fun g kg => ⟨rfl, I.turnedL (t' := s.toks) (ch := [e, it]) (fun c o hc ec => ?_) hf⟩
  exact kg c o (fun q => hc (by simp [q])) ec
 self := fun A i s Q E st h => by
  obtain ⟨old, q0⟩ := st.e
  exact wpAny_pyIter_enum q0 h
end L2
namespace DL
open L2 PyProof.Rows
section
variable {X : Cx} {E : XK}
def zvZ (K : xFg) (ta : TA) : TI := fun σ H R => ta σ H fun vs H1 => ∃ a, vs = [.ref a] /\ (∃ xs, SqL K H1 a xs) /\ R (Ite K a) H1
theorem zo7 : bootBuiltins "enumerate" = some (.type "enumerate") := by decide +kernel
theorem ztu {a : Expr} {ta : TA} {p pos ps : Pos} {es : List Expr} {ct : Nat} (hg : Gl X "enumerate") (hm : X.mg "enumerate" = none) (ha : PA X [a] ta) (hs : starEach [a] X.env = [(false, eval a X.env)] := by rfl) :
  PI X (.Tuple es ct ps) (.Call (.Name "enumerate" p) [a] [] pos) (zvZ X.K ta) := by
 intro pins s σ H R I h
 refine Call_ (zhK I hg hm zo7 (PyProof.Rows.callWith_type1 (thn (ha pos pins s σ H _ I h) fun us s1 ⟨vs, H1, I1, r1, q1⟩ => ?_) hs rfl))
 obtain ⟨a, e, ⟨xs, hx⟩, q⟩ := q1
 subst e
 cases r1 with
 | cons r rr =>
  cases rr
  cases r
  obtain ⟨its, _, p1, _⟩ := I1.list hx
  refine call_enumerate_list p1.isList fun g zz zi _ kg => ?_
  have st : EL (s1.heap.objs.size + 1) s1.heap.objs.size a 0 g := ⟨⟨_, zz⟩, zi⟩
  have ne : s1.heap.objs.size + 1 ≠ s1.heap.objs.size := xb5 (xc0 _)
  refine (zjX (P := X.prog) (w := X.w) (K := X.K) (es := es) (ct := ct) (ps := ps) ne).self X.A 0 { s1 with heap := g } _ _ st ?_
  refine ⟨_, [s1.heap.objs.size + 1, s1.heap.objs.size], _, _, H1, rfl, I1.kept (t' := s1.toks) kg, zjX ne, st, fun c hc => ?_, q⟩
  have hc : s1.heap.objs.size <= c := by
   simp only [xae, xaq, or_false] at hc
   rcases hc with rfl | rfl
   ·exact xcc _ _
   ·exact xag _
  exact I1.fpOk hc (I1.hok.fresh hc)
def zhw (k : Nat) : List D -> List D
 | [] => []
 | d :: ds => .tup [.int k, d] :: zhw (k + 1) ds
theorem zjY : ∀ (ds : List D) (k : Nat), (zhw k ds).length = ds.length
 | [], _ => rfl
 | _ :: ds, k => by rw [zhw, xar, xar, zjY ds]
theorem zjZ : ∀ (ds : List D) (k i : Nat) (d : D), (zhw k ds)[i]? = some d -> ∃ x, ds[i]? = some x /\ d = .tup [.int ((k + i : Nat) : Int), x]
 | [], _, i, d, h => by cases i <;> cases h
 | y :: ds, k, 0, d, h => ⟨y, rfl, (Option.some.inj h).symm⟩
 | y :: ds, k, i + 1, d, h => by
  obtain ⟨x, h1, h2⟩ := zjZ ds (k + 1) i d h
  exact ⟨x, h1, by rw [h2, show k + 1 + i = k + (i + 1) by omega]⟩
def zeL : List D -> R (List D)
 | [.lst xs] => .ok (zhw 0 xs)
 | _ => .bad
theorem zeG.enum {K : xFg} {mg : Str -> Option Value} {G : Hp} {a : Addr} {vs : List V} {xs : List D} (h : SqL K G a vs) (r : Reps K mg G xs vs) : zeG K mg (Ite K a) G (zhw 0 xs) := by
 refine ⟨fun H e => ⟨vs, e.seq h, by rw [zjY, r.length]; exact xag _⟩, fun H i d e hd => ?_⟩
 obtain ⟨x, hx, rfl⟩ := zjZ xs 0 i d hd
 obtain ⟨v, hv, rv⟩ := r.get hx
 refine ⟨⟨vs, v, e.seq h, hv⟩, ?_⟩
 rintro _ H' ⟨T, v', rfl, hn, rfl, q1⟩ G1 e1 e2
 have z1 := q1 _ (e.seq h)
 rw [hv] at z1; cases z1
 have st := zbh.pub (o := .tup [.int i, v]) e2 hn
 exact ⟨upd G1 T (.tup [.int i, v]), st, T, [.int i, v], rfl, SqT.of zan, .cons (by rw [xbo]; rfl) (.cons (rv.mono (e1.trans st.g)) rfl)⟩
theorem ziE {a : Expr} {fs : DSt -> R (List D)} {p pos ps : Pos} {es : List Expr} {ct : Nat} (hm : X.mg "enumerate" = none) (ha : DA X E [a] fs) (hg : Gl X "enumerate" := by rfl) (hs : starEach [a] X.env = [(false, eval a X.env)] := by rfl) :
  DI X E (.Tuple es ct ps) (.Call (.Name "enumerate" p) [a] [] pos) (zdV zeL fs) := by
 refine PI.mono' (ztu hg hm ha hs) fun σ H R ⟨G, σd, ok, q⟩ => ?_
 refine ⟨G, σd, ok, q.of_bind.mono (fun ds _ z vs G' H' s r => ?_) fun _ z => z⟩
 match ds, z, r with
 | [.lst xs], z, r =>
  obtain ⟨v, r1, rfl, ⟨a, as, rfl, h1, k1⟩, r2⟩ := r
  cases r2
  exact ⟨a, rfl, ⟨as, s.e.seq h1⟩, z _ G' H' s (.enum h1 k1)⟩
end
end DL
end
namespace DL
open L2 PyProof.Rows
section
variable {P : Program} {w : World} {K : xFg} {mg : Str -> Option Value} {base : Heap} {x : Str} {st : Stmt} {f : Addr} {fd : FuncData} {N ps : List Str} {k n nN : Nat} {own' : List Nat} {body : DSt -> R Out}
structure FD (K : xFg) (x : Str) (st : Stmt) : Prop where
 ex : ∃ f fd, PySem.W.nsIn K mainGlobals x = some (some (.ref f)) /\ Fun K x x st f fd
theorem FD.mk' {oc : Value} {od an : Option Addr} {osl : Array (Option Value)} {kV doc pm cdv ct : Value} (a : PySem.W.nsIn K mainGlobals x = some (some (.ref f))) (l : K.lookup f = some ⟨oc, od, .func (PySem.W.fnOf x x (zch st) (zbs st) (zai st) .none kV doc pm an cdv ct), osl⟩)
  (c : PySem.W.codeIn K cdv x = true) (k : PySem.W.keepIn K (.ref f) = true) : FD K x st := ⟨f, _, a, zqU l c k⟩
structure FA (K : xFg) (mg : Str -> Option Value) (x : Str) (st : Stmt) (ps : List Str) (f : Addr) (fd : FuncData) : Prop where
 F : Fun K x x st f fd
 m : mg x = some (.ref f)
 b : zgx K fd ps []
theorem FD.go {h : Heap} (d : FD K x st) (X : K.In h) (G : h.Ns mainGlobals mg) (ps : List Str)
  (b : ∀ (kV doc pm : Value) (an : Option Addr) (cdv ct : Value) (us : List Value), us.length = ps.length -> bindArgs (PySem.W.fnOf x x (zch st) (zbs st) (zai st) .none kV doc pm an cdv ct) ⟨us, []⟩ = pure (ps.zip us)) : ∃ f fd, FA K mg x st ps f fd := by
 obtain ⟨f, fd, a, F⟩ := d.ex
 exact ⟨f, fd, F, xbp X G a, F.binds b⟩
abbrev XX (P : Program) (w : World) (K : xFg) (mg : Str -> Option Value) (base : Heap) (x : Str) (st : Stmt) (f : Addr) (N : List Str) (k : Nat) (D : Cx -> XK -> Prop) : Prop :=
 ∀ cdv A outer s H E, XC (zdc (CXe P w) P w K mg base N x (zai st) f cdv A outer s H E) E k -> XL (zdc (CXe P w) P w K mg base N x (zai st) f cdv A outer s H E) -> N.Nodup -> D (zdc (CXe P w) P w K mg base N x (zai st) f cdv A outer s H E) E
theorem FA.ok (F : FA K mg x st ps f fd) (S : zdk N ps (zai st)) (hn : ps.length = n) (hN : N.length = nN)
  (hb : XX P w K mg base x st f N k fun X E => DSs X E [] own' [] (zbs st) body) : zaC P w K mg base (k + 1) x (fnM n nN body) :=
 zaC.mk' F.F S F.m F.b hn hN fun X E hX C L => by
  obtain ⟨cdv, A, outer, s, H, rfl⟩ := hX
  exact hb cdv A outer s H E C L S.nd
end
end DL
namespace Mir
open L2 DL
noncomputable def zdd : DSt -> R Out := (zbz (zp7 (zcv (g2 zeI) (zaa (zae 0) (zaa (eC (.ty "int")) zaj))) (ztL (zcv (g2 zeI) (zaa (zae 0) (zaa (eC (.ty "bool")) zaj))))))
noncomputable def zaT : List D -> R D := fnM 1 1 zdd
theorem ze9 (a0 : D) : zaT [a0] = fin (zdd [some a0]) := zaD (b := zdd) rfl rfl
noncomputable def zbM : DSt -> R Out := (zbz (zp7 (zcv zsY (zaa (zdn (eLC 1 [0] (zhX (zae 0)) zaL zbS (zaq zaT (zaa (zae 0) zaj)))) zaj)) (eOp gNe (zae 0) (zgk (zaa (eC (.int 0)) (zaa (eC (.int 0)) (zaa (eC (.int 0)) zaj)))))))
noncomputable def zbo : List D -> R D := fnM 1 1 zbM
theorem zdA (a0 : D) : zbo [a0] = fin (zbM [some a0]) := zaD (b := zbM) rfl rfl
noncomputable def zcR : DSt -> R Bool := (zau (eOp gNe (zae 1) (eC (.int 0))))
noncomputable def zeq : DSt -> R Out := (zaA 1 (zae 2))
noncomputable def zer : DSt -> R Out := (zaG (zaA 0 (zae 1)) zeq)
noncomputable def zd2 : DSt -> R Out := (zaG (zaA 2 (eOp zfE (zae 0) (zae 1))) zer)
noncomputable def zg7 : DSt -> R Out := (zbz (zae 0))
noncomputable def zg8 : DSt -> R Out := (zaG (zbr zcR zd2) zg7)
noncomputable def zg9 : DSt -> R Out := (zaG (zaA 1 (zcv zrd (zaa (zae 1) zaj))) zg8)
noncomputable def zfa : DSt -> R Out := (zaG (zaA 0 (zcv zrd (zaa (zae 0) zaj))) zg9)
noncomputable def zbm : List D -> R D := fnM 2 3 zfa
theorem zj0 (a0 : D) (a1 : D) : zbm [a0, a1] = fin (zfa [some a0, some a1, none]) := zaD (b := zfa) rfl rfl
noncomputable def zha : DSt -> R Out := (zbz (zgk (zaa (eOp zeH (eOp gIx (zae 0) (eC (.int 0))) (zae 1)) (zaa (eOp zeH (eOp gIx (zae 0) (eC (.int 1))) (zae 1)) (zaa (eOp zeH (eOp gIx (zae 0) (eC (.int 2))) (zae 1)) zaj)))))
noncomputable def zhb : DSt -> R Out := (zaG (sIf (zau (eOp gLt (zae 2) (eC (.int 0)))) (zaA 1 (eUn zrb (zae 1))) zbe) zha)
noncomputable def zhc : DSt -> R Out := (zaG (zaA 2 (eOp gIx (zdn (eLC 1 [0] (zhX (zae 0)) zaL (zau (eOp gNe (zae 0) (eC (.int 0)))) (zae 0))) (eUn zrb (eC (.int 1))))) zhb)
noncomputable def zfb : DSt -> R Out := (zaG (zaA 1 (zaq zbm (zaa (zaq zbm (zaa (eOp gIx (zae 0) (eC (.int 0))) (zaa (eOp gIx (zae 0) (eC (.int 1))) zaj))) (zaa (eOp gIx (zae 0) (eC (.int 2))) zaj)))) zhc)
noncomputable def zca : List D -> R D := fnM 1 3 zfb
theorem zj1 (a0 : D) : zca [a0] = fin (zfb [some a0, none, none]) := zaD (b := zfb) rfl rfl
noncomputable def zcb : DSt -> R Out := (zbz (eOp gEq (zaq zca (zaa (zae 0) zaj)) (zae 0)))
noncomputable def zcc : DSt -> R Out := (zaG (sIf (zhT (zau (zaq zbo (zaa (zae 0) zaj)))) (zbz (eC (.bl false))) zbe) zcb)
noncomputable def zbb : DSt -> R Out := (zaG (sIf (eOr (zhT (zau (zcv (g2 zeI) (zaa (zae 0) (zaa (eC (.ty "tuple")) zaj))))) (zau (eOp gNe (zcv ziz (zaa (zae 0) zaj)) (eC (.int 3))))) (zbz (eC (.bl false))) zbe) zcc)
noncomputable def zas : List D -> R D := fnM 1 1 zbb
theorem za4 (a0 : D) : zas [a0] = fin (zbb [some a0]) := zaD (b := zbb) rfl rfl
noncomputable def zqx : DSt -> R Out := (zbz (eOp zcJ (eOp zcJ (eOp za8 (eOp gIx (zae 0) (eC (.int 0))) (eOp gIx (zae 1) (eC (.int 0)))) (eOp za8 (eOp gIx (zae 0) (eC (.int 1))) (eOp gIx (zae 1) (eC (.int 1))))) (eOp za8 (eOp gIx (zae 0) (eC (.int 2))) (eOp gIx (zae 1) (eC (.int 2))))))
noncomputable def zhd : List D -> R D := fnM 2 2 zqx
theorem zqy (a0 : D) (a1 : D) : zhd [a0, a1] = fin (zqx [some a0, some a1]) := zaD (b := zqx) rfl rfl
noncomputable def zfc : DSt -> R Out := (zbz (eOp gEq (zaq zhd (zaa (zae 0) (zaa (zae 1) zaj))) (eC (.int 0))))
noncomputable def zd3 : List D -> R D := fnM 2 2 zfc
theorem zj2 (a0 : D) (a1 : D) : zd3 [a0, a1] = fin (zfc [some a0, some a1]) := zaD (b := zfc) rfl rfl
noncomputable def zj3 : DSt -> R Out := (zbz (zgk (zaa (zae 2) (zaa (zae 3) (zaa (zae 4) zaj)))))
noncomputable def zj4 : DSt -> R Out := (zaG (zaA 4 (eOp gSub (eOp za8 (eOp gIx (zae 0) (eC (.int 0))) (eOp gIx (zae 1) (eC (.int 1)))) (eOp za8 (eOp gIx (zae 0) (eC (.int 1))) (eOp gIx (zae 1) (eC (.int 0)))))) zj3)
noncomputable def zj5 : DSt -> R Out := (zaG (zaA 3 (eOp gSub (eOp za8 (eOp gIx (zae 0) (eC (.int 2))) (eOp gIx (zae 1) (eC (.int 0)))) (eOp za8 (eOp gIx (zae 0) (eC (.int 0))) (eOp gIx (zae 1) (eC (.int 2)))))) zj4)
noncomputable def ziF : DSt -> R Out := (zaG (zaA 2 (eOp gSub (eOp za8 (eOp gIx (zae 0) (eC (.int 1))) (eOp gIx (zae 1) (eC (.int 2)))) (eOp za8 (eOp gIx (zae 0) (eC (.int 2))) (eOp gIx (zae 1) (eC (.int 1)))))) zj5)
noncomputable def zfM : List D -> R D := fnM 2 5 ziF
theorem zmP (a0 : D) (a1 : D) : zfM [a0, a1] = fin (ziF [some a0, some a1, none, none, none]) := zaD (b := ziF) rfl rfl
noncomputable def zcS : DSt -> R Out := (zbz (zaq zca (zaa (zaq zfM (zaa (zae 0) (zaa (zae 1) zaj))) zaj)))
noncomputable def zbw : DSt -> R Out := (zaG (sIf (zau (eOp gEq (zae 0) (zae 1))) zuN zbe) zcS)
noncomputable def zaN : List D -> R D := fnM 2 2 zbw
theorem zeM (a0 : D) (a1 : D) : zaN [a0, a1] = fin (zbw [some a0, some a1]) := zaD (b := zbw) rfl rfl
noncomputable def zcT : DSt -> R Out := (zbz (zaq zaN (zaa (zae 0) (zaa (zae 1) zaj))))
noncomputable def zaH : List D -> R D := fnM 2 2 zcT
theorem zhe (a0 : D) (a1 : D) : zaH [a0, a1] = fin (zcT [some a0, some a1]) := zaD (b := zcT) rfl rfl
noncomputable def zco : DSt -> R Out := (zbz (zaq zaN (zaa (zae 0) (zaa (zae 1) zaj))))
noncomputable def zbN : List D -> R D := fnM 2 2 zco
theorem zgf (a0 : D) (a1 : D) : zbN [a0, a1] = fin (zco [some a0, some a1]) := zaD (b := zco) rfl rfl
noncomputable def zfd : DSt -> R Out := (zbz (zcv zsY (zaa (zdn (eLC 1 [0] (zhX (zae 1)) zaL zbS (zaq zd3 (zaa (zae 0) (zaa (zae 3) zaj))))) zaj)))
noncomputable def zfe : DSt -> R Out := (zaG (zaA 2 (zaq zaH (zaa (eOp gIx (zae 0) (eC (.int 0))) (zaa (eOp gIx (zae 1) (eC (.int 0))) zaj)))) zfd)
noncomputable def zff : DSt -> R Out := (zaG (sIf (zau (eOp gEq (zcv ziz (zaa (zae 1) zaj)) (eC (.int 0)))) (zbz (eC (.bl true))) zbe) zfe)
noncomputable def zdq : DSt -> R Out := (zaG (zkg [] 1 (zdn (eLC 1 [0] (zhX (zae 0)) zaL (zau (eOp gNe (zae 0) (eOp gIx (zae 1) (eC (.int 0))))) (zae 0)))) zff)
noncomputable def zbA : List D -> R D := fnM 1 3 zdq
theorem zhx (a0 : D) : zbA [a0] = fin (zdq [some a0, none, none]) := zaD (b := zdq) rfl rfl
def zcy : D := .int 12
noncomputable def zd4 : DSt -> R Out := (zbz (eOp gEq (ziD (zae 0)) (zcv ziz (zaa (zae 0) zaj))))
noncomputable def zcz : DSt -> R Out := (zaG (sIf (zhT (zau (zcv zsY (zaa (zdn (eLC 1 [0] (zhX (zae 0)) zaL zbS (zaq zas (zaa (zae 0) zaj)))) zaj)))) (zbz (eC (.bl false))) zbe) zd4)
noncomputable def zbp : DSt -> R Out := (zaG (sIf (eOr (zhT (zau (zcv (g2 zeI) (zaa (zae 0) (zaa (eC (.ty "list")) zaj))))) (zhT (zau (zhS gLe gLe (eC (.int 1)) (zcv ziz (zaa (zae 0) zaj)) (eC zcy))))) (zbz (eC (.bl false))) zbe) zcz)
noncomputable def zaE : List D -> R D := fnM 1 1 zbp
theorem zci (a0 : D) : zaE [a0] = fin (zbp [some a0]) := zaD (b := zbp) rfl rfl
noncomputable def zhf : DSt -> R Out := (zaA 1 (zaq zbm (zaa (zae 1) (zaa (zae 2) zaj))))
noncomputable def zh6 : DSt -> R Out := (zbz (zcv zjt (zaa (zdn (eLC 1 [0] (zhX (zae 0)) zaL zbS (eOp zeH (zae 0) (zae 2)))) zaj)))
noncomputable def zh7 : DSt -> R Out := (zaG (sIf (zau (eOp gLt (eOp gIx (zdn (eLC 1 [0] (zhX (zae 0)) zaL (zau (eOp gNe (zae 0) (eC (.int 0)))) (zae 0))) (eC (.int 0))) (eC (.int 0)))) (zaA 1 (eUn zrb (zae 1))) zbe) zh6)
noncomputable def zh8 : DSt -> R Out := (zaG (zkh [] [2] zaL (zhX (zae 0)) zhf) zh7)
noncomputable def zgu : DSt -> R Out := (zaG (zaA 1 (eC (.int 0))) zh8)
noncomputable def zfg : List D -> R D := fnM 1 3 zgu
theorem zkG (a0 : D) : zfg [a0] = fin (zgu [some a0, none, none]) := zaD (b := zgu) rfl rfl
noncomputable def zes : DSt -> R Out := (zbz (zp7 (zaq zaT (zaa (eOp gIx (zae 0) (eC (.int 1))) zaj)) (zaq zaT (zaa (eOp gIx (zae 0) (eC (.int 2))) zaj))))
noncomputable def zet : DSt -> R Out := (zaG (sIf (eOr (zhT (zau (zcv (g2 zeI) (zaa (eOp gIx (zae 0) (eC (.int 0))) (zaa (eC (.ty "str")) zaj))))) (zau (eOp zpv (eOp gIx (zae 0) (eC (.int 0))) (zgk (zaa (eC (.str "line")) (zaa (eC (.str "peg")) zaj)))))) (zbz (eC (.bl false))) zbe) zes)
noncomputable def zcU : DSt -> R Out := (zaG (sIf (eOr (zhT (zau (zcv (g2 zeI) (zaa (zae 0) (zaa (eC (.ty "tuple")) zaj))))) (zau (eOp gNe (zcv ziz (zaa (zae 0) zaj)) (eC (.int 3))))) (zbz (eC (.bl false))) zbe) zet)
noncomputable def zce : List D -> R D := fnM 1 1 zcU
theorem zhg (a0 : D) : zce [a0] = fin (zcU [some a0]) := zaD (b := zcU) rfl rfl
noncomputable def zdr : DSt -> R Out := (sIf (zhT (zau (zhS gLe gLt (eC (.int 0)) (zae 3) (zcv ziz (zaa (zae 0) zaj))))) zuN zbe)
noncomputable def zeu : DSt -> R Out := (zbz (zgk (zaa (zae 4) (zaa (zae 5) zaj))))
noncomputable def zev : DSt -> R Out := (zaG (sIf (zau (eOp gEq (zae 4) (zae 5))) zuN zbe) zeu)
noncomputable def zew : DSt -> R Out := (zaG (zaA 5 (eOp gIx (zae 0) (eOp gIx (zae 1) (eC (.int 2))))) zev)
noncomputable def zex : DSt -> R Out := (zaG (zaA 4 (eOp gIx (zae 0) (eOp gIx (zae 1) (eC (.int 1))))) zew)
noncomputable def zcV : DSt -> R Out := (zaG (zkh [] [3] zaL (zhX (zgk (zaa (eOp gIx (zae 1) (eC (.int 1))) (zaa (eOp gIx (zae 1) (eC (.int 2))) zaj)))) zdr) zex)
noncomputable def zaU : List D -> R D := fnM 3 6 zcV
theorem zhh (a0 : D) (a1 : D) (a2 : D) : zaU [a0, a1, a2] = fin (zcV [some a0, some a1, some a2, none, none, none]) := zaD (b := zcV) rfl rfl
noncomputable def zcA : DSt -> R Out := (zq9 [3, 2] 3 (zaq zaH (zaa (eOp gIx (zae 6) (eC (.int 0))) (zaa (eOp gIx (zae 6) (eC (.int 1))) zaj))))
noncomputable def zde : DSt -> R Out := (zaG (zn1 6 (zaq zaU (zaa (zae 2) (zaa (zae 5) (zaa (zae 4) zaj))))) zcA)
noncomputable def zcB : DSt -> R Out := (zq9 [3, 2] 2 (zaq zbN (zaa (eOp gIx (zae 6) (eC (.int 0))) (zaa (eOp gIx (zae 6) (eC (.int 1))) zaj))))
noncomputable def zdf : DSt -> R Out := (zaG (zn1 6 (zaq zaU (zaa (zae 3) (zaa (zae 5) (zaa (zae 4) zaj))))) zcB)
noncomputable def zdB : DSt -> R Out := (sIf (zau (eOp gEq (eOp gIx (zae 5) (eC (.int 0))) (eC (.str "line")))) zde zdf)
noncomputable def zbc : DSt -> R Out := (zaG (sIf (zhT (zau (zaq zce (zaa (zae 5) zaj)))) zuN zbe) zdB)
noncomputable def zfh : DSt -> R Out := (zbz (zgk (zaa (zae 2) (zaa (zae 3) zaj))))
noncomputable def zfi : DSt -> R Out := (zaG (zkh [3, 2] [4, 5] (zbX 2) (zdV zeL (zaa (zae 1) zaj)) zbc) zfh)
noncomputable def zfj : DSt -> R Out := (zaG (zq8 [2] 3 (zgb zaj)) zfi)
noncomputable def zds : DSt -> R Out := (zaG (zq8 [] 2 (zmF zju (zaa (zae 0) zaj))) zfj)
noncomputable def zcC : List D -> R D := fnM 2 7 zds
theorem zhy (a0 : D) (a1 : D) : zcC [a0, a1] = fin (zds [some a0, some a1, none, none, none, none, none]) := zaD (b := zds) rfl rfl
noncomputable def zaV : DSt -> R Out := (sIf (zau (zaq zbA (zaa (zdn (zgb (zaa (eOp gIx (zae 0) (zae 3)) (zaa (eOp gIx (zae 0) (zae 2)) (zaa (eOp gIx (zae 0) (zae 1)) zaj))))) zaj))) (zbz (eC (.bl true))) zbe)
noncomputable def zaZ : DSt -> R Out := (zkh [] [3] zaL (zdV zhs (zaa (zae 2) zaj)) zaV)
noncomputable def za5 : DSt -> R Out := (zkh [] [2] zaL (zdV zhs (zaa (zae 1) zaj)) zaZ)
noncomputable def zcl : DSt -> R Out := (zbz (eC (.bl false)))
noncomputable def zbf : DSt -> R Out := (zaG (zkh [] [1] zaL (zdV zhs (zaa (zcv ziz (zaa (zae 0) zaj)) zaj)) za5) zcl)
noncomputable def zaW : List D -> R D := fnM 1 4 zbf
theorem zd5 (a0 : D) : zaW [a0] = fin (zbf [some a0, none, none, none]) := zaD (b := zbf) rfl rfl
noncomputable def zaY : DSt -> R Out := (sIf (eOr (zhT (zau (zaq zaE (zaa (zae 0) zaj)))) (eOr (zau (eOp gNe (zcv ziz (zaa (zae 0) zaj)) (zae 1))) (zau (zaq zaW (zaa (zae 0) zaj))))) (zkw "NoBow") zbe)
noncomputable def zat : List D -> R D := fnM 2 2 zaY
theorem zbq (a0 : D) (a1 : D) : zat [a0, a1] = fin (zaY [some a0, some a1]) := zaD (b := zaY) rfl rfl
noncomputable def zd6 : DSt -> R Out := (zbz (eOp zcJ (zae 3) (zae 4)))
noncomputable def zd7 : DSt -> R Out := (zaG (zkg [] 4 (zdn (eLC 2 [0, 1] (zhX (zgk (zaa (zgk (zaa (eC (.int 0)) (zaa (eC (.int 1)) zaj))) (zaa (zgk (zaa (eC (.int 0)) (zaa (eC (.int 2)) zaj))) (zaa (zgk (zaa (eC (.int 1)) (zaa (eC (.int 2)) zaj))) zaj))))) (zbX 2) zbS (eOp zcJ (eOp za8 (eOp gIx (zae 3) (zae 0)) (eOp gIx (zae 4) (zae 1))) (eOp za8 (eOp gIx (zae 3) (zae 1)) (eOp gIx (zae 4) (zae 0))))))) zd6)
noncomputable def zd8 : DSt -> R Out := (zaG (zkg [] 3 (zdn (eLC 1 [0] (zdV zhs (zaa (eC (.int 3)) zaj)) zaL zbS (eOp za8 (eOp gIx (zae 2) (zae 0)) (eOp gIx (zae 3) (zae 0)))))) zd7)
noncomputable def zd9 : DSt -> R Out := (zaG (zaA 2 (eOp gIx (zae 0) (eC (.int 1)))) zd8)
noncomputable def zcp : DSt -> R Out := (zaG (zaA 1 (eOp gIx (zae 0) (eC (.int 0)))) zd9)
noncomputable def za6 : List D -> R D := fnM 1 5 zcp
theorem zgg (a0 : D) : za6 [a0] = fin (zcp [some a0, none, none, none, none]) := zaD (b := zcp) rfl rfl
noncomputable def zh9 : DSt -> R Out := (zbz (zaq zfg (zaa (zdn (eLC 2 [0, 1] (zdV zkA (zaa (eOp gIx (zae 5) (eC (.int 0))) (zaa (eOp gIx (zae 5) (eC (.int 1))) zaj))) (zbX 2) zbS (eOp gSub (eOp za8 (zae 5) (zae 0)) (eOp za8 (zae 6) (zae 1))))) zaj)))
noncomputable def zia : DSt -> R Out := (zaG (zaA 5 (zgk (zaa (zaq za6 (zaa (zae 1) zaj)) (zaa (zaq za6 (zaa (zae 2) zaj)) zaj)))) zh9)
noncomputable def zib : DSt -> R Out := (zaG (zaA 4 (eOp za8 (zaq zhd (zaa (eOp gIx (zae 1) (eC (.int 0))) (zaa (eOp gIx (zae 0) (eC (.int 4))) zaj))) (zaq zhd (zaa (eOp gIx (zae 1) (eC (.int 1))) (zaa (eOp gIx (zae 0) (eC (.int 4))) zaj))))) zia)
noncomputable def zic : DSt -> R Out := (zaG (zaA 3 (eOp za8 (zaq zhd (zaa (eOp gIx (zae 2) (eC (.int 0))) (zaa (eOp gIx (zae 0) (eC (.int 4))) zaj))) (zaq zhd (zaa (eOp gIx (zae 2) (eC (.int 1))) (zaa (eOp gIx (zae 0) (eC (.int 4))) zaj))))) zib)
noncomputable def zid : DSt -> R Out := (zaG (zaA 2 (zgk (zaa (zaq zaH (zaa (eOp gIx (zae 0) (eC (.int 0))) (zaa (eOp gIx (zae 0) (eC (.int 2))) zaj))) (zaa (zaq zaH (zaa (eOp gIx (zae 0) (eC (.int 1))) (zaa (eOp gIx (zae 0) (eC (.int 3))) zaj))) zaj)))) zic)
noncomputable def zie : DSt -> R Out := (zaG (zaA 1 (zgk (zaa (zaq zaH (zaa (eOp gIx (zae 0) (eC (.int 0))) (zaa (eOp gIx (zae 0) (eC (.int 1))) zaj))) (zaa (zaq zaH (zaa (eOp gIx (zae 0) (eC (.int 2))) (zaa (eOp gIx (zae 0) (eC (.int 3))) zaj))) zaj)))) zid)
noncomputable def zgv : DSt -> R Out := (zaG (zmD (zaq zat (zaa (zae 0) (zaa (eC (.int 5)) zaj)))) zie)
noncomputable def zdt : List D -> R D := fnM 1 6 zgv
theorem zkH (a0 : D) : zdt [a0] = fin (zgv [some a0, none, none, none, none, none]) := zaD (b := zgv) rfl rfl
def zl9 : D := .lst [.tup [.str "line", .int 0, .int 5], .tup [.str "line", .int 2, .int 3], .tup [.str "peg", .int 0, .int 1], .tup [.str "line", .int 0, .int 1], .tup [.str "line", .int 3, .int 4], .tup [.str "peg", .int 2, .int 3], .tup [.str "line", .int 6, .int 7], .tup [.str "line", .int 1, .int 2], .tup [.str "peg", .int 4, .int 5], .tup [.str "line", .int 4, .int 8], .tup [.str "peg", .int 0, .int 6]]
def zma : D := .int 9
noncomputable def zj6 : DSt -> R Out := (zbz (eOp gIx (eOp gIx (zaq zcC (zaa (eOp zcJ (zae 0) (zdn (zgb (zaa (zae 1) zaj)))) (zaa (zdn (zmF zju (zaa (eC zl9) zaj))) zaj))) (eC (.int 0))) (eC zma)))
noncomputable def zhi : DSt -> R Out := (zaG (sIf (zau (eOp gEq (zae 1) (eOp gIx (zae 0) (eC (.int 0))))) (zkE "Same" [.non] zaj) zbe) zj6)
noncomputable def zfN : DSt -> R Out := (zaG (zmD (zaq zat (zaa (zae 0) (zaa (eC (.int 5)) zaj)))) zhi)
noncomputable def zcj : List D -> R D := fnM 2 2 zfN
theorem zfO (a0 : D) (a1 : D) : zcj [a0, a1] = fin (zfN [some a0, some a1]) := zaD (b := zfN) rfl rfl
noncomputable def zbU : DSt -> R Out := (zkg [4] 3 (eOp zeH (zae 3) (eOp zsW (eC (.int 10)) (eC (.int 6)))))
noncomputable def zcm : DSt -> R Out := (zaG (zq9 [4] 4 (eOp zfE (zae 3) (eOp zsW (eC (.int 10)) (eC (.int 6))))) zbU)
noncomputable def zbV : DSt -> R Out := (zq9 [4] 4 (eOp zfE (eOp za8 (eOp zfE (eOp za8 (zae 6) (zae 6)) (eC (.int 2147483629))) (eC (.int 48271))) (eC (.int 2147483647))))
noncomputable def za0 : DSt -> R Out := (zaG (zkg [4] 6 (eOp zfE (eOp za8 (eOp zfE (eOp zcJ (eOp zcJ (zae 2) (eOp za8 (eOp za8 (eC (.int 101)) (zae 5)) (zae 5))) (zae 5)) (eC (.int 2147483647))) (eC (.int 48271))) (eC (.int 2147483647)))) zbV)
noncomputable def zaS : DSt -> R Out := (sIf (ztK (zau (eOp gGe (zae 2) (eOp zsW (eC (.int 10)) (eC (.int 18))))) (zau (eOp gGt (zae 3) (eC (.int 0))))) zcm za0)
noncomputable def zcW : DSt -> R Out := (zbz (zae 4))
noncomputable def zcX : DSt -> R Out := (zaG (zkh [4] [5] zaL (zdV zhs (zaa (zae 1) zaj)) zaS) zcW)
noncomputable def zcY : DSt -> R Out := (zaG (zq8 [] 4 (zgb zaj)) zcX)
noncomputable def zcZ : DSt -> R Out := (zaG (zaA 3 (zae 2)) zcY)
noncomputable def zbx : DSt -> R Out := (zaG (zaA 2 (zcv zwf (zaa (zae 0) (zaa (eOp gSub (eUn zrb (eC (.int 1))) (zae 0)) zaj)))) zcZ)
noncomputable def zaO : List D -> R D := fnM 2 7 zbx
theorem zeN (a0 : D) (a1 : D) : zaO [a0, a1] = fin (zbx [some a0, some a1, none, none, none, none, none]) := zaD (b := zbx) rfl rfl
noncomputable def zdu : DSt -> R Out := (zbz (zp7 (zcv (g2 zeI) (zaa (zae 0) (zaa (eC (.ty "int")) zaj))) (ztL (zcv (g2 zeI) (zaa (zae 0) (zaa (eC (.ty "bool")) zaj))))))
noncomputable def zbY : List D -> R D := fnM 1 1 zdu
theorem zhz (a0 : D) : zbY [a0] = fin (zdu [some a0]) := zaD (b := zdu) rfl rfl
noncomputable def za7 : DSt -> R Bool := (zau (eOp gNe (zae 4) (eC (.int 0))))
noncomputable def zbB : DSt -> R Out := (zxc [] 3 4 (zaa (zae 4) (zaa (eOp zfE (zae 3) (zae 4)) zaj)))
noncomputable def zc0 : DSt -> R Out := (zbr za7 zbB)
noncomputable def zbZ : DSt -> R Out := (zbz (zgk (zaa (eOp zeH (zae 0) (zae 3)) (zaa (eOp zeH (zae 1) (zae 3)) (zaa (eOp zeH (zae 2) (zae 3)) zaj)))))
noncomputable def zdg : DSt -> R Out := (zaG (sIf (zau (eOp gLt (zae 5) (eC (.int 0)))) (zaA 3 (eOp gSub (eC (.int 0)) (zae 3))) zbe) zbZ)
noncomputable def zdh : DSt -> R Out := (zaG (zaA 5 (eOp gIx (zdn (eLC 1 [0] (zhX (zdn (zgb (zaa (zae 0) (zaa (zae 1) (zaa (zae 2) zaj)))))) zaL (zau (eOp gNe (zae 0) (eC (.int 0)))) (zae 0))) (eUn zrb (eC (.int 1))))) zdg)
noncomputable def zdi : DSt -> R Out := (zaG (zkh [] [4] zaL (zhX (zdn (zgb (zaa (zcv zrd (zaa (zae 1) zaj)) (zaa (zcv zrd (zaa (zae 2) zaj)) zaj))))) zc0) zdh)
noncomputable def zbO : DSt -> R Out := (zaG (zaA 3 (zcv zrd (zaa (zae 0) zaj))) zdi)
noncomputable def zah : List D -> R D := fnM 3 6 zbO
theorem zfk (a0 : D) (a1 : D) (a2 : D) : zah [a0, a1, a2] = fin (zbO [some a0, some a1, some a2, none, none, none]) := zaD (b := zbO) rfl rfl
noncomputable def zck : DSt -> R Out := (zbz (zaq zah (zaa (zae 2) (zaa (zae 3) (zaa (zae 4) zaj)))))
noncomputable def zdC : DSt -> R Out := (zaG (sIf (ztK (zau (eOp gEq (zae 2) (eC (.int 0)))) (ztK (zau (eOp gEq (zae 3) (eC (.int 0)))) (zau (eOp gEq (zae 4) (eC (.int 0)))))) (zaA 4 (eC (.int 1))) zbe) zck)
noncomputable def zdD : DSt -> R Out := (zaG (zaA 4 (eOp gSub (eOp zfE (eOp gIx (zae 0) (eC (.int 2))) (eOp zcJ (eOp za8 (eC (.int 2)) (zae 1)) (eC (.int 1)))) (zae 1))) zdC)
noncomputable def zdE : DSt -> R Out := (zaG (zaA 3 (eOp gSub (eOp zfE (eOp gIx (zae 0) (eC (.int 1))) (eOp zcJ (eOp za8 (eC (.int 2)) (zae 1)) (eC (.int 1)))) (zae 1))) zdD)
noncomputable def zdF : DSt -> R Out := (zaG (zaA 2 (eOp gSub (eOp zfE (eOp gIx (zae 0) (eC (.int 0))) (eOp zcJ (eOp za8 (eC (.int 2)) (zae 1)) (eC (.int 1)))) (zae 1))) zdE)
noncomputable def zb4 : DSt -> R Out := (zaG (zaA 1 (eOp gIx (zdn (zgb (zaa (eC (.int 2)) (zaa (eC (.int 5)) (zaa (eC (.int 1000)) zaj))))) (eOp zfE (eOp gIx (zae 0) (eC (.int 3))) (eC (.int 3))))) zdF)
noncomputable def zaB : List D -> R D := fnM 1 5 zb4
theorem zfP (a0 : D) : zaB [a0] = fin (zb4 [some a0, none, none, none, none]) := zaD (b := zb4) rfl rfl
noncomputable def zea : DSt -> R Out := (zbz (eOp zcJ (eOp zcJ (eOp za8 (eOp gIx (zae 0) (eC (.int 0))) (eOp gIx (zae 1) (eC (.int 0)))) (eOp za8 (eOp gIx (zae 0) (eC (.int 1))) (eOp gIx (zae 1) (eC (.int 1))))) (eOp za8 (eOp gIx (zae 0) (eC (.int 2))) (eOp gIx (zae 1) (eC (.int 2))))))
noncomputable def za1 : List D -> R D := fnM 2 2 zea
theorem zf0 (a0 : D) (a1 : D) : za1 [a0, a1] = fin (zea [some a0, some a1]) := zaD (b := zea) rfl rfl
noncomputable def zc8 : DSt -> R Out := (zbz (eOp zcJ (eOp gSub (zae 9) (zae 10)) (eOp za8 (eOp gIx (zae 0) (eC (.int 2))) (eOp gSub (eOp za8 (zae 3) (zae 7)) (eOp za8 (zae 4) (zae 6))))))
noncomputable def zc9 : DSt -> R Out := (zaG (zaA 10 (eOp za8 (eOp gIx (zae 0) (eC (.int 1))) (eOp gSub (eOp za8 (zae 3) (zae 8)) (eOp za8 (zae 5) (zae 6))))) zc8)
noncomputable def zda : DSt -> R Out := (zaG (zaA 9 (eOp za8 (eOp gIx (zae 0) (eC (.int 0))) (eOp gSub (eOp za8 (zae 4) (zae 8)) (eOp za8 (zae 5) (zae 7))))) zc9)
noncomputable def zdb : DSt -> R Out := (zaG (zsS [] [6, 7, 8] (zbX 3) (zae 2)) zda)
noncomputable def zcf : DSt -> R Out := (zaG (zsS [] [3, 4, 5] (zbX 3) (zae 1)) zdb)
noncomputable def zaP : List D -> R D := fnM 3 11 zcf
theorem zhj (a0 : D) (a1 : D) (a2 : D) : zaP [a0, a1, a2] = fin (zcf [some a0, some a1, some a2, none, none, none, none, none, none, none, none]) := zaD (b := zcf) rfl rfl
noncomputable def zdG : DSt -> R Out := (zbz (eOp gEq (zae 0) (zae 1)))
noncomputable def zb5 : DSt -> R Out := (zaG (sIf (eOr (zhT (zau (zcv (g2 zeI) (zaa (zae 0) (zaa (eC (.ty "tuple")) zaj))))) (eOr (zau (eOp gNe (zcv ziz (zaa (zae 0) zaj)) (eC (.int 3)))) (zau (eOp gNe (zdn (eLC 1 [0] (zhX (zae 0)) zaL (zhT (zau (zaq zbY (zaa (zae 0) zaj)))) (zae 0))) (zdn (zgb zaj)))))) (zbz (eC (.bl false))) zbe) zdG)
noncomputable def zbt : List D -> R D := fnM 2 2 zb5
theorem zfQ (a0 : D) (a1 : D) : zbt [a0, a1] = fin (zb5 [some a0, some a1]) := zaD (b := zb5) rfl rfl
noncomputable def zdj : DSt -> R Out := (zq9 [2] 2 (zdn (eLC 1 [0] (zhX (zae 4)) zaL zbS (eOp gSub (eOp zfE (zae 0) (eOp zcJ (eOp za8 (eC (.int 2)) (zae 2)) (eC (.int 1)))) (zae 2)))))
noncomputable def zcD : DSt -> R Out := (zaG (zkg [2] 4 (zdn (eLC 1 [0] (zdV zhs (zaa (eC (.int 3)) zaj)) zaL zbS (eOp gIx (zae 1) (eOp zcJ (eOp za8 (eC (.int 3)) (zae 4)) (zae 0)))))) zdj)
noncomputable def zey : DSt -> R Out := (zbz (zae 2))
noncomputable def zez : DSt -> R Out := (zaG (sIf (zau (eOp gEq (zaq zaP (zaa (eOp gIx (zae 2) (eC (.int 0))) (zaa (eOp gIx (zae 2) (eC (.int 1))) (zaa (eOp gIx (zae 2) (eC (.int 2))) zaj)))) (eC (.int 0)))) (zbz (zdn (zgb (zaa (zdn (zgb (zaa (eC (.int 1)) (zaa (eOp zfE (eOp gIx (zae 0) (eC (.int 0))) (eC (.int 7))) (zaa (eOp zfE (eOp gIx (zae 0) (eC (.int 1))) (eC (.int 5))) zaj))))) (zaa (zdn (zgb (zaa (eC (.int 0)) (zaa (eC (.int 1)) (zaa (eOp zfE (eOp gIx (zae 0) (eC (.int 2))) (eC (.int 9))) zaj))))) (zaa (zdn (zgb (zaa (eC (.int 0)) (zaa (eC (.int 0)) (zaa (eOp zcJ (eC (.int 1)) (eOp zfE (eOp gIx (zae 0) (eC (.int 4))) (eC (.int 4)))) zaj))))) zaj)))))) zbe) zey)
noncomputable def zeA : DSt -> R Out := (zaG (zkh [2] [3] zaL (zdV zhs (zaa (eC (.int 3)) zaj)) zcD) zez)
noncomputable def zeB : DSt -> R Out := (zaG (zq8 [] 2 (zgb zaj)) zeA)
noncomputable def zc1 : DSt -> R Out := (zaG (zaA 1 (eOp gIx (zdn (zgb (zaa (eC (.int 1)) (zaa (eC (.int 2)) (zaa (eC (.int 30)) zaj))))) (eOp zfE (eOp gIx (zae 0) (eC (.int 9))) (eC (.int 3))))) zeB)
noncomputable def zbG : List D -> R D := fnM 1 5 zc1
theorem zhk (a0 : D) : zbG [a0] = fin (zc1 [some a0, none, none, none, none]) := zaD (b := zc1) rfl rfl
noncomputable def zc2 : DSt -> R Out := (zbz (zaq zah (zaa (zaq za1 (zaa (eOp gIx (zae 0) (eC (.int 0))) (zaa (zae 1) zaj))) (zaa (zaq za1 (zaa (eOp gIx (zae 0) (eC (.int 1))) (zaa (zae 1) zaj))) (zaa (zaq za1 (zaa (eOp gIx (zae 0) (eC (.int 2))) (zaa (zae 1) zaj))) zaj)))))
noncomputable def zbH : List D -> R D := fnM 2 2 zc2
theorem zhl (a0 : D) (a1 : D) : zbH [a0, a1] = fin (zc2 [some a0, some a1]) := zaD (b := zc2) rfl rfl
noncomputable def zby : DSt -> R Out := (zq9 [2] 2 (zaq zbH (zaa (zae 1) (zaa (zgk (zaa (eOp za8 (zae 4) (zae 4)) (zaa (eOp za8 (zae 4) (zae 5)) (zaa (eOp za8 (zae 5) (zae 5)) zaj)))) zaj))))
noncomputable def zdH : DSt -> R Out := (zaG (sIf (ztK (zau (eOp gEq (zae 4) (eC (.int 0)))) (zau (eOp gEq (zae 5) (eC (.int 0))))) (zkg [2] 5 (eC (.int 1))) zbe) zby)
noncomputable def zdI : DSt -> R Out := (zaG (zkg [2] 5 (eOp zfE (eOp gIx (zae 0) (eOp zcJ (eOp za8 (eC (.int 2)) (zae 3)) (eC (.int 1)))) (eC (.int 4)))) zdH)
noncomputable def zbu : DSt -> R Out := (zaG (zkg [2] 4 (eOp gSub (eOp zfE (eOp gIx (zae 0) (eOp za8 (eC (.int 2)) (zae 3))) (eC (.int 13))) (eC (.int 6)))) zdI)
noncomputable def zfl : DSt -> R Out := (zbz (zae 2))
noncomputable def zfm : DSt -> R Out := (zaG (zkh [2] [3] zaL (zdV zhs (zaa (eOp zeH (zcv ziz (zaa (zae 0) zaj)) (eC (.int 2))) zaj)) zbu) zfl)
noncomputable def zdv : DSt -> R Out := (zaG (zq8 [] 2 (zgb zaj)) zfm)
noncomputable def zcE : List D -> R D := fnM 2 6 zdv
theorem zhA (a0 : D) (a1 : D) : zcE [a0, a1] = fin (zdv [some a0, some a1, none, none, none, none]) := zaD (b := zdv) rfl rfl
noncomputable def zb6 : DSt -> R Out := (sIf (zau (eOp gEq (zaq zaP (zaa (eOp gIx (zae 0) (zae 1)) (zaa (eOp gIx (zae 0) (zae 2)) (zaa (eOp gIx (zae 0) (zae 3)) zaj)))) (eC (.int 0)))) (zbz (eC (.bl true))) zbe)
noncomputable def zcq : DSt -> R Out := (zkh [] [3] zaL (zdV zhs (zaa (zae 2) zaj)) zb6)
noncomputable def zc3 : DSt -> R Out := (zkh [] [2] zaL (zdV zhs (zaa (zae 1) zaj)) zcq)
noncomputable def zfn : DSt -> R Out := (zbz (eC (.bl false)))
noncomputable def zdw : DSt -> R Out := (zaG (zkh [] [1] zaL (zdV zhs (zaa (zcv ziz (zaa (zae 0) zaj)) zaj)) zc3) zfn)
noncomputable def zbC : List D -> R D := fnM 1 4 zdw
theorem zhB (a0 : D) : zbC [a0] = fin (zdw [some a0, none, none, none]) := zaD (b := zdw) rfl rfl
noncomputable def zdJ : DSt -> R Out := (zbz (zaq zah (zaa (zae 5) (zaa (zae 6) (zaa (eOp zcJ (eOp zcJ (eOp za8 (eOp za8 (eC (.int 2)) (eOp gIx (zae 0) (eC (.int 2)))) (zae 4)) (eOp za8 (eOp gIx (zae 0) (eC (.int 4))) (zae 2))) (eOp za8 (eOp gIx (zae 0) (eC (.int 5))) (zae 3))) zaj)))))
noncomputable def zdK : DSt -> R Out := (zaG (zaA 6 (eOp zcJ (eOp zcJ (eOp za8 (eOp za8 (eC (.int 2)) (eOp gIx (zae 0) (eC (.int 1)))) (zae 3)) (eOp za8 (eOp gIx (zae 0) (eC (.int 3))) (zae 2))) (eOp za8 (eOp gIx (zae 0) (eC (.int 5))) (zae 4)))) zdJ)
noncomputable def zdL : DSt -> R Out := (zaG (zaA 5 (eOp zcJ (eOp zcJ (eOp za8 (eOp za8 (eC (.int 2)) (eOp gIx (zae 0) (eC (.int 0)))) (zae 2)) (eOp za8 (eOp gIx (zae 0) (eC (.int 3))) (zae 3))) (eOp za8 (eOp gIx (zae 0) (eC (.int 4))) (zae 4)))) zdK)
noncomputable def zb7 : DSt -> R Out := (zaG (zsS [] [2, 3, 4] (zbX 3) (zae 1)) zdL)
noncomputable def zaI : List D -> R D := fnM 2 7 zb7
theorem zfR (a0 : D) (a1 : D) : zaI [a0, a1] = fin (zb7 [some a0, some a1, none, none, none, none, none]) := zaD (b := zb7) rfl rfl
noncomputable def zdx : DSt -> R Out := (zbz (eOp gEq (zaq za1 (zaa (zaq zaI (zaa (zae 0) (zaa (zae 1) zaj))) (zaa (zae 1) zaj))) (eC (.int 0))))
noncomputable def zb0 : List D -> R D := fnM 2 2 zdx
theorem zhC (a0 : D) (a1 : D) : zb0 [a0, a1] = fin (zdx [some a0, some a1]) := zaD (b := zdx) rfl rfl
noncomputable def zcg : DSt -> R Out := (zbz (eOp gIs (eUn (gAt ["NoDeed", "Same"]) (zae 3)) (eC .non)))
noncomputable def zcF : DSt -> R Out := (zaG (sIf (eOr (zhT (zau (zcv (g2 zg6) (zaa (zae 3) (zaa (eC (.cls "Same")) zaj))))) (eOr (zhT (zau (zcv (g2 zg6) (zaa (zae 3) (zaa (eC (.ty "ValueError")) zaj))))) (zau (zcv (g2 zg6) (zaa (zae 3) (zaa (eC (.cls "NoBow")) zaj)))))) (zbz (eC (.bl false))) zbe) zcg)
noncomputable def zc4 : DSt -> R Out := (zbz (zp7 (zcv (g2 zg6) (zaa (zae 3) (zaa (eC (.cls "NoBow")) zaj))) (zp7 (zcv (g2 zg6) (zaa (zae 3) (zaa (eC (.ty "ValueError")) zaj))) (ztL (zcv (g2 zg6) (zaa (zae 3) (zaa (eC (.cls "Same")) zaj)))))))
noncomputable def zbP : DSt -> R Out := (zaG (sIf (zau (zae 2)) zcF zbe) zc4)
noncomputable def zbQ : DSt -> R Out := (zaG (zwh 4 "ChalkError" (zmD (zlg zcj (zaa (zae 0) (zaa (zae 1) zaj)))) (zaA 3 (zae 4))) zbP)
noncomputable def zba : DSt -> R Out := (zaG (zaA 3 (eC .non)) zbQ)
noncomputable def zax : List D -> R D := fnM 3 5 zba
theorem zcG (a0 : D) (a1 : D) (a2 : D) : zax [a0, a1, a2] = fin (zba [some a0, some a1, some a2, none, none]) := zaD (b := zba) rfl rfl
noncomputable def zdM : DSt -> R Out := (zbz (vOr (ztL (zaq zb0 (zaa (zae 3) (zaa (zae 1) zaj)))) (eOp gEq (zae 4) (zae 1))))
noncomputable def zdN : DSt -> R Out := (zaG (sIf (zau (eOp gNe (eOp gEq (zae 4) (eOp gIx (zae 0) (eC (.int 0)))) (zae 5))) (zbz (eC (.bl false))) zbe) zdM)
noncomputable def zdO : DSt -> R Out := (zaG (zaA 5 (eOp gEq (zaq za1 (zaa (zaq zaI (zaa (zae 3) (zaa (eOp gIx (zae 0) (eC (.int 0))) zaj))) (zaa (zae 1) zaj))) (eC (.int 0)))) zdN)
noncomputable def zdP : DSt -> R Out := (zaG (sIf (eOr (zau (eOp gNe (zaq zaP (zaa (eOp gIx (zae 0) (eC (.int 0))) (zaa (zae 1) (zaa (zae 4) zaj)))) (eC (.int 0)))) (zhT (zau (zaq zb0 (zaa (zae 3) (zaa (zae 4) zaj)))))) (zbz (eC (.bl false))) zbe) zdO)
noncomputable def zdQ : DSt -> R Out := (zaG (sIf (eOr (zau (eOp gNe (zae 2) (zae 0))) (eOr (zhT (zau (zaq zbt (zaa (zae 4) (zaa (zae 4) zaj))))) (zau (eOp gNe (zaq zah (zaa (eOp gIx (zae 4) (eC (.int 0))) (zaa (eOp gIx (zae 4) (eC (.int 1))) (zaa (eOp gIx (zae 4) (eC (.int 2))) zaj)))) (zae 4))))) (zbz (eC (.bl false))) zbe) zdP)
noncomputable def zdR : DSt -> R Out := (zaG (zaA 4 (zaq zcj (zaa (zae 2) (zaa (zae 1) zaj)))) zdQ)
noncomputable def zdS : DSt -> R Out := (zaG (zaA 3 (zaq zdt (zaa (zae 0) zaj))) zdR)
noncomputable def zdT : DSt -> R Out := (zaG (sIf (zau (eOp gEq (zae 1) (eOp gIx (zae 0) (eC (.int 0))))) (zbz (zp7 (zaq zax (zaa (zae 2) (zaa (zae 1) (zaa (eC (.bl true)) zaj)))) (eOp gEq (zae 2) (zae 0)))) zbe) zdS)
noncomputable def zdU : DSt -> R Out := (zaG (sIf (zau (zaq zbC (zaa (zae 0) zaj))) (zbz (zaq zax (zaa (zae 2) (zaa (zae 1) (zaa (eC (.bl false)) zaj))))) zbe) zdT)
noncomputable def zb8 : DSt -> R Out := (zaG (zaA 2 (zdn (zmF zju (zaa (zae 0) zaj)))) zdU)
noncomputable def zbv : List D -> R D := fnM 2 6 zb8
theorem zfS (a0 : D) (a1 : D) : zbv [a0, a1] = fin (zb8 [some a0, some a1, none, none, none, none]) := zaD (b := zb8) rfl rfl
noncomputable def zeC : DSt -> R Out := (zbz (zaq zah (zaa (eOp gIx (zae 12) (eC (.int 0))) (zaa (eOp gIx (zae 12) (eC (.int 1))) (zaa (eOp gIx (zae 12) (eC (.int 2))) zaj)))))
noncomputable def zfo : DSt -> R Out := (zaG (sIf (zau (eOp gEq (zae 12) (zgk (zaa (eC (.int 0)) (zaa (eC (.int 0)) (zaa (eC (.int 0)) zaj)))))) (zbz (eOp gIx (zae 1) (eC (.int 1)))) zbe) zeC)
noncomputable def zfp : DSt -> R Out := (zaG (zaA 12 (zgk (zaa (eOp gSub (eOp za8 (zae 7) (zae 11)) (eOp za8 (zae 8) (zae 10))) (zaa (eOp gSub (eOp za8 (zae 8) (zae 9)) (eOp za8 (zae 6) (zae 11))) (zaa (eOp gSub (eOp za8 (zae 6) (zae 10)) (eOp za8 (zae 7) (zae 9))) zaj))))) zfo)
noncomputable def zfq : DSt -> R Out := (zaG (zsS [] [9, 10, 11] (zbX 3) (zae 5)) zfp)
noncomputable def zfr : DSt -> R Out := (zaG (zsS [] [6, 7, 8] (zbX 3) (zae 4)) zfq)
noncomputable def zfs : DSt -> R Out := (zaG (zaA 5 (zaq zaB (zaa (eSl (zae 0) (zbT (eC (.int 2))) (zbT (eC (.int 6)))) zaj))) zfr)
noncomputable def zft : DSt -> R Out := (zaG (zaA 4 (zaq zaI (zaa (zaq zdt (zaa (zae 1) zaj)) (zaa (eOp gIx (zae 1) (eC (.int 0))) zaj)))) zfs)
noncomputable def zfu : DSt -> R Out := (zaG (sIf (eOr (zau (eOp gEq (zae 3) (eC (.int 2)))) (zau (zaq zbC (zaa (zae 1) zaj)))) (zbz (zaq zaB (zaa (eSl (zae 0) (zbT (eC (.int 2))) (zbT (eC (.int 6)))) zaj))) zbe) zft)
noncomputable def zfv : DSt -> R Out := (zaG (sIf (zau (eOp gEq (zae 3) (eC (.int 1)))) (zbz (eOp gIx (zae 1) (eOp zfE (eOp gIx (zae 0) (eC (.int 1))) (eC (.int 5))))) zbe) zfu)
noncomputable def zfw : DSt -> R Out := (zaG (sIf (zau (eOp gEq (zae 3) (eC (.int 0)))) (zbz (eOp gIx (zae 2) (eC (.int 5)))) zbe) zfv)
noncomputable def zdy : DSt -> R Out := (zaG (zaA 3 (eOp zfE (eOp gIx (zae 0) (eC (.int 0))) (eC (.int 4)))) zfw)
noncomputable def zb1 : List D -> R D := fnM 3 13 zdy
theorem zhD (a0 : D) (a1 : D) (a2 : D) : zb1 [a0, a1, a2] = fin (zdy [some a0, some a1, some a2, none, none, none, none, none, none, none, none, none, none]) := zaD (b := zdy) rfl rfl
noncomputable def zf1 : DSt -> R Out := (sIf (eOr (zhT (zau (zaq zbv (zaa (zae 5) (zaa (zae 6) zaj))))) (zhT (zau (zaq zax (zaa (zae 8) (zaa (zae 6) (zaa (eC (.bl false)) zaj))))))) (zbz (eC (.bl false))) zbe)
noncomputable def zf2 : DSt -> R Out := (zaG (zaA 8 (eOp gIx (zdn (zgb (zaa (eSl (zae 5) zgT (zbT (eC (.int 4)))) (zaa (eOp zcJ (zae 5) (zdn (zgb (zaa (zae 6) zaj)))) (zaa (zcv zjt (zaa (zae 5) zaj)) (zaa (eC .non) (zaa (zdn (zgb zaj)) (zaa (eOp zcJ (eSl (zae 5) zgT (zbT (eC (.int 4)))) (zdn (zgb (zaa (zae 7) zaj)))) (zaa (eOp zcJ (zdn (zgb (zaa (zae 7) zaj))) (eSl (zae 5) (zbT (eC (.int 1))) zgT)) zaj))))))))) (eOp zfE (eOp gIx (zae 2) (eC (.int 22))) (eC (.int 7))))) zf1)
noncomputable def zf3 : DSt -> R Out := (zaG (zaA 7 (eOp gIx (zdn (zgb (zaa (eC .non) (zaa (eC (.str "a")) (zaa (zgk (zaa (eC (.int 0)) (zaa (eC (.int 0)) (zaa (eC (.int 0)) zaj)))) (zaa (zgk (zaa (eC (.int 2)) (zaa (eC (.int 0)) (zaa (eC (.int 2)) zaj)))) (zaa (zgk (zaa (eC (.int 1)) (zaa (eC (.int 0)) zaj))) (zaa (zdn (zgb (zaa (eC (.int 1)) (zaa (eC (.int 0)) (zaa (eC (.int 1)) zaj))))) (zaa (zgk (zaa (eC (.bl true)) (zaa (eC (.int 0)) (zaa (eC (.int 1)) zaj)))) zaj))))))))) (eOp zfE (eOp gIx (zae 2) (eC (.int 48))) (eC (.int 7))))) zf2)
noncomputable def zc5 : DSt -> R Out := (zaG (zaA 6 (zaq zb1 (zaa (eSl (zae 2) (zbT (eC (.int 24))) (zbT (eC (.int 30)))) (zaa (zae 5) (zaa (zae 4) zaj))))) zf3)
noncomputable def zf4 : DSt -> R Out := (zaG (sIf (zau (eOp gEq (eOp zfE (eOp gIx (zae 2) (eC (.int 23))) (eC (.int 4))) (eC (.int 1)))) (zkg [] 5 (zdn (eLC 1 [0] (zdV zhs (zaa (eC (.int 5)) zaj)) zaL zbS (zaq zaB (zaa (eSl (zae 3) (zbT (eOp zcJ (eC (.int 30)) (eOp za8 (eC (.int 4)) (zae 0)))) (zbT (eOp zcJ (eC (.int 34)) (eOp za8 (eC (.int 4)) (zae 0))))) zaj))))) zbe) zc5)
noncomputable def zf5 : DSt -> R Out := (zaG (zaA 5 (eSl (zae 4) zgT (zbT (eC (.int 5))))) zf4)
noncomputable def zf6 : DSt -> R Out := (zaG (zaA 4 (zaq zcE (zaa (eSl (zae 2) (zbT (eC (.int 10))) (zbT (eC (.int 22)))) (zaa (zae 3) zaj)))) zf5)
noncomputable def zf7 : DSt -> R Out := (zaG (zaA 3 (zaq zbG (zaa (eSl (zae 2) zgT (zbT (eC (.int 10)))) zaj))) zf6)
noncomputable def zb2 : DSt -> R Out := (zaG (zaA 2 (zaq zaO (zaa (zae 1) (zaa (eC (.int 50)) zaj)))) zf7)
noncomputable def zhm : DSt -> R Out := (zbz (eC (.bl true)))
noncomputable def zfx : DSt -> R Out := (zaG (zkh [] [1] zaL (zhX (eSl (eOp zcJ (zdn (zgb (zaa (eC (.int 0)) zaj))) (zae 0)) zgT (zbT (eC (.int 16))))) zb2) zhm)
noncomputable def zfy : List D -> R D := fnM 1 9 zfx
theorem zj7 (a0 : D) : zfy [a0] = fin (zfx [some a0, none, none, none, none, none, none, none, none]) := zaD (b := zfx) rfl rfl
end Mir
section
open L2 DL Mir
local macro_rules | `(tactic| kd_p) => `(tactic| simp only [zlh, zog, zoh, zoi, zoj, zli, zjw, zjx, zjy, zrh, zok, zol, zom, zri, zgU, zlj, zjz, zhY, zjA, zlk, zon, zjB, zll, zjC, zlm, zgV, zln, zjD, zlo, zrk, zrl, zrm, zrn, zro, zrp, zrq, zrr, zlp, zrs, zrt, zru, zrv, zrw, zrx, zry, zlq, zlr, zjE, zls, zlt, zrz, zrA, zoo, zvE, zvF, zlu, zop, zlv, zoq, zor, zos, zrB, zrC, zlw, zlx, zot, zrD, zrE, zou, zvH, zvI, zhZ, zh0, zly, zjF, zh1, zh2, zlA, zov, zlB, zjG, zlC, zjH, zjI, zlD, zow, zlE, zlF, zox, zlG, zoy, zoz, zoA, zoB, zlH, zoC, zh3, zlI, zgX, zlJ, zoD, zlK, zrH, zrI, zoE, zoF, zoG, zrJ, zrK, zrL, zrM, zrN, zrO, zrP, zrQ, zrR, zrS, zrT, zrU, zrV, zoH, zoI, zlN, zkv, zlO, zlP, zlQ, zlR, zlS, zlT, zrW, zoJ, zoK, zoL, zoM, zoN, eq_self, decide_true, decide_false, Int.reduceEq, Int.reduceLT, Int.reduceLE, Int.reduceNeg, Int.reduceToNat, zrX, zoO, zoP, zrY, zgY, zfY, zgZ, zh4, zg0, zg1, zg2, zg3, zlU, zjN, zlV, zlW, zoQ, zoR, zlX, zoS, zeh, zl1, zgp, zlY, zlZ, zl0, zjO, zoT, zgl, mask, zgc, List.contains_cons, List.contains_nil, Bool.or_false, Bool.false_or, Bool.true_or, Bool.or_true, Nat.reduceBEq, Nat.reduceAdd, xbo, cond_true, cond_false, List.set_cons_zero, List.set_cons_succ, xcy, xdb, Bool.not_not, Bool.true_and, Bool.false_and, Bool.and_true, Bool.and_false])
namespace LmP
open Mth
theorem zwl {n : Nat} {i : Int} (h : B n i) : i.natAbs <= 2 ^ n - 1 := by unfold B at h; omega
theorem zmb {n : Nat} {x y z : Int} (hx : B n x) (hy : B n y) (hz : B n z) (h : NZ x y z) (hn : n <= 9000) : zn6 (zdW x y z) = true := by
 refine zku (n := n) ?_ (zct h).ne hn
 have := zsD (zwl hx) (zwl hy) (zwl hz)
 have p : 0 < 2 ^ n := Nat.pow_pos (by decide)
 unfold B; omega
theorem zfT (a b : Int) : zbm [.int a, .int b] = .ok (.int ((Nat.gcd a.natAbs b.natAbs : Nat) : Int)) := by
 rw [zj0]
 unfold zfa zg9 zg8 zg7
 kd_p
 have loop : ∀ (n m : Nat) (z : Option D), ∃ z', zbr zcR zd2 [some (.int (m : Int)), some (.int (n : Int)), z] = .ok (.nx [some (.int ((Nat.gcd m n : Nat) : Int)), some (.int 0), z']) := by
  intro n
  induction n using Nat.strongRecOn with
  | _ n ih =>
   intro m z
   by_cases hn : n = 0
   ·subst hn
    refine ⟨z, ?_⟩
    rw [zl5 (by unfold zcR; kd_p; rfl), Nat.gcd_zero_right]; rfl
   ·have hlt : m % n < n := xcs _ (by omega)
    obtain ⟨z', h⟩ := ih (m % n) hlt n (some (.int ((m % n : Nat) : Int)))
    refine ⟨z', ?_⟩
    rw [zl4 (σ' := [some (.int (n : Int)), some (.int ((m % n : Nat) : Int)), some (.int ((m % n : Nat) : Int))]) ?_ ?_, h, Mth.gcd_step]
    ·unfold zcR; kd_p
     simp [hn]
    ·unfold zd2 zer zeq; kd_p
     rw [zaw _ _ (by omega)]
     kd_p
     rfl
 obtain ⟨z', h⟩ := loop b.natAbs a.natAbs none
 rw [h]
 kd_p
theorem zmQ (i : Int) : zaT [.int i] = .ok (.bl true) := by
 rw [ze9]; unfold zdd; kd_p
theorem zv0 (x y z : Int) : (!decide (x = 0 /\ y = 0 /\ z = 0)) = decide (NZ x y z) := by
 unfold NZ; by_cases h : x = 0 /\ y = 0 /\ z = 0 <;> simp [h]
theorem zfz (x y z : Int) : zbo [t3 x y z] = .ok (.bl (decide (NZ x y z))) := by
 rw [zdA]; unfold zbM; kd_p
 rw [zjP (g := fun _ => .bl true) (by simp) (fun d hd => ?_)]
 ·kd_p
  rw [show zsY [.lst ([D.int x, D.int y, D.int z].map fun _ => D.bl true)] = .ok (.bl true) from rfl]
  kd_p
  rw [zv0]
 ·simp only [xae, xaq, or_false] at hd
  rcases hd with rfl | rfl | rfl <;> (kd_p; exact zmQ _)
theorem zo8 (x y z : Int) (h : NZ x y z) (σ : DSt) : opK gIx (zs6 (lcK 1 [0] (.ok [.int x, .int y, .int z]) zaL (zau (eOp gNe (zae 0) (eC (.int 0)))) (zae 0) σ)) (.ok (.int (-1))) = .ok (.int (zaJ x y z)) := by
 rw [ze5 (p := fun d => !eqD d (.int 0)) (g := id) (by simp) (fun d hd => ?_) (fun d hd _ => ?_)]
 ·kd_p
  unfold zaJ
  by_cases hz : z = 0
  ·by_cases hy : y = 0
   ·have hx : x ≠ 0 := fun e => h ⟨e, hy, hz⟩
    subst hz; subst hy
    simp only [xc1, List.filter_nil, zep, hx, decide_false, decide_true, xdb, xcy, if_true, Bool.false_eq_true, if_false, xaz, List.map_nil, id, ne_eq, not_true_eq_false]
    rfl
   ·subst hz
    by_cases hx : x = 0
    ·subst hx
     simp only [xc1, List.filter_nil, zep, hy, decide_false, decide_true, xdb, xcy, if_true, Bool.false_eq_true, if_false, xaz, List.map_nil, id, ne_eq, not_true_eq_false, not_false_eq_true]
     rfl
    ·simp only [xc1, List.filter_nil, zep, hx, hy, decide_false, decide_true, xdb, xcy, if_true, Bool.false_eq_true, if_false, xaz, List.map_nil, id, ne_eq, not_true_eq_false, not_false_eq_true]
     rfl
  ·have e : List.map id (List.filter (fun d => !eqD d (.int 0)) [.int x, .int y, .int z]) = List.map id (List.filter (fun d => !eqD d (.int 0)) [.int x, .int y]) ++ [D.int z] := by
    rw [show ([.int x, .int y, .int z] : List D) = [.int x, .int y] ++ [.int z] from rfl, List.filter_append, xb2]
    congr 1
    simp [zep, hz]
   rw [e, zqp]
   simp [hz]
 ·simp only [xae, xaq, or_false] at hd
  rcases hd with rfl | rfl | rfl <;> (kd_p; rw [zep])
 ·simp only [xae, xaq, or_false] at hd
  rcases hd with rfl | rfl | rfl <;> (kd_p; rfl)
abbrev lowD (x y z : Int) : D := t3 (x.fdiv (zdW x y z)) (y.fdiv (zdW x y z)) (z.fdiv (zdW x y z))
theorem zif (x y z : Int) : (zaJ x y z < 0 /\ zdW x y z = -((g3 x y z : Nat) : Int)) \/ (¬ zaJ x y z < 0 /\ zdW x y z = ((g3 x y z : Nat) : Int)) := by
 unfold zdW
 by_cases h : zaJ x y z < 0
 ·left; rw [if_pos h]; exact ⟨h, by omega⟩
 ·right; rw [if_neg h]; exact ⟨h, rfl⟩
theorem zj8 {n : Nat} {x y z : Int} (hx : B n x) (hy : B n y) (hz : B n z) (h : NZ x y z) (hn : n <= 9000) : zca [t3 x y z] = .ok (lowD x y z) := by
 have hd := zmb hx hy hz h hn
 rw [zj1]; unfold zfb zhc zhb zha; kd_p
 rw [zfT]; kd_p
 rw [zfT]; kd_p
 rw [zo8 x y z h]; kd_p
 rw [xb9]
 rcases zif x y z with ⟨hl, hs⟩ | ⟨hl, hs⟩
 ·rw [decide_eq_true hl]; kd_p
  rw [show -(((Nat.gcd (Nat.gcd x.natAbs y.natAbs) z.natAbs : Nat)) : Int) = zdW x y z from hs.symm, zbn _ _ hd, zbn _ _ hd, zbn _ _ hd]
  kd_p
 ·rw [decide_eq_false hl]; kd_p
  rw [show (((Nat.gcd (Nat.gcd x.natAbs y.natAbs) z.natAbs : Nat)) : Int) = zdW x y z from hs.symm, zbn _ _ hd, zbn _ _ hd, zbn _ _ hd]
  kd_p
theorem zig {n : Nat} {x y z : Int} (hx : B n x) (hy : B n y) (hz : B n z) (h : NZ x y z) (hn : n <= 9000) : zas [t3 x y z] = .ok (.bl (decide (x.fdiv (zdW x y z) = x /\ y.fdiv (zdW x y z) = y /\ z.fdiv (zdW x y z) = z))) := by
 rw [za4]; unfold zbb zcc zcb; kd_p
 rw [zfz, decide_eq_true h]; kd_p
 rw [zj8 hx hy hz h hn]; kd_p
theorem zmR : zas [t3 0 0 0] = .ok (.bl false) := by
 rw [za4]; unfold zbb zcc zcb; kd_p
 rw [zfz]; rfl
end LmP
open L2 DL Mir
namespace LmA
open Mth LmP
theorem zkI (i : Int) : zbY [.int i] = .ok (.bl true) := by
 rw [zhz]; unfold zdu; kd_p
end LmA
open L2 DL Mir
namespace LmD
open Mth LmP LmA
abbrev ptD (p : P3) : D := t3 p.1 p.2.1 p.2.2
structure BP (n : Nat) (p : P3) : Prop where
 x : B n p.1
 y : B n p.2.1
 z : B n p.2.2
theorem BP.mono {m n : Nat} {p : P3} (h : BP m p) (hn : m <= n) : BP n p := ⟨h.x.mono hn, h.y.mono hn, h.z.mono hn⟩
theorem BP.crs {m n : Nat} {p q : P3} (hp : BP m p) (hq : BP n q) : BP (m + n + 1) (Mth.crs p q) :=
 ⟨((hp.y.mul hq.z).sub (hp.z.mul hq.y)).mono (by omega), ((hp.z.mul hq.x).sub (hp.x.mul hq.z)).mono (by omega), ((hp.x.mul hq.y).sub (hp.y.mul hq.x)).mono (by omega)⟩
theorem BP.dot {m n : Nat} {p q : P3} (hp : BP m p) (hq : BP n q) : B (m + n + 2) (Mth.dot p q) :=
 (((hp.x.mul hq.x).add (hp.y.mul hq.y)).add (hp.z.mul hq.z)).mono (by omega)
theorem BP.low {n : Nat} {p : P3} (h : BP n p) (hz : Nz p) : BP n (Mth.low p) := by
 obtain ⟨a, b, c⟩ := zsE hz
 exact ⟨xbt a h.x, xbt b h.y, xbt c h.z⟩
theorem zal {n : Nat} {i : Int} (h : B n i) (hn : n <= 10000) : zhu i = true := zn5 h (by omega)
theorem eqP (p q : P3) : (p.1 = q.1 /\ p.2.1 = q.2.1 /\ p.2.2 = q.2.2) ↔ p = q := ⟨fun ⟨a, b, c⟩ => xap a (xap b c), fun h => by subst h; exact ⟨rfl, rfl, rfl⟩⟩
theorem zv1 (p q : P3) : eqD (ptD p) (ptD q) = decide (p = q) := by
 rw [zjM, decide_eq_decide.mpr (eqP p q)]
theorem zqz (d : D) (ds : List D) : gIx (.lst (d :: ds)) (.int 0) = .ok d := zkx (j := 0) rfl
theorem zj9 {m n : Nat} {p q : P3} (hp : BP m p) (hq : BP n q) (hm : m <= 10000) (hn : n <= 10000) : zhd [ptD p, ptD q] = .ok (.int (dot p q)) := by
 rw [zqy]; unfold zqx; kd_p
 rw [zag _ _ (zal hp.x hm) (zal hq.x hn), zag _ _ (zal hp.y hm) (zal hq.y hn), zag _ _ (zal hp.z hm) (zal hq.z hn)]; kd_p
 rfl
theorem zqA {m n : Nat} {p q : P3} (hp : BP m p) (hq : BP n q) (hm : m <= 10000) (hn : n <= 10000) : zfM [ptD p, ptD q] = .ok (ptD (crs p q)) := by
 rw [zmP]; unfold ziF zj5 zj4 zj3; kd_p
 rw [zag _ _ (zal hp.y hm) (zal hq.z hn), zag _ _ (zal hp.z hm) (zal hq.y hn)]; kd_p
 rw [zag _ _ (zal hp.z hm) (zal hq.x hn), zag _ _ (zal hp.x hm) (zal hq.z hn)]; kd_p
 rw [zag _ _ (zal hp.x hm) (zal hq.y hn), zag _ _ (zal hp.y hm) (zal hq.x hn)]; kd_p
 rfl
structure BM (n : Nat) (m : M3) : Prop where
 a : BP n m.1
 b : BP n m.2.1
 c : BP n m.2.2
theorem BM.mul {k n : Nat} {m : M3} {p : P3} (h : BM k m) (hp : BP n p) : BP (k + n + 2) (Mth.mul m p) := ⟨h.a.dot hp, h.b.dot hp, h.c.dot hp⟩
theorem zmc : ∀ {ns : List Int}, zaK ns ≠ 0 -> gIx (.lst (((ns.map D.int).filter fun d => !eqD d (.int 0)).map id)) (.int 0) = .ok (.int (zaK ns))
 | [], h => absurd rfl h
 | n :: ns, h => by
  unfold zaK at h ⊢
  rw [xaz, xc1, zep]
  by_cases e : n = 0
  ·rw [if_pos e] at h ⊢
   rw [decide_eq_true e]
   exact zmc h
  ·rw [if_neg e, decide_eq_false e]
   exact zqz _ _
theorem zo9 {ns : List Int} {s : Int} {σ : DSt} (hl : ns.length <= 1000) (h : zn6 s = true) {j : Nat} (hj : zae j σ = .ok (.int s)) : lcK 1 [0] (.ok (ns.map D.int)) zaL zbS (eOp zeH (zae 0) (zae (j + 1))) σ = .ok ((ns.map fun n => n.fdiv s).map .int) := by
 rw [zjP (g := fun d => match d with | .int n => .int (n.fdiv s) | d => d) (by rw [xad]; omega) (fun d hd => ?_)]
 ·rw [xb7, xb7]; rfl
 ·obtain ⟨n, _, rfl⟩ := xbf.mp hd
  kd_p
  rw [hj]; kd_p
  exact zbn _ _ h
theorem ztv {k n : Nat} {ns : List Int} (hb : ∀ i ∈ ns, B n i) (h : zaK ns ≠ 0) (hn : n <= 9000) : zn6 (zej ns) = true := by
 refine zku (n := n) ?_ (zfG h) hn
 have := zsI (ns := ns) (k := 2 ^ n - 1) fun i hi => zwl (hb i hi)
 have p : 0 < 2 ^ n := Nat.pow_pos (by decide)
 unfold B; omega
end LmD
open L2 DL Mir
namespace LmE
open Mth LmP LmA LmD
abbrev ptL (p : P3) : D := l3 p.1 p.2.1 p.2.2
end LmE
open L2 DL Mir
namespace Lk42
open Mth LmP LmA LmD LmE
theorem eSl_to (fe f : DSt -> R D) (σ : DSt) (ds : List D) (n : Nat) (h1 : fe σ = .ok (.lst ds)) (h2 : f σ = .ok (.int (n : Int))) : eSl fe zgT (zbT f) σ = .ok (.lst (ds.take n)) := by
 unfold eSl zgT zbT
 rw [h1, h2]
 show R.ok (D.lst (zm4 ds none (some (n : Int)))) = _
 unfold zm4
 rw [HT.sIx_none, HT.sIx_nat, List.drop_zero, Nat.sub_zero, <- List.take_eq_take_min]
theorem gAdd_ll {xs ys : List D} (h : xs.length + ys.length <= 1000000) : zcJ (.lst xs) (.lst ys) = .ok (.lst (xs ++ ys)) := by
 show (bif zn7 (xs.length + ys.length) then _ else _) = _
 rw [show zn7 (xs.length + ys.length) = true from decide_eq_true (xa3 h (by decide))]; rfl
end Lk42
open L2 DL Mir
namespace LmB
open Mth LmP LmA LmD
theorem zmS {n : Nat} {p : P3} (h : BP n p) (hz : Nz p) (hn : n <= 9000) : zca [t3 p.1 p.2.1 p.2.2] = .ok (ptD (low p)) := zj8 h.x h.y h.z hz hn
theorem zih {n : Nat} {p q : P3} (hp : BP n p) (hq : BP n q) (hn : n <= 4000) (hne : p ≠ q) (hL : Nz (crs p q)) : zaN [ptD p, ptD q] = .ok (ptD (low (crs p q))) := by
 rw [zeM]; unfold zbw zcS; kd_p
 rw [decide_eq_false (fun h => hne ((eqP p q).mp h))]; kd_p
 rw [zqA hp hq (by omega) (by omega)]; kd_p
 rw [zmS (hp.crs hq) hL (by omega)]; kd_p
theorem through_v1 {n : Nat} {p q : P3} (hp : BP n p) (hq : BP n q) (hn : n <= 4000) (hne : p ≠ q) (hL : Nz (crs p q)) : zaH [ptD p, ptD q] = .ok (ptD (low (crs p q))) := by
 rw [zhe]; unfold zcT; kd_p
 rw [zih hp hq hn hne hL]; kd_p
theorem ztw {m n : Nat} {p q : P3} (hp : BP m p) (hq : BP n q) (hm : m <= 10000) (hn : n <= 10000) : zd3 [ptD p, ptD q] = .ok (.bl (decide (dot p q = 0))) := by
 rw [zj2]; unfold zfc; kd_p
 rw [zj9 hp hq hm hn]; kd_p
theorem zgw (bs : List Bool) : zsY [.lst (bs.map D.bl)] = .ok (.bl (bs.all id)) := by
 show zre (.lst (bs.map D.bl)) = _
 simp only [zre, zjs]
theorem zpa {α : Type} {xs : List α} {f : α -> D} {e : DSt -> R D} {σ : DSt} {g : α -> D} (hl : xs.length <= 1000000) (h : ∀ a ∈ xs, e (some (f a) :: σ) = .ok (g a)) : lcK 1 [0] (.ok (xs.map f)) zaL zbS e σ = .ok (xs.map g) := by
 have go : ∀ xs : List α, (∀ a ∈ xs, e (some (f a) :: σ) = .ok (g a)) -> lcD [0] zaL zbS e (List.replicate 1 none ++ σ) (xs.map f) = .ok (xs.map g) := by
  intro xs
  induction xs with
  | nil => intro _; rfl
  | cons d ds ih =>
   intro h
   show (e (some (f d) :: σ)).bind (fun y => (lcD [0] zaL zbS e (List.replicate 1 none ++ σ) (ds.map f)).bind fun ys => .ok (y :: ys)) = _
   rw [h d xal, ih fun d' hd => h d' (xaf _ hd)]; rfl
 show (bif most (xs.map f).length then _ else _) = _
 rw [zky (by rw [xad]; exact hl), go xs h]; rfl
structure Pts (n : Nat) (ps : List P3) : Prop where
 nrm : ∀ p ∈ ps, Nrm p
 bd : ∀ p ∈ ps, BP n p
theorem zpb {n : Nat} {ps : List P3} (h : Pts n ps) (hn : n <= 4000) (hl : ps.length <= 100000) : ∃ b, zbA [.lst (ps.map ptD)] = .ok (.bl b) /\ (b = true ↔ Col ps) := by
 rw [zhx]; unfold zdq; kd_p
 cases ps with
 | nil =>
  refine ⟨true, ?_, fun _ => Col.same (p0 := (0, 0, 0)) (by simp), fun _ => rfl⟩
  rfl
 | cons p0 ps =>
  rw [ze5 (p := fun d => !eqD d (ptD p0)) (g := id) (by rw [xad]; omega) (fun d hd => ?_) (fun d hd _ => ?_)]
  ·rw [List.map_id]
   have hf : ((p0 :: ps).map ptD).filter (fun d => !eqD d (ptD p0)) = ((p0 :: ps).filter fun p => !decide (p = p0)).map ptD := by
    rw [List.filter_map]
    congr 1
    apply List.filter_congr
    intro p _
    exact congrArg _ (zv1 p p0)
   rw [hf]; kd_p
   unfold zff; kd_p
   cases ho : (p0 :: ps).filter (fun p => !decide (p = p0)) with
   | nil =>
    refine ⟨true, by rfl, fun _ => Col.same (p0 := p0) fun p hp => ?_, fun _ => rfl⟩
    by_cases e : p = p0
    ·exact e
    ·have : p ∈ (p0 :: ps).filter (fun p => !decide (p = p0)) := xbv.mpr ⟨hp, by simp [e]⟩
     rw [ho] at this; cases this
   | cons o os =>
    have mo : o ∈ p0 :: ps /\ o ≠ p0 := by
     have : o ∈ (p0 :: ps).filter (fun p => !decide (p = p0)) := by rw [ho]; exact xal
     rw [xbv] at this
     exact ⟨this.1, by simpa using this.2⟩
    have m0 : p0 ∈ p0 :: ps := xal
    have hL : Nz (crs p0 o) := zeU (h.nrm _ m0) (h.nrm _ mo.1) fun e => mo.2 e.symm
    have hthru := through_v1 (h.bd _ m0) (h.bd _ mo.1) hn (fun e => mo.2 e.symm) hL
    rw [decide_eq_false (by simp; omega)]; kd_p
    simp only [xaz]
    unfold zfe; kd_p
    rw [zqz, zqz]; kd_p
    rw [hthru]; kd_p
    unfold zfd; kd_p
    have hos : ∀ p ∈ o :: os, p ∈ p0 :: ps := fun p hp => by
     rw [<- ho] at hp; exact (xbv.mp hp).1
    have hle : (o :: os).length <= 100000 := by
     rw [<- ho]; exact xa3 (List.length_filter_le _ _) hl
    rw [<- xaz (f := ptD), zpa (g := fun p => .bl (decide (dot p (low (crs p0 o)) = 0))) (by omega) (fun p hp => ?_)]
    ·kd_p
     rw [show (o :: os).map (fun p => D.bl (decide (dot p (low (crs p0 o)) = 0))) = ((o :: os).map fun p => decide (dot p (low (crs p0 o)) = 0)).map D.bl by rw [xb7]; rfl, zgw]; kd_p
     refine ⟨_, rfl, ?_⟩
     rw [Col.iff m0 mo.1 hL, List.all_map, xa1]
     constructor
     ·intro q p hp
      by_cases e : p = p0
      ·subst e; unfold dot crs; grind
      ·have : p ∈ o :: os := by rw [<- ho]; exact xbv.mpr ⟨hp, by simp [e]⟩
       exact (zir hL).mp (of_decide_eq_true (q p this))
     ·intro q p hp
      exact decide_eq_true ((zir hL).mpr (q p (hos p hp)))
    ·kd_p
     rw [ztw (h.bd _ (hos p hp)) (((h.bd _ m0).crs (h.bd _ mo.1)).low hL) (by omega) (by omega)]
  ·obtain ⟨p, _, rfl⟩ := xbf.mp hd
   kd_p
   rw [xaz, zqz]; kd_p
   rw [zjM]
  ·rfl
end LmB
open L2 DL Mir
namespace LmF
open Mth LmP LmA LmD LmE
theorem zpc : ∀ (ns : List Int) (g : Nat) (s a : Option D), ∃ a', zgP [2] zaL (zaA 1 (zaq zbm (zaa (zae 1) (zaa (zae 2) zaj)))) (ns.map .int) [s, some (.int (g : Int)), a] = .ok (.nx [s, some (.int ((ns.foldl (fun g n => Nat.gcd g n.natAbs) g : Nat) : Int)), a'])
 | [], g, s, a => ⟨a, rfl⟩
 | n :: ns, g, s, a => by
  obtain ⟨a', h⟩ := zpc ns (Nat.gcd g n.natAbs) s (some (.int n))
  refine ⟨a', ?_⟩
  rw [xaz, zeh]; kd_p
  rw [zfT, xb9]; kd_p
  exact h
theorem zqB (ns : List Int) (s a : Option D) : ∃ a', zgP [2] zaL (zaA 1 (zaq zbm (zaa (zae 1) (zaa (zae 2) zaj)))) (ns.map .int) [s, some (.int 0), a] = .ok (.nx [s, some (.int ((ns.foldl (fun g n => Nat.gcd g n.natAbs) 0 : Nat) : Int)), a']) := zpc ns 0 s a
theorem zxy {a b c x y z : D} {e : DSt -> R D} {σ : DSt} (ha : e (some a :: σ) = .ok x) (hb : e (some b :: σ) = .ok y) (hc : e (some c :: σ) = .ok z) : lcK 1 [0] (.ok [a, b, c]) zaL zbS e σ = .ok [x, y, z] := by
 have t : lcD [0] zaL zbS e (List.replicate 1 none ++ σ) [a, b, c] = (e (some a :: σ)).bind (fun y => ((e (some b :: σ)).bind fun y' => ((e (some c :: σ)).bind fun y'' => (R.ok ([] : List D)).bind fun ys => .ok (y'' :: ys)).bind fun ys => .ok (y' :: ys)).bind fun ys => .ok (y :: ys)) := rfl
 show (bif most 3 then (lcD [0] zaL zbS e (List.replicate 1 none ++ σ) [a, b, c]).noerr else .bad) = _
 rw [t, ha, hb, hc]; rfl
end LmF
open L2 DL Mir
namespace LmH
open Mth LmP LmA LmD LmB LmE LmF
theorem zf8 {n : Nat} {p : P3} (hp : BP n p) (h : Nrm p) (hn : n <= 9000) : zas [ptD p] = .ok (.bl true) := by
 rw [zig hp.x hp.y hp.z h.nz hn, show zdW p.1 p.2.1 p.2.2 = 1 from h.one, zed, zed, zed]
 simp
def key (p : P3) : List Int := [p.1, p.2.1, p.2.2]
theorem ztx {p q : P3} (h : key p = key q) : p = q := by
 simp only [key, List.cons.injEq, and_true] at h
 exact xap h.1 (xap h.2.1 h.2.2)
theorem zmd : ∀ ps : List P3, zbF (ps.map ptD) = some (ps.map key)
 | [] => rfl
 | p :: ps => by
  have ih := zmd ps
  rw [xaz, xaz]
  unfold zbF
  rw [ih]; rfl
end LmH
open L2 DL Mir
namespace LmI
open Mth LmP LmA LmD LmB LmE LmF LmH
theorem zxz {a b c d f g x y z : D} {e : DSt -> R D} {σ : DSt} (h1 : e (some a :: some b :: σ) = .ok x) (h2 : e (some c :: some d :: σ) = .ok y) (h3 : e (some f :: some g :: σ) = .ok z) : lcK 2 [0, 1] (.ok [.tup [a, b], .tup [c, d], .tup [f, g]]) (zbX 2) zbS e σ = .ok [x, y, z] := by
 have t : lcD [0, 1] (zbX 2) zbS e (List.replicate 2 none ++ σ) [.tup [a, b], .tup [c, d], .tup [f, g]] = (e (some a :: some b :: σ)).bind (fun y1 => ((e (some c :: some d :: σ)).bind fun y2 => ((e (some f :: some g :: σ)).bind fun y3 => (R.ok ([] : List D)).bind fun ys => .ok (y3 :: ys)).bind fun ys => .ok (y2 :: ys)).bind fun ys => .ok (y1 :: ys)) := rfl
 show (bif most 3 then (lcD [0, 1] (zbX 2) zbS e (List.replicate 2 none ++ σ) [.tup [a, b], .tup [c, d], .tup [f, g]]).noerr else .bad) = _
 rw [t, h1, h2, h3]; rfl
theorem Pts.snoc {n : Nat} {ps : List P3} {r : P3} (h : Pts n ps) (hr : Nrm r) (br : BP n r) : Pts n (ps ++ [r]) :=
 ⟨fun p hp => (xbd.mp hp).elim (h.nrm p) fun z => by rw [xbh.mp z]; exact hr, fun p hp => (xbd.mp hp).elim (h.bd p) fun z => by rw [xbh.mp z]; exact br⟩
end LmI
open L2 DL Mir
namespace LmJ
open Mth LmP LmA LmD LmB LmE LmF LmH LmI
def rg (lo m : Nat) : List Nat := (List.range (m - lo)).map (lo + ·)
theorem zcH {lo m k : Nat} : k ∈ rg lo m ↔ lo <= k /\ k < m := by
 unfold rg
 rw [xbf]
 constructor
 ·rintro ⟨i, hi, rfl⟩
  have := xa7.mp hi
  omega
 ·rintro ⟨h1, h2⟩
  exact ⟨k - lo, xa7.mpr (by omega), by omega⟩
theorem zty (lo m : Nat) : znY (lo : Int) ((m : Int) - (lo : Int)).toNat = (rg lo m).map fun k : Nat => D.int (k : Int) := by
 unfold znY rg
 rw [xb7, show ((m : Int) - (lo : Int)).toNat = m - lo by omega]
 congr 1
theorem zeO {i : Nat} {fb : DSt -> R Out} (I : DSt -> Prop) (g : Nat -> Option D) : ∀ (ks : List Nat), (∀ k ∈ ks, ∀ σ, I σ -> (∃ v, g k = some v /\ fb (σ.set i (some (.int (k : Int)))) = .ok (.rt v)) \/ (g k = none /\ ∃ σ', fb (σ.set i (some (.int (k : Int)))) = .ok (.nx σ') /\ I σ')) -> ∀ σ, I σ ->
  (∃ v, ks.findSome? g = some v /\ zgP [i] zaL fb (ks.map fun k : Nat => .int (k : Int)) σ = .ok (.rt v)) \/ (ks.findSome? g = none /\ ∃ σ', zgP [i] zaL fb (ks.map fun k : Nat => .int (k : Int)) σ = .ok (.nx σ') /\ I σ')
 | [], _, σ, h => .inr ⟨rfl, σ, rfl, h⟩
 | k :: ks, hs, σ, h => by
  rw [xaz, zeh, List.findSome?_cons]
  rcases hs k (by simp) σ h with ⟨v, e1, e2⟩ | ⟨e1, σ', e2, h'⟩
  ·rw [e1, e2]; exact .inl ⟨v, rfl, rfl⟩
  ·rw [e1, e2, zgp]
   exact zeO I g ks (fun k hk => hs k (by simp [hk])) σ' h'
structure Fl (ps : List P3) : Prop where
 pts : Pts 24 ps
 nd : ps.Nodup
 one : 1 <= ps.length
 most : ps.length <= 12
def pk (ps : List P3) (k : Nat) : P3 := ps.getD k (0, 0, 1)
theorem zfA {ps : List P3} {k : Nat} (h : k < ps.length) : ps[k]? = some (pk ps k) := by simp [pk, h]
theorem zfB {ps : List P3} {k : Nat} (h : k < ps.length) : pk ps k ∈ ps := xbe (zfA h)
theorem Fl.ix {ps : List P3} {k : Nat} (h : k < ps.length) : gIx (.lst (ps.map ptD)) (.int (k : Int)) = .ok (ptD (pk ps k)) := zkx (by rw [xbz, zfA h]; rfl)
end LmJ
open L2 DL Mir
open L2 DL Mir
open L2 DL Mir
open L2 DL Mir
namespace Lk12
open Mth LmP LmA LmD LmB LmE LmF LmH LmI LmJ
theorem ne_same {d : D} (h : zdY 9 d = true) : gNe d d = .ok (.bl false) := by
 rw [zlM (by unfold zmE; rw [h]; rfl), zgm 9 _ h]; rfl
end Lk12
open L2 DL Mir
open L2 DL Mir
open L2 DL Mir
namespace LmM
open Mth LmP LmA LmD LmB LmE LmF LmH LmI LmJ
theorem pow6 : zsW (.int 10) (.int 6) = .ok (.int 1000000) := rfl
theorem zxA : zsW (.int 10) (.int 18) = .ok (.int 1000000000000000000) := rfl
theorem mod6 (x : Int) : zfE (.int x) (.int 1000000) = .ok (.int (x % 1000000)) := zaw x 1000000 (by decide)
theorem zv2 (n m : Nat) (x y z l : Option D) : zbr za7 zbB [x, y, z, some (.int (m : Int)), some (.int (n : Int)), l] = .ok (.nx [x, y, z, some (.int ((Nat.gcd m n : Nat) : Int)), some (.int 0), l]) := by
 induction n using Nat.strongRecOn generalizing m with
 | _ n ih =>
  by_cases hn : n = 0
  ·subst hn
   rw [zl5 (by unfold za7; kd_p; rfl), Nat.gcd_zero_right]; rfl
  ·have hlt : m % n < n := xcs _ (by omega)
   have h := ih (m % n) hlt n
   rw [zl4 (σ' := [x, y, z, some (.int (n : Int)), some (.int ((m % n : Nat) : Int)), l]) ?_ ?_, h, Mth.gcd_step]
   ·unfold za7; kd_p
    rw [decide_eq_false (by omega)]; rfl
   ·unfold zbB; kd_p
    rw [zaw _ _ (by omega)]
    kd_p
    rfl
theorem zv3 {n : Nat} {p : P3} (h : BP n p) (hz : Nz p) (hn : n <= 9000) : zah [.int p.1, .int p.2.1, .int p.2.2] = .ok (ptD (low p)) := by
 have hd := zmb h.x h.y h.z hz hn
 show _ = R.ok (lowD p.1 p.2.1 p.2.2)
 rw [zfk]; unfold zbO; kd_p
 unfold zdi; kd_p
 unfold zc0
 rw [zv2]; kd_p
 rw [zv2]; kd_p
 unfold zdh; kd_p
 rw [zo8 p.1 p.2.1 p.2.2 hz]; kd_p
 unfold zdg; kd_p
 rcases zif p.1 p.2.1 p.2.2 with ⟨hl, hs⟩ | ⟨hl, hs⟩
 ·rw [decide_eq_true hl]; kd_p
  unfold zbZ; kd_p
  rw [show 0 - (((Nat.gcd (Nat.gcd p.1.natAbs p.2.1.natAbs) p.2.2.natAbs : Nat)) : Int) = zdW p.1 p.2.1 p.2.2 from by rw [hs, xc5]; rfl, zbn _ _ hd, zbn _ _ hd, zbn _ _ hd]
  kd_p
 ·rw [decide_eq_false hl]; kd_p
  unfold zbZ; kd_p
  rw [show (((Nat.gcd (Nat.gcd p.1.natAbs p.2.1.natAbs) p.2.2.natAbs : Nat)) : Int) = zdW p.1 p.2.1 p.2.2 from hs.symm, zbn _ _ hd, zbn _ _ hd, zbn _ _ hd]
  kd_p
end LmM
open L2 DL Mir
namespace Lk02
open Mth LmP LmA LmD LmB
def wh : D -> Bool
 | .int _ => true
 | _ => false
def Pl (d : D) : Prop := (zlf d).isSome = true
theorem zfU (d : D) (h : Pl d) : zaT [d] = .ok (.bl (wh d)) := by
 rw [ze9]; unfold zdd
 cases d with
 | cls c => cases h
 | ty c => cases h
 | exc c as => cases h
 | _ => rfl
structure Odd3 (a b c : D) : Prop where
 pa : Pl a
 pb : Pl b
 pc : Pl c
 no : (wh a && wh b && wh c) = false
theorem zpd {a b c : D} (h : Odd3 a b c) : zbo [.tup [a, b, c]] = .ok (.bl false) := by
 rw [zdA]; unfold zbM; kd_p
 rw [zjP (g := fun d => .bl (wh d)) (by simp) (fun d hd => ?_)]
 ·kd_p
  rw [show [a, b, c].map (fun d => D.bl (wh d)) = ([wh a, wh b, wh c] : List Bool).map D.bl from rfl, zgw, show ([wh a, wh b, wh c] : List Bool).all id = (wh a && wh b && wh c) by simp [Bool.and_assoc], h.no]; kd_p
 ·simp only [xae, xaq, or_false] at hd
  rcases hd with rfl | rfl | rfl <;> kd_p
  ·exact zfU _ h.pa
  ·exact zfU _ h.pb
  ·exact zfU _ h.pc
theorem is_place_odd {a b c : D} (h : Odd3 a b c) : zas [.tup [a, b, c]] = .ok (.bl false) := by
 rw [za4]; unfold zbb zcc zcb; kd_p
 rw [zpd h]; kd_p
theorem list_no (ds : List D) : zas [.lst ds] = .ok (.bl false) := by
 rw [za4]; unfold zbb zcc zcb; kd_p
end Lk02
open L2 DL Mir
namespace LmQ
open Mth LmP LmA LmD LmB LmE LmF LmH LmI LmJ
theorem zkJ (keys : Nat -> List Int) : ∀ (n : Nat) (ks : List Int), ks ∈ zgr keys n ↔ ∃ j, j < n /\ keys j = ks
 | 0, ks => ⟨(fun h => by cases h), (fun ⟨j, h, _⟩ => absurd h (by omega))⟩
 | n + 1, ks => by
  show ks ∈ ziC (zgr keys n) (keys n) ↔ _
  have ih := zkJ keys n
  have e : ks ∈ ziC (zgr keys n) (keys n) ↔ ks ∈ zgr keys n \/ ks = keys n := by
   unfold ziC
   split
   ·rename_i hin
    exact ⟨.inl, fun h => h.elim id fun z => by rw [z]; exact hin⟩
   ·rw [xae]; exact ⟨fun h => h.elim .inr .inl, fun h => h.elim .inr .inl⟩
  rw [e, ih]
  constructor
  ·rintro (⟨j, h1, h2⟩ | h)
   ·exact ⟨j, by omega, h2⟩
   ·exact ⟨n, by omega, h.symm⟩
  ·rintro ⟨j, h1, h2⟩
   by_cases z : j = n
   ·subst z; exact .inr h2.symm
   ·exact .inl ⟨j, by omega, h2⟩
theorem zpe (keys : Nat -> List Int) : ∀ n : Nat, (zgr keys n).length <= n
 | 0 => xag _
 | n + 1 => by
  have := zpe keys n
  show (ziC (zgr keys n) (keys n)).length <= _
  unfold ziC; split
  ·omega
  ·rw [xar]; omega
theorem zpf (keys : Nat -> List Int) : ∀ n : Nat, (∀ i j, i < j -> j < n -> keys i ≠ keys j) -> (zgr keys n).length = n
 | 0, _ => rfl
 | n + 1, h => by
  have ih := zpf keys n fun i j h1 h2 => h i j h1 (by omega)
  show (ziC (zgr keys n) (keys n)).length = _
  unfold ziC
  rw [if_neg, xar, ih]
  rw [zkJ]
  rintro ⟨j, h1, h2⟩
  exact h j n h1 (by omega) h2
theorem zpg (keys : Nat -> List Int) : ∀ (n i j : Nat), i < j -> j < n -> keys i = keys j -> (zgr keys n).length < n
 | 0, i, j, _, h, _ => absurd h (by omega)
 | n + 1, i, j, h1, h2, h3 => by
  have l := zpe keys n
  show (ziC (zgr keys n) (keys n)).length < _
  by_cases z : j = n
  ·subst z
   unfold ziC
   rw [if_pos ((zkJ keys j _).mpr ⟨i, h1, h3⟩)]; omega
  ·have := zpg keys n i j h1 (by omega) h3
   unfold ziC; split
   ·omega
   ·rw [xar]; omega
theorem zqC {ps : List P3} {k : Nat} (h : k < ps.length) : (ps.map key).getD k [] = key (pk ps k) := by
 rw [List.getD_eq_getElem?_getD, xbz, zfA h]; rfl
theorem ztz {ps : List P3} (nd : ps.Nodup) : (zgs (ps.map key)).length = ps.length := by
 unfold zgs
 rw [zpf, xad]
 intro i j h1 h2
 rw [xad] at h2
 rw [zqC (by omega), zqC h2]
 intro e
 have e := ztx e
 have a1 := zfA (ps := ps) (k := i) (by omega)
 have a2 := zfA h2
 rw [e, <- a2] at a1
 exact absurd ((List.getElem?_inj (by omega) nd).mp a1) (by omega)
theorem zqD {ps : List P3} {i j : Nat} (h1 : i < j) (h2 : j < ps.length) (e : pk ps i = pk ps j) : (zgs (ps.map key)).length < ps.length := by
 unfold zgs
 rw [xad]
 exact zpg _ _ i j h1 h2 (by rw [zqC (by omega), zqC h2, e])
theorem zka (f : DSt -> R D) (σ : DSt) : ziD f σ = (f σ).bind zd1 := rfl
theorem zmT {ps : List P3} (h4 : (zgs (ps.map key)).length <= 18) : zd1 (.lst (ps.map ptD)) = .ok (.int (zgs (ps.map key)).length) := by
 show (match zbF (ps.map ptD) with | some kss => (bif Nat.ble (zgs kss).length 18 then R.ok (D.int (zgs kss).length) else .bad) | none => .bad) = _
 rw [zmd]
 show (bif Nat.ble (zgs (ps.map key)).length 18 then R.ok (D.int (zgs (ps.map key)).length) else .bad) = _
 rw [show Nat.ble (zgs (ps.map key)).length 18 = true from by rw [Nat.ble_eq]; omega]; rfl
theorem ztA (kss : List (List Int)) : (zgs kss).length <= kss.length := zpe _ _
theorem zfV {n : Nat} {ps : List P3} (h : Pts n ps) (hn : n <= 1000) (h1 : 1 <= ps.length) (h12 : ps.length <= 12) : zaE [.lst (ps.map ptD)] = .ok (.bl (decide (((zgs (ps.map key)).length : Int) = (ps.length : Int)))) := by
 rw [zci]; unfold zbp; kd_p
 rw [show zcy = .int 12 from rfl]; kd_p
 rw [xad, show (decide (1 <= (ps.length : Int)) && decide ((ps.length : Int) <= 12)) = true from by rw [decide_eq_true (by omega), decide_eq_true (by omega)]; rfl]; kd_p
 unfold zcz; kd_p
 rw [zpa (g := fun _ => .bl true) (by omega) (fun p hp => ?_)]
 ·kd_p
  rw [show ps.map (fun _ => D.bl true) = (ps.map fun _ => true).map D.bl from by rw [xb7]; rfl, zgw, show (ps.map fun _ => true).all id = true from by rw [List.all_map, xa1]; intro _ _; rfl]; kd_p
  unfold zd4; kd_p
  rw [zka]; kd_p
  rw [show (R.ok (D.lst (ps.map ptD))).bind zd1 = .ok (.int (zgs (ps.map key)).length) from zmT (by have := ztA (ps.map key); rw [xad] at this; omega), xad]; kd_p
 ·kd_p
  exact zf8 (h.bd p hp) (h.nrm p hp) (by omega)
theorem zph {N : Nat} {ps : List P3} (h : Pts N ps) (h5 : ps.length <= 12) {i j : Nat} (h1 : i < j) (h2 : j < ps.length) (e : pk ps i = pk ps j) (hN : N <= 900 := by decide) : zaE [.lst (ps.map ptD)] = .ok (.bl false) := by
 have := zqD h1 h2 e
 rw [zfV h (by omega) (by omega) (by omega), decide_eq_false (by omega)]
open Classical in
theorem zme {ds : List D} (h1 : 1 <= ds.length) (h12 : ds.length <= 12) (hp : ∀ d ∈ ds, ∃ b, zas [d] = .ok (.bl b)) {w : D} (hw : w ∈ ds) (hn : zas [w] = .ok (.bl false)) : zaE [.lst ds] = .ok (.bl false) := by
 rw [zci]; unfold zbp; kd_p
 rw [show zcy = .int 12 from rfl]; kd_p
 rw [show (decide (1 <= (ds.length : Int)) && decide ((ds.length : Int) <= 12)) = true from by rw [decide_eq_true (by omega), decide_eq_true (by omega)]; rfl]; kd_p
 unfold zcz; kd_p
 rw [zjP (g := fun d => .bl (decide (zas [d] = .ok (.bl true)))) (by omega) (fun d hd => ?_)]
 ·kd_p
  rw [show ds.map (fun d => D.bl (decide (zas [d] = .ok (.bl true)))) = (ds.map fun d => decide (zas [d] = .ok (.bl true))).map D.bl from by rw [xb7]; rfl, zgw, show (ds.map fun d => decide (zas [d] = .ok (.bl true))).all id = false from ?_]; · kd_p
  rw [List.all_map]
  refine List.all_eq_false.mpr ⟨w, hw, ?_⟩
  show ¬ (id (decide (zas [w] = .ok (.bl true))) = true)
  rw [hn]; simp
 ·kd_p
  obtain ⟨b, e⟩ := hp d hd
  rw [e]
  cases b <;> simp
end LmQ
open L2 DL Mir
namespace LmS
open Mth LmP LmA LmD LmB LmE LmF LmH LmI LmJ LmM LmQ
def Dd (ds : List Int) : Prop := ∀ d ∈ ds, 0 <= d
theorem Dd.snoc {ds : List Int} {d : Int} (h : Dd ds) (hd : 0 <= d) : Dd (ds ++ [d]) := fun e he => by
 rcases xbd.mp he with he | he
 ·exact h e he
 ·rw [xbh.mp he]; exact hd
def dg (ds : List Int) (k : Nat) : Int := ds.getD k 0
theorem zv4 {ds : List Int} {k : Nat} (h : k < ds.length) : ds[k]? = some (dg ds k) := by simp [dg, h]
theorem ixd {ds : List Int} {k : Nat} (h : k < ds.length) : gIx (.lst (ds.map .int)) (.int (k : Int)) = .ok (.int (dg ds k)) := zkx (by rw [xbz, zv4 h]; rfl)
theorem ziG (fe f g : DSt -> R D) (σ : DSt) (ds : List D) (a b : Nat) (h1 : fe σ = .ok (.lst ds)) (h2 : f σ = .ok (.int (a : Int))) (h3 : g σ = .ok (.int (b : Int))) (hb : b <= ds.length) (hab : a <= b) : eSl fe (zbT f) (zbT g) σ = .ok (.lst ((ds.drop a).take (b - a))) := by
 unfold eSl zbT
 rw [h1, h2, h3]
 show R.ok (D.lst (zm4 ds (some (a : Int)) (some (b : Int)))) = _
 unfold zm4
 rw [HT.sIx_nat, HT.sIx_nat, Nat.min_eq_left hb, Nat.min_eq_left (by omega)]
theorem zqE (fe f : DSt -> R D) (σ : DSt) (ds : List D) (n : Nat) (h1 : fe σ = .ok (.lst ds)) (h2 : f σ = .ok (.int (n : Int))) : eSl fe (zbT f) zgT σ = .ok (.lst (ds.drop n)) := by
 unfold eSl zgT zbT
 rw [h1, h2]
 show R.ok (D.lst (zm4 ds (some (n : Int)) none)) = _
 unfold zm4
 rw [HT.sIx_none, HT.sIx_nat]
 congr 2
 by_cases h : n <= ds.length
 ·rw [Nat.min_eq_left h, List.take_of_length_le (by rw [xbq]; omega)]
 ·rw [Nat.min_eq_right (by omega), List.drop_of_length_le (by omega), List.drop_of_length_le (by omega)]; simp
theorem ziH (ds : List Int) (a n : Nat) : ((ds.map D.int).drop a).take n = ((ds.drop a).take n).map D.int := by rw [xcf, List.map_drop]
theorem zfC (n : Nat) (hn : n <= 1000) : zhs [.int (n : Int)] = .ok ((rg 0 n).map fun k : Nat => D.int (k : Int)) := by
 rw [zrZ _ (zr0 (by omega) (by omega)), show znY 0 (n : Int).toNat = (rg 0 n).map fun k : Nat => D.int (k : Int) from by have := zty 0 n; simpa using this]
theorem zmU (c : Int) (many : Nat) (hm : many <= 100) : ∃ ds : List Int, zaO [.int c, .int (many : Int)] = .ok (.lst (ds.map .int)) /\ ds.length = many /\ Dd ds := by
 rw [zeN]; unfold zbx; kd_p
 obtain ⟨N, hN, n0⟩ : ∃ N : Int, max c (-1 - c) = N /\ 0 <= N := ⟨_, rfl, by omega⟩
 rw [hN]
 unfold zcZ; kd_p
 unfold zcY; kd_p
 unfold zcX; kd_p
 rw [zfC many (by omega)]; kd_p
 have turn : ∀ (j : Nat) (d : D) (σ : DSt), ((rg 0 many).map fun k : Nat => D.int (k : Int))[j]? = some d -> (∃ es l x y, σ = [some (.int c), some (.int (many : Int)), some (.int N), some (.int l), some (.lst (es.map D.int)), x, y] /\ es.length = j /\ Dd es /\ 0 <= l) -> ∃ σ', (zaS (σ.set 5 (some d)) = .ok (.nx σ') \/ zaS (σ.set 5 (some d)) = .ok (.ct σ')) /\ ∃ es l x y, σ' = [some (.int c), some (.int (many : Int)), some (.int N), some (.int l), some (.lst (es.map D.int)), x, y] /\ es.length = j + 1 /\ Dd es /\ 0 <= l := by
  rintro j d σ hd ⟨es, l, x, y, rfl, h1, h2, h3⟩
  obtain ⟨i, hi, rfl⟩ := xbf.mp (xbe hd)
  have hi := (zcH.mp hi).2
  have hj : j < many := by
   have := (xah.mp hd).1
   rw [xad] at this
   unfold rg at this
   simpa using this
  rw [show List.set _ 5 _ = [some (.int c), some (.int (many : Int)), some (.int N), some (.int l), some (.lst (es.map D.int)), some (.int (i : Int)), y] from rfl]
  have els : ∃ σ', (za0 [some (.int c), some (.int (many : Int)), some (.int N), some (.int l), some (.lst (es.map D.int)), some (.int (i : Int)), y] = .ok (.nx σ') \/ za0 [some (.int c), some (.int (many : Int)), some (.int N), some (.int l), some (.lst (es.map D.int)), some (.int (i : Int)), y] = .ok (.ct σ')) /\ ∃ es l x y, σ' = [some (.int c), some (.int (many : Int)), some (.int N), some (.int l), some (.lst (es.map D.int)), x, y] /\ es.length = j + 1 /\ Dd es /\ 0 <= l := by
   have bi : B 7 (i : Int) := B.of (k := 100) (by omega)
   have b101 : B 7 101 := B.of (k := 101) (by decide)
   unfold za0; kd_p
   rw [zag 101 _ (by decide) (zal bi (by decide))]; kd_p
   rw [zag (101 * (i : Int)) _ (zal (b101.mul bi) (by decide)) (zal bi (by decide))]; kd_p
   rw [zaw _ _ (by decide)]; kd_p
   have w0 := xbx (N + 101 * (i : Int) * (i : Int) + (i : Int)) (show (2147483647 : Int) ≠ 0 by decide)
   have w1 := xb1 (N + 101 * (i : Int) * (i : Int) + (i : Int)) (show (0 : Int) < 2147483647 by decide)
   generalize (N + 101 * (i : Int) * (i : Int) + (i : Int)) % 2147483647 = u at w0 w1
   rw [zag u 48271 (zal (n := 31) (B.of (k := 2147483647) (by omega)) (by decide)) (by decide)]; kd_p
   rw [zaw _ _ (by decide)]; kd_p
   have v0 := xbx (u * 48271) (show (2147483647 : Int) ≠ 0 by decide)
   have v1 := xb1 (u * 48271) (show (0 : Int) < 2147483647 by decide)
   generalize (u * 48271) % 2147483647 = v at v0 v1
   have bv : zhu v = true := zal (n := 31) (B.of (k := 2147483647) (by omega)) (by decide)
   unfold zbV; kd_p
   rw [zag v v bv bv]; kd_p
   rw [zaw _ _ (by decide)]; kd_p
   have t0 := xbx (v * v) (show (2147483629 : Int) ≠ 0 by decide)
   have t1 := xb1 (v * v) (show (0 : Int) < 2147483629 by decide)
   generalize (v * v) % 2147483629 = t at t0 t1
   rw [zag t 48271 (zal (n := 31) (B.of (k := 2147483647) (by omega)) (by decide)) (by decide)]; kd_p
   rw [zaw _ _ (by decide)]
   rw [zeJ _ _ _ _ (by rw [xad]; omega)]; kd_p
   exact ⟨_, .inl rfl, es ++ [_], l, _, _, by rw [xb2]; rfl, by simp; omega, h2.snoc (xbx _ (by decide)), h3⟩
  unfold zaS; kd_p
  rw [zxA]; kd_p
  by_cases hN18 : 1000000000000000000 <= N
  ·rw [decide_eq_true hN18]; kd_p
   by_cases hl : 0 < l
   ·rw [decide_eq_true hl]; kd_p
    unfold zcm; kd_p
    rw [pow6]
    rw [zol, mod6]
    rw [zeJ _ _ _ _ (by rw [xad]; omega)]; kd_p
    unfold zbU; kd_p
    rw [pow6]; kd_p
    rw [show zeH (.int l) (.int 1000000) = .ok (.int (l / 1000000)) from zjJ l 1000000 (by decide) (by decide)]; kd_p
    exact ⟨_, .inl rfl, es ++ [_], _, _, _, by rw [xb2]; rfl, by simp; omega, h2.snoc (xbx _ (by decide)), Int.ediv_nonneg h3 (by decide)⟩
   ·rw [decide_eq_false hl]; kd_p
    exact els
  ·rw [decide_eq_false hN18]; kd_p
   exact els
 obtain ⟨σ', e, es, l, x, y, rfl, h1, h2, _⟩ := zl3 (i := 5) (fb := zaS) (fun j σ => ∃ es l x y, σ = [some (.int c), some (.int (many : Int)), some (.int N), some (.int l), some (.lst (es.map D.int)), x, y] /\ es.length = j /\ Dd es /\ 0 <= l) _ turn [some (.int c), some (.int (many : Int)), some (.int N), some (.int N), some (.lst []), none, none] ⟨[], N, none, none, rfl, rfl, (fun d hd => by cases hd), n0⟩
 rw [e]; kd_p
 unfold zcW; kd_p
 refine ⟨es, rfl, ?_, h2⟩
 rw [h1, xad]; unfold rg; simp
theorem zmf {ds : List Int} (hl : ds.length = 4) : ∃ p, zaB [.lst (ds.map .int)] = .ok (ptD p) /\ Nrm p /\ BP 24 p := by
 have go : ∀ (most w : Int), gIx (.lst [.int 2, .int 5, .int 1000]) (.int (dg ds 3 % 3)) = .ok (.int most) -> 2 * most + 1 = w -> 0 < w -> w <= 2001 -> 0 <= most -> ∃ p, zaB [.lst (ds.map .int)] = .ok (ptD p) /\ Nrm p /\ BP 24 p := by
  intro most w he hw w0 w1 m0
  have mm : zhu most = true := zal (n := 24) (B.of (k := 2001) (by omega)) (by decide)
  rw [zfP]; unfold zb4; kd_p
  rw [show gIx (.lst (ds.map .int)) (.int 3) = _ from ixd (k := 3) (by omega)]; kd_p
  rw [zaw _ _ (by decide)]; kd_p
  rw [he]; kd_p
  unfold zdF; kd_p
  rw [show gIx (.lst (ds.map .int)) (.int 0) = _ from ixd (k := 0) (by omega), zag 2 most (by decide) mm]; kd_p
  rw [hw, zaw _ _ w0]; kd_p
  unfold zdE; kd_p
  rw [show gIx (.lst (ds.map .int)) (.int 1) = _ from ixd (k := 1) (by omega), zag 2 most (by decide) mm]; kd_p
  rw [hw, zaw _ _ w0]; kd_p
  unfold zdD; kd_p
  rw [show gIx (.lst (ds.map .int)) (.int 2) = _ from ixd (k := 2) (by omega), zag 2 most (by decide) mm]; kd_p
  rw [hw, zaw _ _ w0]; kd_p
  have rng : ∀ e : Int, -2001 <= e % w - most /\ e % w - most <= 2001 := fun e => by
   have x0 := xbx e (show w ≠ 0 by omega)
   have x1 := xb1 e w0
   omega
  have hx := rng (dg ds 0)
  have hy := rng (dg ds 1)
  have hz := rng (dg ds 2)
  generalize dg ds 0 % w - most = x at hx
  generalize dg ds 1 % w - most = y at hy
  generalize dg ds 2 % w - most = z at hz
  unfold zdC; kd_p
  have bp : ∀ z : Int, -2001 <= z /\ z <= 2001 -> BP 24 (x, y, z) := fun z hz => ⟨B.of (k := 2001) (by show x.natAbs <= 2001; omega), B.of (k := 2001) (by show y.natAbs <= 2001; omega), B.of (k := 2001) (by show z.natAbs <= 2001; omega)⟩
  have fin : ∀ z : Int, -2001 <= z /\ z <= 2001 -> Nz (x, y, z) -> ∃ p, fin (zck [some (.lst (ds.map .int)), some (.int most), some (.int x), some (.int y), some (.int z)]) = .ok (ptD p) /\ Nrm p /\ BP 24 p := fun z hz nz => by
   refine ⟨low (x, y, z), ?_, zbk nz, (bp z hz).low nz⟩
   unfold zck; kd_p
   rw [zv3 (p := (x, y, z)) (bp z hz) nz (by decide)]; kd_p
  by_cases h1 : x = 0
  ·rw [decide_eq_true h1]; kd_p
   by_cases h2 : y = 0
   ·rw [decide_eq_true h2]; kd_p
    by_cases h3 : z = 0
    ·rw [decide_eq_true h3]; kd_p
     exact fin 1 (by omega) (fun q => absurd (show (1 : Int) = 0 from q.2.2) (by decide))
    ·rw [decide_eq_false h3]; kd_p
     exact fin z hz fun q => h3 q.2.2
   ·rw [decide_eq_false h2]; kd_p
    exact fin z hz fun q => h2 q.2.1
  ·rw [decide_eq_false h1]; kd_p
   exact fin z hz fun q => h1 q.1
 rcases (show dg ds 3 % 3 = 0 \/ dg ds 3 % 3 = 1 \/ dg ds 3 % 3 = 2 by omega) with z | z | z
 ·exact go 2 5 (by rw [z]; rfl) (by decide) (by decide) (by decide) (by decide)
 ·exact go 5 11 (by rw [z]; rfl) (by decide) (by decide) (by decide) (by decide)
 ·exact go 1000 2001 (by rw [z]; rfl) (by decide) (by decide) (by decide) (by decide)
theorem zhn {m n : Nat} {p q : P3} (hp : BP m p) (hq : BP n q) (hm : m <= 4000) (hn : n <= 4000) : za1 [ptL p, ptD q] = .ok (.int (dot p q)) := by
 rw [zf0]; unfold zea; kd_p
 rw [zag _ _ (zal hp.x (by omega)) (zal hq.x (by omega)), zag _ _ (zal hp.y (by omega)) (zal hq.y (by omega)), zag _ _ (zal hp.z (by omega)) (zal hq.z (by omega))]; kd_p
 rfl
theorem zkb {m n : Nat} {p q : P3} (hp : BP m p) (hq : BP n q) (hm : m <= 4000) (hn : n <= 4000) : za1 [ptD p, ptD q] = .ok (.int (dot p q)) := by
 rw [zf0]; unfold zea; kd_p
 rw [zag _ _ (zal hp.x (by omega)) (zal hq.x (by omega)), zag _ _ (zal hp.y (by omega)) (zal hq.y (by omega)), zag _ _ (zal hp.z (by omega)) (zal hq.z (by omega))]; kd_p
 rfl
theorem zpi {n : Nat} {x y z : P3} (hx : BP n x) (hy : BP n y) (hz : BP n z) (hn : n <= 3000) {dx dy dz : D} (h : (dx = ptD x /\ dy = ptD y /\ dz = ptD z) \/ (dx = ptL x /\ dy = ptL y /\ dz = ptL z)) : zaP [dx, dy, dz] = .ok (.int (zaf x y z)) := by
 have m1 : ∀ {i : Int}, B n i -> zhu i = true := fun h => zal h (by omega)
 have m2 : ∀ {a b c d : Int}, B n a -> B n b -> B n c -> B n d -> zhu (a * b - c * d) = true := fun ha hb hc hd => zal ((ha.mul hb).sub (hc.mul hd)) (by omega)
 have e1 := zag _ _ (m1 hy.y) (m1 hz.z)
 have e2 := zag _ _ (m1 hy.z) (m1 hz.y)
 have e3 := zag _ _ (m1 hy.x) (m1 hz.z)
 have e4 := zag _ _ (m1 hy.z) (m1 hz.x)
 have e5 := zag _ _ (m1 hy.x) (m1 hz.y)
 have e6 := zag _ _ (m1 hy.y) (m1 hz.x)
 have f1 := zag _ _ (m1 hx.x) (m2 hy.y hz.z hy.z hz.y)
 have f2 := zag _ _ (m1 hx.y) (m2 hy.x hz.z hy.z hz.x)
 have f3 := zag _ _ (m1 hx.z) (m2 hy.x hz.y hy.y hz.x)
 have fin : x.1 * (y.2.1 * z.2.2 - y.2.2 * z.2.1) - x.2.1 * (y.1 * z.2.2 - y.2.2 * z.1) + x.2.2 * (y.1 * z.2.1 - y.2.1 * z.1) = zaf x y z := by unfold zaf dot crs; grind
 rw [zhj]
 rcases h with ⟨rfl, rfl, rfl⟩ | ⟨rfl, rfl, rfl⟩
 ·unfold zcf; kd_p
  unfold zdb; kd_p
  unfold zda; kd_p
  rw [e1, e2]; kd_p
  rw [f1]; kd_p
  unfold zc9; kd_p
  rw [e3, e4]; kd_p
  rw [f2]; kd_p
  unfold zc8; kd_p
  rw [e5, e6]; kd_p
  rw [f3]; kd_p
  rw [fin]
 ·unfold zcf; kd_p
  unfold zdb; kd_p
  unfold zda; kd_p
  rw [e1, e2]; kd_p
  rw [f1]; kd_p
  unfold zc9; kd_p
  rw [e3, e4]; kd_p
  rw [f2]; kd_p
  unfold zc8; kd_p
  rw [e5, e6]; kd_p
  rw [f3]; kd_p
  rw [fin]
abbrev zel (m : M3) : D := .lst [ptL m.1, ptL m.2.1, ptL m.2.2]
theorem zpj {ds : List Int} (hd : Dd ds) (hl : ds.length = 10) : ∃ m, zbG [.lst (ds.map .int)] = .ok (zel m) /\ det m ≠ 0 /\ BM 6 m := by
 have go : ∀ (most w : Int), gIx (.lst [.int 1, .int 2, .int 30]) (.int (dg ds 9 % 3)) = .ok (.int most) -> 2 * most + 1 = w -> 0 < w -> w <= 61 -> 0 <= most -> ∃ m, zbG [.lst (ds.map .int)] = .ok (zel m) /\ det m ≠ 0 /\ BM 6 m := by
  intro most w he hw w0 w1 m0
  have mm : zhu most = true := zal (n := 24) (B.of (k := 61) (by omega)) (by decide)
  have b6 : ∀ e : Int, B 6 (e % w - most) := fun e => by
   have x0 := xbx e (show w ≠ 0 by omega)
   have x1 := xb1 e w0
   exact B.of (k := 61) (by omega)
  have f : ∀ k : Nat, ∃ x, x = dg ds k % w - most := fun k => ⟨_, rfl⟩
  have row : ∀ (j : Nat) (rs : List D) (x : Option D), j < 3 -> rs.length <= 10 -> zcD [some (.lst (ds.map .int)), some (.int most), some (.lst rs), some (.int (j : Int)), x] = .ok (.nx [some (.lst (ds.map .int)), some (.int most), some (.lst (rs ++ [ptL (dg ds (3 * j) % w - most, dg ds (3 * j + 1) % w - most, dg ds (3 * j + 2) % w - most)])), some (.int (j : Int)), some (.lst [.int (dg ds (3 * j)), .int (dg ds (3 * j + 1)), .int (dg ds (3 * j + 2))])]) := by
   intro j rs x hj hr
   have one : ∀ (k : Nat) (y0 : Option D), k < 3 -> (eOp gIx (zae 1) (eOp zcJ (eOp za8 (eC (.int 3)) (zae 4)) (zae 0))) [some (.int (k : Int)), some (.lst (ds.map .int)), some (.int most), y0, some (.int (j : Int)), x] = .ok (.int (dg ds (3 * j + k))) := fun k y0 hk => by
    kd_p
    rw [zag 3 (j : Int) (by decide) (zal (n := 4) (B.of (k := 3) (by omega)) (by decide))]; kd_p
    rw [show (3 * (j : Int) + (k : Int)) = ((3 * j + k : Nat) : Int) by omega]
    exact ixd (by omega)
   unfold zcD; kd_p
   rw [show zhs [.int 3] = .ok [.int ((0 : Nat) : Int), .int ((1 : Nat) : Int), .int ((2 : Nat) : Int)] from rfl, zxy (one 0 _ (by decide)) (one 1 _ (by decide)) (one 2 _ (by decide))]; kd_p
   unfold zdj; kd_p
   have two : ∀ (e : Int) (y0 y1 : Option D), (eOp gSub (eOp zfE (zae 0) (eOp zcJ (eOp za8 (eC (.int 2)) (zae 2)) (eC (.int 1)))) (zae 2)) [some (.int e), some (.lst (ds.map .int)), some (.int most), y0, some (.int (j : Int)), y1] = .ok (.int (e % w - most)) := fun e y0 y1 => by
    kd_p
    rw [zag 2 most (by decide) mm]; kd_p
    rw [hw, zaw _ _ w0]; kd_p
   rw [zxy (two _ _ _) (two _ _ _) (two _ _ _)]; kd_p
   rw [zeJ _ _ _ _ (by omega)]; kd_p
   rfl
  rw [zhk]; unfold zc1; kd_p
  rw [show gIx (.lst (ds.map .int)) (.int 9) = _ from ixd (k := 9) (by omega)]; kd_p
  rw [zaw _ _ (by decide)]; kd_p
  rw [he]; kd_p
  unfold zeB; kd_p
  unfold zeA; kd_p
  rw [show zhs [.int 3] = .ok [.int ((0 : Nat) : Int), .int ((1 : Nat) : Int), .int ((2 : Nat) : Int)] from rfl]; kd_p
  rw [row 0 _ _ (by decide) (by simp)]; kd_p
  rw [row 1 _ _ (by decide) (by simp)]; kd_p
  rw [row 2 _ _ (by decide) (by simp)]; kd_p
  unfold zez
  obtain ⟨m, hm⟩ : ∃ m : M3, m = ((dg ds (3 * 0) % w - most, dg ds (3 * 0 + 1) % w - most, dg ds (3 * 0 + 2) % w - most), (dg ds (3 * 1) % w - most, dg ds (3 * 1 + 1) % w - most, dg ds (3 * 1 + 2) % w - most), (dg ds (3 * 2) % w - most, dg ds (3 * 2 + 1) % w - most, dg ds (3 * 2 + 2) % w - most)) := ⟨_, rfl⟩
  have bm : BM 6 m := by rw [hm]; exact ⟨⟨b6 _, b6 _, b6 _⟩, ⟨b6 _, b6 _, b6 _⟩, ⟨b6 _, b6 _, b6 _⟩⟩
  rw [show ([] ++ [ptL (dg ds (3 * 0) % w - most, dg ds (3 * 0 + 1) % w - most, dg ds (3 * 0 + 2) % w - most)] ++ [ptL (dg ds (3 * 1) % w - most, dg ds (3 * 1 + 1) % w - most, dg ds (3 * 1 + 2) % w - most)] ++ [ptL (dg ds (3 * 2) % w - most, dg ds (3 * 2 + 1) % w - most, dg ds (3 * 2 + 2) % w - most)]) = [ptL m.1, ptL m.2.1, ptL m.2.2] from by rw [hm]; rfl]
  kd_p
  rw [zpi bm.a bm.b bm.c (by decide) (.inr ⟨rfl, rfl, rfl⟩)]; kd_p
  by_cases hz : zaf m.1 m.2.1 m.2.2 = 0
  ·rw [decide_eq_true hz]; kd_p
   rw [show gIx (.lst (ds.map .int)) (.int 0) = _ from ixd (k := 0) (by omega), show gIx (.lst (ds.map .int)) (.int 1) = _ from ixd (k := 1) (by omega), show gIx (.lst (ds.map .int)) (.int 2) = _ from ixd (k := 2) (by omega), show gIx (.lst (ds.map .int)) (.int 4) = _ from ixd (k := 4) (by omega)]; kd_p
   rw [zaw _ _ (by decide), zaw _ _ (by decide), zaw _ _ (by decide), zaw _ _ (by decide)]; kd_p
   refine ⟨((1, dg ds 0 % 7, dg ds 1 % 5), (0, 1, dg ds 2 % 9), (0, 0, 1 + dg ds 4 % 4)), rfl, ?_, ⟨B.of (k := 61) (by show (1 : Int).natAbs <= 61; decide), B.of (k := 61) (by show (dg ds 0 % 7).natAbs <= 61; omega), B.of (k := 61) (by show (dg ds 1 % 5).natAbs <= 61; omega)⟩, ⟨B.of (k := 61) (by show (0 : Int).natAbs <= 61; decide), B.of (k := 61) (by show (1 : Int).natAbs <= 61; decide), B.of (k := 61) (by show (dg ds 2 % 9).natAbs <= 61; omega)⟩, ⟨B.of (k := 61) (by show (0 : Int).natAbs <= 61; decide), B.of (k := 61) (by show (0 : Int).natAbs <= 61; decide), B.of (k := 61) (by show (1 + dg ds 4 % 4).natAbs <= 61; omega)⟩⟩
   unfold det dot crs
   simp only [Int.one_mul, Int.zero_mul, xbw, Int.sub_zero, Int.add_zero]
   omega
  ·rw [decide_eq_false hz]; kd_p
   unfold zey; kd_p
   exact ⟨m, rfl, hz, bm⟩
 rcases (show dg ds 9 % 3 = 0 \/ dg ds 9 % 3 = 1 \/ dg ds 9 % 3 = 2 by omega) with z | z | z
 ·exact go 1 3 (by rw [z]; rfl) (by decide) (by decide) (by decide) (by decide)
 ·exact go 2 5 (by rw [z]; rfl) (by decide) (by decide) (by decide) (by decide)
 ·exact go 30 61 (by rw [z]; rfl) (by decide) (by decide) (by decide) (by decide)
theorem zxB {n : Nat} {m : M3} {p : P3} (hm : BM 6 m) (hp : BP n p) (hn : n <= 3000) (hd : det m ≠ 0) (hz : Nz p) : zbH [zel m, ptD p] = .ok (ptD (low (mul m p))) := by
 have nz := zqW hd hz
 have bm := hm.mul hp
 rw [zhl]; unfold zc2; kd_p
 rw [zhn hm.a hp (by decide) (by omega), zhn hm.b hp (by decide) (by omega), zhn hm.c hp (by decide) (by omega)]; kd_p
 rw [show zah [.int (dot m.1 p), .int (dot m.2.1 p), .int (dot m.2.2 p)] = _ from zv3 (p := mul m p) bm nz (by omega)]; kd_p
theorem zqF {ds : List Int} {m : M3} (hl : ds.length = 12) (hm : BM 6 m) (hd : det m ≠ 0) : ∃ ps, zcE [.lst (ds.map .int), zel m] = .ok (.lst (ps.map ptD)) /\ Pts 24 ps /\ ps.length = 6 := by
 have turn : ∀ (j : Nat) (d : D) (σ : DSt), ((rg 0 6).map fun k : Nat => D.int (k : Int))[j]? = some d -> (∃ ps x y z, σ = [some (.lst (ds.map .int)), some (zel m), some (.lst (ps.map ptD)), x, y, z] /\ ps.length = j /\ Pts 24 ps) -> ∃ σ', (zbu (σ.set 3 (some d)) = .ok (.nx σ') \/ zbu (σ.set 3 (some d)) = .ok (.ct σ')) /\ ∃ ps x y z, σ' = [some (.lst (ds.map .int)), some (zel m), some (.lst (ps.map ptD)), x, y, z] /\ ps.length = j + 1 /\ Pts 24 ps := by
  rintro j d σ hk ⟨ps, x, y, z, rfl, h1, h2⟩
  obtain ⟨i, hi, rfl⟩ := xbf.mp (xbe hk)
  have hi := (zcH.mp hi).2
  have hj : j < 6 := by
   have := (xah.mp hk).1
   rw [xad] at this
   exact this
  have bi : zhu (i : Int) = true := zal (n := 4) (B.of (k := 6) (by omega)) (by decide)
  rw [show List.set _ 3 _ = [some (.lst (ds.map .int)), some (zel m), some (.lst (ps.map ptD)), some (.int (i : Int)), y, z] from rfl]
  have last : ∀ t s : Int, -6 <= t /\ t <= 6 -> 0 <= s /\ s <= 3 -> ¬ (t = 0 /\ s = 0) -> ∃ σ', (zby [some (.lst (ds.map .int)), some (zel m), some (.lst (ps.map ptD)), some (.int (i : Int)), some (.int t), some (.int s)] = .ok (.nx σ') \/ zby [some (.lst (ds.map .int)), some (zel m), some (.lst (ps.map ptD)), some (.int (i : Int)), some (.int t), some (.int s)] = .ok (.ct σ')) /\ ∃ ps x y z, σ' = [some (.lst (ds.map .int)), some (zel m), some (.lst (ps.map ptD)), x, y, z] /\ ps.length = j + 1 /\ Pts 24 ps := by
   intro t s ht hs hne
   have bt : B 3 t := B.of (k := 6) (by omega)
   have bs : B 3 s := B.of (k := 6) (by omega)
   have mt := zal bt (by decide)
   have ms := zal bs (by decide)
   have bp : BP 6 (t * t, t * s, s * s) := ⟨bt.mul bt, bt.mul bs, bs.mul bs⟩
   have nz : Nz (t * t, t * s, s * s) := fun q => hne ⟨(xa2.mp q.1).elim id id, (xa2.mp q.2.2).elim id id⟩
   have n2 := zqW hd nz
   unfold zby; kd_p
   rw [zag t t mt mt, zag t s mt ms, zag s s ms ms]; kd_p
   rw [show zbH [zel m, .tup [.int (t * t), .int (t * s), .int (s * s)]] = _ from zxB (p := (t * t, t * s, s * s)) hm bp (by decide) hd nz]
   rw [zeJ _ _ _ _ (by rw [xad]; omega)]
   exact ⟨_, .inl rfl, ps ++ [_], _, _, _, by rw [xb2]; rfl, by simp; omega, Pts.snoc h2 (zbk n2) (((hm.mul bp).low n2).mono (by decide))⟩
  unfold zbu; kd_p
  rw [zag 2 _ (by decide) bi]; kd_p
  rw [show 2 * (i : Int) = ((2 * i : Nat) : Int) by omega, ixd (by omega)]; kd_p
  rw [zaw _ _ (by decide)]; kd_p
  unfold zdI; kd_p
  rw [zag 2 _ (by decide) bi]; kd_p
  rw [show 2 * (i : Int) + 1 = ((2 * i + 1 : Nat) : Int) by omega, ixd (by omega)]; kd_p
  rw [zaw _ _ (by decide)]; kd_p
  have ht : -6 <= dg ds (2 * i) % 13 - 6 /\ dg ds (2 * i) % 13 - 6 <= 6 := by omega
  have hs : 0 <= dg ds (2 * i + 1) % 4 /\ dg ds (2 * i + 1) % 4 <= 3 := by omega
  generalize dg ds (2 * i) % 13 - 6 = t at ht
  generalize dg ds (2 * i + 1) % 4 = s at hs
  unfold zdH; kd_p
  by_cases h0 : t = 0
  ·rw [decide_eq_true h0]; kd_p
   by_cases s0 : s = 0
   ·rw [decide_eq_true s0]; kd_p
    exact last t 1 ht (by omega) (by omega)
   ·rw [decide_eq_false s0]; kd_p
    exact last t s ht hs (by omega)
  ·rw [decide_eq_false h0]; kd_p
   exact last t s ht hs (by omega)
 rw [zhA]; unfold zdv; kd_p
 unfold zfm; kd_p
 rw [xad, hl, show zeH (.int ((12 : Nat) : Int)) (.int 2) = .ok (.int ((6 : Nat) : Int)) from rfl]; kd_p
 rw [zfC 6 (by decide)]; kd_p
 obtain ⟨σ', e, ps, x, y, z, rfl, h1, h2⟩ := zl3 (i := 3) (fb := zbu) (fun j σ => ∃ ps x y z, σ = [some (.lst (ds.map .int)), some (zel m), some (.lst (ps.map ptD)), x, y, z] /\ ps.length = j /\ Pts 24 ps) _ turn [some (.lst (ds.map .int)), some (zel m), some (.lst []), none, none, none] ⟨[], _, _, _, rfl, rfl, ⟨by simp, by simp⟩⟩
 rw [e]; kd_p
 unfold zfl; kd_p
 exact ⟨ps, rfl, h2, by rw [h1]; rfl⟩
theorem zxC {ds : List D} {e : DSt -> R D} {σ : DSt} (P : P3 -> Prop) (hl : ds.length <= 1000) (h : ∀ d ∈ ds, ∃ p, e (some d :: σ) = .ok (ptD p) /\ P p) : ∃ ps : List P3, lcK 1 [0] (.ok ds) zaL zbS e σ = .ok (ps.map ptD) /\ ps.length = ds.length /\ ∀ p ∈ ps, P p := by
 have : ∃ f : D -> P3, ∀ d ∈ ds, e (some d :: σ) = .ok (ptD (f d)) /\ P (f d) := by
  refine ⟨fun d => open Classical in if h : ∃ p, e (some d :: σ) = .ok (ptD p) /\ P p then h.choose else (0, 0, 0), fun d hd => ?_⟩
  have hx := h d hd
  simp only [dif_pos hx]
  exact hx.choose_spec
 obtain ⟨f, hf⟩ := this
 refine ⟨ds.map f, ?_, by simp, fun p hp => ?_⟩
 ·rw [zjP (g := fun d => ptD (f d)) (by omega) (fun d hd => (hf d hd).1), xb7]; rfl
 ·obtain ⟨d, hd, rfl⟩ := xbf.mp hp
  exact (hf d hd).2
end LmS
open L2 DL Mir
namespace LmT
open Mth LmP LmA LmD LmB LmE LmF LmH LmI LmJ LmM LmQ LmS
theorem Col3 (x y z : P3) : Col [x, y, z] ↔ C3 z y x := by
 constructor
 ·intro h; exact h z (by simp) y (by simp) x (by simp)
 ·intro h p hp q hq r hr
  have h1 := C3.s12 h
  have h2 := C3.s23 h
  have h3 := C3.rot h
  have h4 := C3.rot h3
  have h5 := C3.s12 h2
  have h6 := C3.s12 h3
  have h7 := C3.s12 h4
  show C3 p q r
  simp only [xae, xaq, or_false] at hp hq hr
  rcases hp with rfl | rfl | rfl <;> rcases hq with rfl | rfl | rfl <;> rcases hr with rfl | rfl | rfl <;> with_reducible (first | assumption | exact C3.aab _ _ | exact C3.aba _ _ | exact C3.baa _ _)
def tri (ps : List P3) (o m i : Nat) : Option D := if zaf (pk ps o) (pk ps m) (pk ps i) = 0 then some (.bl true) else none
def thr (ps : List P3) : Option D := (rg 0 ps.length).findSome? fun o => (rg 0 o).findSome? fun m => (rg 0 m).findSome? fun i => tri ps o m i
def zm5 (ps : List P3) : Prop := ∀ i j k, i < ps.length -> j < ps.length -> k < ps.length -> i ≠ j -> i ≠ k -> j ≠ k -> ¬ C3 (pk ps i) (pk ps j) (pk ps k)
theorem zfD (ps : List P3) : (thr ps = some (.bl true) /\ ¬ zm5 ps) \/ (thr ps = none /\ zm5 ps) := by
 cases h : thr ps with
 | some v =>
  obtain ⟨o, ho, h⟩ := xb8 h
  obtain ⟨m, hm, h⟩ := xb8 h
  obtain ⟨i, hi, h⟩ := xb8 h
  have ho := (zcH.mp ho).2
  have hm := (zcH.mp hm).2
  have hi := (zcH.mp hi).2
  unfold tri at h
  by_cases hz : zaf (pk ps o) (pk ps m) (pk ps i) = 0
  ·rw [if_pos hz] at h
   cases h
   exact .inl ⟨rfl, fun b => b o m i ho (by omega) (by omega) (by omega) (by omega) (by omega) hz⟩
  ·rw [if_neg hz] at h; cases h
 | none =>
  refine .inr ⟨rfl, ?_⟩
  have desc : ∀ o m i, o < ps.length -> m < o -> i < m -> ¬ C3 (pk ps o) (pk ps m) (pk ps i) := fun o m i ho hm hi hz => by
   have h1 := xch.mp h o (zcH.mpr ⟨by omega, ho⟩)
   have h2 := xch.mp h1 m (zcH.mpr ⟨by omega, hm⟩)
   have h3 := xch.mp h2 i (zcH.mpr ⟨by omega, hi⟩)
   unfold tri at h3
   rw [if_pos (show zaf (pk ps o) (pk ps m) (pk ps i) = 0 from hz)] at h3; cases h3
  intro i j k hi hj hk h1 h2 h3 hc
  have c1 := C3.s12 hc
  have c2 := C3.s23 hc
  have c3 := C3.rot hc
  have c4 := C3.rot c3
  have c5 := C3.s23 c3
  rcases Nat.lt_or_gt_of_ne h1 with a | a <;> rcases Nat.lt_or_gt_of_ne h2 with b | b <;> rcases Nat.lt_or_gt_of_ne h3 with c | c
  ·exact desc k j i hk c a c5
  ·exact desc j k i hj c b c4
  ·omega
  ·exact desc j i k hj a b c1
  ·exact desc k i j hk b a c3
  ·omega
  ·exact desc i k j hi b c c2
  ·exact desc i j k hi a c hc
theorem zm5.nd {ps : List P3} (b : zm5 ps) (h3 : 3 <= ps.length) : ps.Nodup := by
 refine xcp.mpr fun i j hi hj hij e => ?_
 obtain ⟨k, hk, k1, k2⟩ : ∃ k, k < ps.length /\ k ≠ i /\ k ≠ j := by
  by_cases c0 : (0 : Nat) ≠ i /\ (0 : Nat) ≠ j
  ·exact ⟨0, by omega, c0.1, c0.2⟩
  ·by_cases c1 : (1 : Nat) ≠ i /\ (1 : Nat) ≠ j
   ·exact ⟨1, by omega, c1.1, c1.2⟩
   ·exact ⟨2, by omega, by omega, by omega⟩
 have a1 := zfA hi
 have a2 := zfA hj
 rw [xao hi] at a1
 rw [xao hj] at a2
 have e2 : pk ps i = pk ps j := by rw [<- Option.some.inj a1, <- Option.some.inj a2, e]
 refine b i j k hi hj hk (by omega) (xay k1) (xay k2) ?_
 rw [e2]; exact C3.aab _ _
theorem zmg {N : Nat} {ps : List P3} (h : Pts N ps) (hl : ps.length <= 100) (hN : N <= 900 := by decide) : zbC [.lst (ps.map ptD)] = .ok ((thr ps).getD (.bl false)) := by
 have bd : ∀ {k}, k < ps.length -> BP N (pk ps k) := fun hk => h.bd _ (zfB hk)
 have t3 : ∀ o m : Nat, o < ps.length -> m < ps.length -> ∀ i ∈ rg 0 m, ∀ σ, (∃ x, σ = [some (.lst (ps.map ptD)), some (.int (o : Int)), some (.int (m : Int)), x]) ->
   (∃ v, tri ps o m i = some v /\ zb6 (σ.set 3 (some (.int (i : Int)))) = .ok (.rt v)) \/ (tri ps o m i = none /\ ∃ σ', zb6 (σ.set 3 (some (.int (i : Int)))) = .ok (.nx σ') /\ ∃ x, σ' = [some (.lst (ps.map ptD)), some (.int (o : Int)), some (.int (m : Int)), x]) := by
  rintro o m ho hm i hi σ ⟨x, rfl⟩
  have hi := (zcH.mp hi).2
  rw [show List.set _ 3 _ = [some (.lst (ps.map ptD)), some (.int (o : Int)), some (.int (m : Int)), some (.int (i : Int))] from rfl]
  unfold zb6; kd_p
  rw [Fl.ix ho, Fl.ix hm, Fl.ix (k := i) (by omega)]; kd_p
  rw [zpi (bd ho) (bd hm) (bd (k := i) (by omega)) (by omega) (.inl ⟨rfl, rfl, rfl⟩)]; kd_p
  unfold tri
  by_cases hz : zaf (pk ps o) (pk ps m) (pk ps i) = 0
  ·rw [decide_eq_true hz, if_pos hz]; kd_p
   exact .inl ⟨_, rfl, rfl⟩
  ·rw [decide_eq_false hz, if_neg hz]; kd_p
   exact .inr ⟨trivial, _, rfl, _, rfl⟩
 have t2 : ∀ o : Nat, o < ps.length -> ∀ m ∈ rg 0 o, ∀ σ, (∃ x y, σ = [some (.lst (ps.map ptD)), some (.int (o : Int)), x, y]) ->
   (∃ v, ((rg 0 m).findSome? fun i => tri ps o m i) = some v /\ zcq (σ.set 2 (some (.int (m : Int)))) = .ok (.rt v)) \/ (((rg 0 m).findSome? fun i => tri ps o m i) = none /\ ∃ σ', zcq (σ.set 2 (some (.int (m : Int)))) = .ok (.nx σ') /\ ∃ x y, σ' = [some (.lst (ps.map ptD)), some (.int (o : Int)), x, y]) := by
  rintro o ho m hm σ ⟨x, y, rfl⟩
  have hm := (zcH.mp hm).2
  rw [show List.set _ 2 _ = [some (.lst (ps.map ptD)), some (.int (o : Int)), some (.int (m : Int)), y] from rfl]
  unfold zcq; kd_p
  rw [zfC m (by omega)]; kd_p
  rcases zeO _ _ _ (t3 o m ho (by omega)) _ ⟨y, rfl⟩ with ⟨v, e1, e2⟩ | ⟨e1, σ', e2, x', rfl⟩
  ·exact .inl ⟨v, e1, e2⟩
  ·exact .inr ⟨e1, _, e2, _, _, rfl⟩
 have t1 : ∀ o ∈ rg 0 ps.length, ∀ σ, (∃ x y z, σ = [some (.lst (ps.map ptD)), x, y, z]) ->
   (∃ v, ((rg 0 o).findSome? fun m => (rg 0 m).findSome? fun i => tri ps o m i) = some v /\ zc3 (σ.set 1 (some (.int (o : Int)))) = .ok (.rt v)) \/ (((rg 0 o).findSome? fun m => (rg 0 m).findSome? fun i => tri ps o m i) = none /\ ∃ σ', zc3 (σ.set 1 (some (.int (o : Int)))) = .ok (.nx σ') /\ ∃ x y z, σ' = [some (.lst (ps.map ptD)), x, y, z]) := by
  rintro o ho σ ⟨x, y, z, rfl⟩
  have ho := (zcH.mp ho).2
  rw [show List.set _ 1 _ = [some (.lst (ps.map ptD)), some (.int (o : Int)), y, z] from rfl]
  unfold zc3; kd_p
  rw [zfC o (by omega)]; kd_p
  rcases zeO _ _ _ (t2 o ho) _ ⟨y, z, rfl⟩ with ⟨v, e1, e2⟩ | ⟨e1, σ', e2, x', y', rfl⟩
  ·exact .inl ⟨v, e1, e2⟩
  ·exact .inr ⟨e1, _, e2, _, _, _, rfl⟩
 rw [zhB]; unfold zdw; kd_p
 rw [xad, zfC _ (by omega)]; kd_p
 unfold thr
 rcases zeO _ _ _ t1 _ ⟨none, none, none, rfl⟩ with ⟨v, e1, e2⟩ | ⟨e1, σ', e2, u, x, y, rfl⟩
 ·rw [e1, e2]; kd_p
  rfl
 ·rw [e1, e2]; kd_p
  unfold zfn; kd_p
  rfl
theorem on3 {N : Nat} {x y z : P3} (h : Pts N [x, y, z]) (hN : N <= 900 := by decide) : zbA [.lst [ptD x, ptD y, ptD z]] = .ok (.bl (decide (zaf z y x = 0))) := by
 obtain ⟨b, e, c⟩ := zpb h (by omega) (by simp)
 rw [show zbA [.lst [ptD x, ptD y, ptD z]] = _ from e]
 congr 2
 rw [xcn, c, Col3, decide_eq_true_eq]; rfl
theorem zmh {N : Nat} {ps : List P3} (h : Pts N ps) (hl : ps.length <= 100) (hN : N <= 900 := by decide) : zaW [.lst (ps.map ptD)] = .ok ((thr ps).getD (.bl false)) := by
 have bd : ∀ {k}, k < ps.length -> BP N (pk ps k) := fun hk => h.bd _ (zfB hk)
 have nm : ∀ {k}, k < ps.length -> Nrm (pk ps k) := fun hk => h.nrm _ (zfB hk)
 have t3 : ∀ o m : Nat, o < ps.length -> m < ps.length -> ∀ i ∈ rg 0 m, ∀ σ, (∃ x, σ = [some (.lst (ps.map ptD)), some (.int (o : Int)), some (.int (m : Int)), x]) ->
   (∃ v, tri ps o m i = some v /\ zaV (σ.set 3 (some (.int (i : Int)))) = .ok (.rt v)) \/ (tri ps o m i = none /\ ∃ σ', zaV (σ.set 3 (some (.int (i : Int)))) = .ok (.nx σ') /\ ∃ x, σ' = [some (.lst (ps.map ptD)), some (.int (o : Int)), some (.int (m : Int)), x]) := by
  rintro o m ho hm i hi σ ⟨x, rfl⟩
  have hi := (zcH.mp hi).2
  have hi' : i < ps.length := by omega
  rw [show List.set _ 3 _ = [some (.lst (ps.map ptD)), some (.int (o : Int)), some (.int (m : Int)), some (.int (i : Int))] from rfl]
  unfold zaV; kd_p
  rw [Fl.ix ho, Fl.ix hm, Fl.ix hi']; kd_p
  rw [on3 (N := N) ⟨fun p hp => by
   simp only [xae, xaq, or_false] at hp
   rcases hp with rfl | rfl | rfl
   ·exact nm hi'
   ·exact nm hm
   ·exact nm ho, fun p hp => by
   simp only [xae, xaq, or_false] at hp
   rcases hp with rfl | rfl | rfl
   ·exact bd hi'
   ·exact bd hm
   ·exact bd ho⟩ hN]; kd_p
  unfold tri
  by_cases hz : zaf (pk ps o) (pk ps m) (pk ps i) = 0
  ·rw [decide_eq_true hz, if_pos hz]; kd_p
   exact .inl ⟨_, rfl, rfl⟩
  ·rw [decide_eq_false hz, if_neg hz]; kd_p
   exact .inr ⟨trivial, _, rfl, _, rfl⟩
 have t2 : ∀ o : Nat, o < ps.length -> ∀ m ∈ rg 0 o, ∀ σ, (∃ x y, σ = [some (.lst (ps.map ptD)), some (.int (o : Int)), x, y]) ->
   (∃ v, ((rg 0 m).findSome? fun i => tri ps o m i) = some v /\ zaZ (σ.set 2 (some (.int (m : Int)))) = .ok (.rt v)) \/ (((rg 0 m).findSome? fun i => tri ps o m i) = none /\ ∃ σ', zaZ (σ.set 2 (some (.int (m : Int)))) = .ok (.nx σ') /\ ∃ x y, σ' = [some (.lst (ps.map ptD)), some (.int (o : Int)), x, y]) := by
  rintro o ho m hm σ ⟨x, y, rfl⟩
  have hm := (zcH.mp hm).2
  rw [show List.set _ 2 _ = [some (.lst (ps.map ptD)), some (.int (o : Int)), some (.int (m : Int)), y] from rfl]
  unfold zaZ; kd_p
  rw [zfC m (by omega)]; kd_p
  rcases zeO _ _ _ (t3 o m ho (by omega)) _ ⟨y, rfl⟩ with ⟨v, e1, e2⟩ | ⟨e1, σ', e2, x', rfl⟩
  ·exact .inl ⟨v, e1, e2⟩
  ·exact .inr ⟨e1, _, e2, _, _, rfl⟩
 have t1 : ∀ o ∈ rg 0 ps.length, ∀ σ, (∃ x y z, σ = [some (.lst (ps.map ptD)), x, y, z]) ->
   (∃ v, ((rg 0 o).findSome? fun m => (rg 0 m).findSome? fun i => tri ps o m i) = some v /\ za5 (σ.set 1 (some (.int (o : Int)))) = .ok (.rt v)) \/ (((rg 0 o).findSome? fun m => (rg 0 m).findSome? fun i => tri ps o m i) = none /\ ∃ σ', za5 (σ.set 1 (some (.int (o : Int)))) = .ok (.nx σ') /\ ∃ x y z, σ' = [some (.lst (ps.map ptD)), x, y, z]) := by
  rintro o ho σ ⟨x, y, z, rfl⟩
  have ho := (zcH.mp ho).2
  rw [show List.set _ 1 _ = [some (.lst (ps.map ptD)), some (.int (o : Int)), y, z] from rfl]
  unfold za5; kd_p
  rw [zfC o (by omega)]; kd_p
  rcases zeO _ _ _ (t2 o ho) _ ⟨y, z, rfl⟩ with ⟨v, e1, e2⟩ | ⟨e1, σ', e2, x', y', rfl⟩
  ·exact .inl ⟨v, e1, e2⟩
  ·exact .inr ⟨e1, _, e2, _, _, _, rfl⟩
 rw [zd5]; unfold zbf; kd_p
 rw [xad, zfC _ (by omega)]; kd_p
 unfold thr
 rcases zeO _ _ _ t1 _ ⟨none, none, none, rfl⟩ with ⟨v, e1, e2⟩ | ⟨e1, σ', e2, u, x, y, rfl⟩
 ·rw [e1, e2]; kd_p
  rfl
 ·rw [e1, e2]; kd_p
  unfold zcl; kd_p
  rfl
theorem zei {d : D} (h : zaE [d] = .ok (.bl false)) (n : D) : zat [d, n] = .err (.exc "NoBow" []) := by
 rw [zbq]; unfold zaY; kd_p
 rw [h]; kd_p
theorem zkc {N : Nat} {ps : List P3} (h : Pts N ps) (h1 : 1 <= ps.length) (h12 : ps.length <= 12) (hN : N <= 900 := by decide) : zaE [.lst (ps.map ptD)] = .ok (.bl (decide ps.Nodup)) := by
 by_cases nd : ps.Nodup
 ·have e := ztz nd
  rw [zfV h (by omega) h1 h12, decide_eq_true (by omega), decide_eq_true nd]
 ·have : ∃ i j, i < j /\ j < ps.length /\ pk ps i = pk ps j := by
   apply xba
   intro z
   apply nd
   refine xcp.mpr fun i j hi hj hij e => z ⟨i, j, hij, hj, ?_⟩
   have a1 := zfA hi
   have a2 := zfA hj
   rw [xao hi] at a1
   rw [xao hj] at a2
   rw [<- Option.some.inj a1, <- Option.some.inj a2, e]
  obtain ⟨i, j, a, b, c⟩ := this
  rw [zph h h12 a b c hN, decide_eq_false nd]
theorem ztB {N : Nat} {ps : List P3} (h : Pts N ps) (h1 : 1 <= ps.length) (h12 : ps.length <= 12) {n : Nat} (hb : ps.length ≠ n \/ ¬ zm5 ps) (hN : N <= 900 := by decide) : zat [.lst (ps.map ptD), .int (n : Int)] = .err (.exc "NoBow" []) := by
 have fl := zkc h h1 h12 hN
 by_cases nd : ps.Nodup
 ·rw [decide_eq_true nd] at fl
  rw [zbq]; unfold zaY; kd_p
  rw [fl]; kd_p
  rw [xad]
  by_cases hn : ps.length = n
  ·rw [decide_eq_true (by omega)]; kd_p
   rw [zmh h (by omega) hN]
   rcases zfD ps with ⟨e, _⟩ | ⟨_, b⟩
   ·rw [e, show (some (D.bl true)).getD (.bl false) = .bl true from rfl]; kd_p
   ·exact absurd b (hb.resolve_left fun z => z hn)
  ·rw [decide_eq_false (by omega)]; kd_p
 ·rw [decide_eq_false nd] at fl
  exact zei fl _
theorem zmi {N : Nat} {ps : List P3} (h : Pts N ps) (h3 : 3 <= ps.length) (h12 : ps.length <= 12) (hb : zm5 ps) (hN : N <= 900 := by decide) : zat [.lst (ps.map ptD), .int (ps.length : Int)] = .ok .non := by
 have fl := zkc h (by omega) h12 hN
 rw [decide_eq_true (hb.nd h3)] at fl
 rw [zbq]; unfold zaY; kd_p
 rw [fl]; kd_p
 rw [xad, decide_eq_true rfl]; kd_p
 rw [zmh h (by omega) hN]
 rcases zfD ps with ⟨_, b⟩ | ⟨e, _⟩
 ·exact absurd hb b
 ·rw [e, show (none : Option D).getD (.bl false) = .bl false from rfl]; kd_p
abbrev zqG (q : P6) : D := .tup ((zar q).map .int)
def B6 (n : Nat) (q : P6) : Prop := ∀ i ∈ zar q, B n i
theorem zqH {n : Nat} {ns : List Int} (h : ∀ i ∈ ns, B n i) (hz : zaK ns ≠ 0) (hn : n <= 9000) (hl : ns.length <= 1000) : zfg [.lst (ns.map .int)] = .ok (.tup ((ztJ ns).map .int)) := by
 have hd := ztv (k := 0) h hz hn
 rw [zkG]; unfold zgu zh8 zhf; kd_p
 obtain ⟨a', e⟩ := zqB ns (some (.lst (ns.map .int))) none
 rw [e]; kd_p
 unfold zh7 zh6; kd_p
 rw [ze5 (p := fun d => !eqD d (.int 0)) (g := id) (by rw [xad]; omega) (fun d hd => ?_) (fun d hd _ => rfl)]
 ·kd_p
  rw [zmc hz]; kd_p
  have hs : zej ns = if zaK ns < 0 then -((zsG ns : Nat) : Int) else ((zsG ns : Nat) : Int) := rfl
  by_cases hf : zaK ns < 0
  ·rw [if_pos hf] at hs
   rw [decide_eq_true hf]; kd_p
   rw [show -((ns.foldl (fun g n => Nat.gcd g n.natAbs) 0 : Nat) : Int) = zej ns from hs.symm, zo9 (j := 1) hl hd rfl]; kd_p
   rfl
  ·rw [if_neg hf] at hs
   rw [decide_eq_false hf]; kd_p
   rw [show ((ns.foldl (fun g n => Nat.gcd g n.natAbs) 0 : Nat) : Int) = zej ns from hs.symm, zo9 (j := 1) hl hd rfl]; kd_p
   rfl
 ·obtain ⟨i, _, rfl⟩ := xbf.mp hd
  kd_p; rw [zep]
theorem zpk {n : Nat} {l m : P3} (hl : BP n l) (hm : BP n m) (hn : n <= 3000) : za6 [.tup [ptD l, ptD m]] = .ok (.lst ((zar (prd l m)).map .int)) := by
 have m1 : ∀ {i : Int}, B n i -> zhu i = true := fun h => zal h (by omega)
 rw [zgg]; unfold zcp; kd_p
 rw [show gIx (.tup [ptD l, ptD m]) (.int 0) = .ok (ptD l) from rfl]; kd_p
 unfold zd9; kd_p
 rw [show gIx (.tup [ptD l, ptD m]) (.int 1) = .ok (ptD m) from rfl]; kd_p
 unfold zd8; kd_p
 have one : ∀ (k : Int) (a b : Int) (x y z : Option D), gIx (ptD l) (.int k) = .ok (.int a) -> gIx (ptD m) (.int k) = .ok (.int b) -> B n a -> B n b -> (eOp za8 (eOp gIx (zae 2) (zae 0)) (eOp gIx (zae 3) (zae 0))) [some (.int k), x, some (ptD l), some (ptD m), y, z] = .ok (.int (a * b)) := fun k a b x y z e1 e2 ha hb => by
  kd_p
  rw [e1, e2]; kd_p
  rw [zag _ _ (m1 ha) (m1 hb)]
 rw [show zhs [.int 3] = .ok [.int 0, .int 1, .int 2] from rfl, zxy (one 0 _ _ _ _ _ rfl rfl hl.x hm.x) (one 1 _ _ _ _ _ rfl rfl hl.y hm.y) (one 2 _ _ _ _ _ rfl rfl hl.z hm.z)]; kd_p
 unfold zd7; kd_p
 have two : ∀ (j k : Int) (a b c d : Int) (x y z : Option D), gIx (ptD l) (.int j) = .ok (.int a) -> gIx (ptD m) (.int k) = .ok (.int b) -> gIx (ptD l) (.int k) = .ok (.int c) -> gIx (ptD m) (.int j) = .ok (.int d) -> B n a -> B n b -> B n c -> B n d -> (eOp zcJ (eOp za8 (eOp gIx (zae 3) (zae 0)) (eOp gIx (zae 4) (zae 1))) (eOp za8 (eOp gIx (zae 3) (zae 1)) (eOp gIx (zae 4) (zae 0)))) [some (.int j), some (.int k), x, some (ptD l), some (ptD m), y, z] = .ok (.int (a * b + c * d)) := fun j k a b c d x y z e1 e2 e3 e4 ha hb hc hd => by
  kd_p
  rw [e1, e2, e3, e4]; kd_p
  rw [zag _ _ (m1 ha) (m1 hb), zag _ _ (m1 hc) (m1 hd)]; kd_p
 rw [zxz (two 0 1 _ _ _ _ _ _ _ rfl rfl rfl rfl hl.x hm.y hl.y hm.x) (two 0 2 _ _ _ _ _ _ _ rfl rfl rfl rfl hl.x hm.z hl.z hm.x) (two 1 2 _ _ _ _ _ _ _ rfl rfl rfl rfl hl.y hm.z hl.z hm.y)]; kd_p
 unfold zd6; kd_p
 rfl
theorem zxD {a b c d f g a' b' c' d' f' g' x y z u v w : D} {e : DSt -> R D} {σ : DSt} (h1 : e (some a :: some a' :: σ) = .ok x) (h2 : e (some b :: some b' :: σ) = .ok y) (h3 : e (some c :: some c' :: σ) = .ok z) (h4 : e (some d :: some d' :: σ) = .ok u) (h5 : e (some f :: some f' :: σ) = .ok v) (h6 : e (some g :: some g' :: σ) = .ok w) : lcK 2 [0, 1] (.ok [.tup [a, a'], .tup [b, b'], .tup [c, c'], .tup [d, d'], .tup [f, f'], .tup [g, g']]) (zbX 2) zbS e σ = .ok [x, y, z, u, v, w] := by
 have t : lcD [0, 1] (zbX 2) zbS e (List.replicate 2 none ++ σ) [.tup [a, a'], .tup [b, b'], .tup [c, c'], .tup [d, d'], .tup [f, f'], .tup [g, g']] = (e (some a :: some a' :: σ)).bind (fun y1 => ((e (some b :: some b' :: σ)).bind fun y2 => ((e (some c :: some c' :: σ)).bind fun y3 => ((e (some d :: some d' :: σ)).bind fun y4 => ((e (some f :: some f' :: σ)).bind fun y5 => ((e (some g :: some g' :: σ)).bind fun y6 => (R.ok ([] : List D)).bind fun ys => .ok (y6 :: ys)).bind fun ys => .ok (y5 :: ys)).bind fun ys => .ok (y4 :: ys)).bind fun ys => .ok (y3 :: ys)).bind fun ys => .ok (y2 :: ys)).bind fun ys => .ok (y1 :: ys)) := rfl
 show (bif most 6 then (lcD [0, 1] (zbX 2) zbS e (List.replicate 2 none ++ σ) _).noerr else .bad) = _
 rw [t, h1, h2, h3, h4, h5, h6]; rfl
theorem B6.prd {n : Nat} {l m : P3} (hl : BP n l) (hm : BP n m) : B6 (n + n + 1) (prd l m) := by
 have q : ∀ {a b : Int}, B n a -> B n b -> B (n + n + 1) (a * b) := fun ha hb => (ha.mul hb).mono (by omega)
 have s : ∀ {a b c d : Int}, B n a -> B n b -> B n c -> B n d -> B (n + n + 1) (a * b + c * d) := fun ha hb hc hd => ((ha.mul hb).add (hc.mul hd)).mono (by omega)
 intro i hi
 simp only [zar, Mth.prd, xae, xaq, or_false] at hi
 rcases hi with rfl | rfl | rfl | rfl | rfl | rfl
 ·exact q hl.x hm.x
 ·exact q hl.y hm.y
 ·exact q hl.z hm.z
 ·exact s hl.x hm.y hl.y hm.x
 ·exact s hl.x hm.z hl.z hm.x
 ·exact s hl.y hm.z hl.z hm.y
theorem B6.comb {k n : Nat} {x y : Int} {q r : P6} (hx : B k x) (hy : B k y) (hq : B6 n q) (hr : B6 n r) : B6 (k + n + 1) (comb x y q r) := by
 have s : ∀ {a b : Int}, B n a -> B n b -> B (k + n + 1) (x * a - y * b) := fun ha hb => ((hx.mul ha).sub (hy.mul hb)).mono (by omega)
 intro i hi
 simp only [zar, Mth.comb, xae, xaq, or_false] at hi
 rcases hi with rfl | rfl | rfl | rfl | rfl | rfl <;> exact s (hq _ (by simp [zar])) (hr _ (by simp [zar]))
theorem B6.low {n : Nat} {q : P6} (h : B6 n q) (hz : Nz6 q) : B6 n (zgE q) := by
 intro i hi
 rw [zje] at hi
 obtain ⟨x, hx, rfl⟩ := xbf.mp hi
 have := zpX hz hx
 have hb := h x hx
 unfold B at *
 omega
set_option maxHeartbeats 800000 in
theorem zr4 {a b c d e : P3} (h : Pts 24 [a, b, c, d, e]) (hb : zm5 [a, b, c, d, e]) (g : G5 a b c d e) : zdt [.lst [ptD a, ptD b, ptD c, ptD d, ptD e]] = .ok (zqG (zgE (zeV a b c d e))) /\ B6 250 (zgE (zeV a b c d e)) := by
 have ba := h.bd a (by simp)
 have bb := h.bd b (by simp)
 have bc := h.bd c (by simp)
 have bd := h.bd d (by simp)
 have be := h.bd e (by simp)
 have zab := zaz g.abc
 have zac := zaz (fun h => g.abc (C3.s23 h) : ¬ C3 a c b)
 have zcd := zaz g.cde
 have zbd := zaz g.bde
 have ne : ∀ {x y z : P3}, ¬ C3 x y z -> x ≠ y := fun h z => h (by rw [z]; exact C3.aab _ _)
 have l1 := (ba.crs bb).low zab
 have l2 := (bc.crs bd).low zcd
 have m1 := (ba.crs bc).low zac
 have m2 := (bb.crs bd).low zbd
 have dl1 := l1.dot be
 have dl2 := l2.dot be
 have dm1 := m1.dot be
 have dm2 := m2.dot be
 have q1 := B6.prd l1 l2
 have q2 := B6.prd m1 m2
 have zn := znD g
 have bn : B6 250 (zeV a b c d e) := by
  unfold zeV
  intro i hi
  have := B6.comb (dm1.mul dm2) (dl1.mul dl2) q1 q2 i hi
  exact B.mono this (by decide)
 refine ⟨?_, bn.low zn⟩
 rw [zkH]; unfold zgv; kd_p
 have lb := zmi (ps := [a, b, c, d, e]) h (by simp) (by simp) hb
 rw [show (([a, b, c, d, e] : List P3).length : Int) = 5 from rfl, show ([a, b, c, d, e] : List P3).map ptD = [ptD a, ptD b, ptD c, ptD d, ptD e] from rfl] at lb
 rw [lb]; kd_p
 unfold zie; kd_p
 rw [show gIx (.lst [ptD a, ptD b, ptD c, ptD d, ptD e]) (.int 0) = .ok (ptD a) from rfl, show gIx (.lst [ptD a, ptD b, ptD c, ptD d, ptD e]) (.int 1) = .ok (ptD b) from rfl, show gIx (.lst [ptD a, ptD b, ptD c, ptD d, ptD e]) (.int 2) = .ok (ptD c) from rfl, show gIx (.lst [ptD a, ptD b, ptD c, ptD d, ptD e]) (.int 3) = .ok (ptD d) from rfl]; kd_p
 rw [through_v1 ba bb (by decide) (ne g.abc) zab, through_v1 bc bd (by decide) (ne g.cde) zcd]; kd_p
 unfold zid; kd_p
 rw [show gIx (.lst [ptD a, ptD b, ptD c, ptD d, ptD e]) (.int 0) = .ok (ptD a) from rfl, show gIx (.lst [ptD a, ptD b, ptD c, ptD d, ptD e]) (.int 1) = .ok (ptD b) from rfl, show gIx (.lst [ptD a, ptD b, ptD c, ptD d, ptD e]) (.int 2) = .ok (ptD c) from rfl, show gIx (.lst [ptD a, ptD b, ptD c, ptD d, ptD e]) (.int 3) = .ok (ptD d) from rfl]; kd_p
 rw [through_v1 ba bc (by decide) (ne (fun h => g.abc (C3.s23 h) : ¬ C3 a c b)) zac, through_v1 bb bd (by decide) (ne g.bde) zbd]; kd_p
 have i0 : ∀ x y : D, gIx (.tup [x, y]) (.int 0) = .ok x := fun _ _ => rfl
 have i1 : ∀ x y : D, gIx (.tup [x, y]) (.int 1) = .ok y := fun _ _ => rfl
 have i4 : gIx (.lst [ptD a, ptD b, ptD c, ptD d, ptD e]) (.int 4) = .ok (ptD e) := rfl
 unfold zic; kd_p
 rw [i0, i1, i4]; kd_p
 rw [zj9 m1 be (by decide) (by decide), zj9 m2 be (by decide) (by decide)]; kd_p
 rw [zag _ _ (zal dm1 (by decide)) (zal dm2 (by decide))]; kd_p
 unfold zib; kd_p
 rw [i0, i1, i4]; kd_p
 rw [zj9 l1 be (by decide) (by decide), zj9 l2 be (by decide) (by decide)]; kd_p
 rw [zag _ _ (zal dl1 (by decide)) (zal dl2 (by decide))]; kd_p
 unfold zia; kd_p
 rw [zpk l1 l2 (by decide), zpk m1 m2 (by decide)]; kd_p
 unfold zh9; kd_p
 rw [i0, i1]; kd_p
 have mP := zal (dm1.mul dm2) (by decide)
 have mL := zal (dl1.mul dl2) (by decide)
 generalize hP : dot (low (crs a c)) e * dot (low (crs b d)) e = P at mP
 generalize hL : dot (low (crs a b)) e * dot (low (crs c d)) e = L at mL
 generalize hq1 : prd (low (crs a b)) (low (crs c d)) = r1 at q1
 generalize hq2 : prd (low (crs a c)) (low (crs b d)) = r2 at q2
 have bw : zeV a b c d e = comb P L r1 r2 := by unfold zeV; rw [hP, hL, hq1, hq2]
 have one : ∀ (x y : Int) (s0 s1 s2 s5 : Option D), B 99 x -> B 99 y -> (eOp gSub (eOp za8 (zae 5) (zae 0)) (eOp za8 (zae 6) (zae 1))) [some (.int x), some (.int y), s0, s1, s2, some (.int P), some (.int L), s5] = .ok (.int (P * x - L * y)) := fun x y s0 s1 s2 s5 hx hy => by
  kd_p
  rw [zag _ _ mP (zal hx (by decide)), zag _ _ mL (zal hy (by decide))]; kd_p
 have b1 : ∀ x ∈ zar r1, B 99 x := fun x hx => (q1 x hx).mono (by decide)
 have b2 : ∀ x ∈ zar r2, B 99 x := fun x hx => (q2 x hx).mono (by decide)
 rw [show zkA [.lst ((zar r1).map .int), .lst ((zar r2).map .int)] = .ok [.tup [.int r1.1.1, .int r2.1.1], .tup [.int r1.1.2.1, .int r2.1.2.1], .tup [.int r1.1.2.2, .int r2.1.2.2], .tup [.int r1.2.1, .int r2.2.1], .tup [.int r1.2.2.1, .int r2.2.2.1], .tup [.int r1.2.2.2, .int r2.2.2.2]] from rfl,
  zxD (one _ _ _ _ _ _ (b1 _ (by simp [zar])) (b2 _ (by simp [zar]))) (one _ _ _ _ _ _ (b1 _ (by simp [zar])) (b2 _ (by simp [zar]))) (one _ _ _ _ _ _ (b1 _ (by simp [zar])) (b2 _ (by simp [zar]))) (one _ _ _ _ _ _ (b1 _ (by simp [zar])) (b2 _ (by simp [zar]))) (one _ _ _ _ _ _ (b1 _ (by simp [zar])) (b2 _ (by simp [zar]))) (one _ _ _ _ _ _ (b1 _ (by simp [zar])) (b2 _ (by simp [zar])))]; kd_p
 have key : D.lst [.int (P * r1.1.1 - L * r2.1.1), .int (P * r1.1.2.1 - L * r2.1.2.1), .int (P * r1.1.2.2 - L * r2.1.2.2), .int (P * r1.2.1 - L * r2.2.1), .int (P * r1.2.2.1 - L * r2.2.2.1), .int (P * r1.2.2.2 - L * r2.2.2.2)] = .lst ((zar (zeV a b c d e)).map .int) := by rw [bw]; rfl
 rw [key, zqH (ns := zar (zeV a b c d e)) bn zn (by decide) (by simp [zar])]; kd_p
 rw [<- zje]
end LmT
open L2 DL Mir
namespace Lk46
open Mth LmP LmA LmD LmB LmE LmF LmH
theorem crossing_ok {n : Nat} {p q : P3} (hp : BP n p) (hq : BP n q) (hn : n <= 4000) (hne : p ≠ q) (hL : Nz (crs p q)) : zbN [ptD p, ptD q] = .ok (ptD (low (crs p q))) := by
 rw [zgf]; unfold zco; kd_p
 rw [zih hp hq hn hne hL]; kd_p
end Lk46
open L2 DL Mir
namespace LmV
open Mth LmP LmA LmD LmB LmE LmF LmH LmI LmJ LmM LmQ LmS LmT
abbrev S2 := List P3 × List P3
structure De where
 w : Bool
 a : Nat
 b : Nat
def De.D (d : De) : D := .tup [.str (bif d.w then "peg" else "line"), .int (d.a : Int), .int (d.b : Int)]
def lof (s : S2) (w : Bool) : List P3 := bif w then s.2 else s.1
def fresh (s : S2) (d : De) : P3 := low (crs (pk (lof s d.w) d.a) (pk (lof s d.w) d.b))
def stp (s : S2) (d : De) : S2 := bif d.w then (s.1 ++ [fresh s d], s.2) else (s.1, s.2 ++ [fresh s d])
structure OkD (s : S2) (d : De) : Prop where
 a : d.a < (lof s d.w).length
 b : d.b < (lof s d.w).length
 ne : pk (lof s d.w) d.a ≠ pk (lof s d.w) d.b
structure Fine (s : S2) : Prop where
 p : ∀ p ∈ s.1, Nrm p /\ BP 1000 p
 l : ∀ p ∈ s.2, Nrm p /\ BP 1000 p
theorem Fine.of {s : S2} (h : Fine s) (w : Bool) : ∀ p ∈ lof s w, Nrm p /\ BP 1000 p := by
 cases w
 ·exact h.p
 ·exact h.l
inductive Wk : S2 -> List De -> S2 -> Prop
 | nil (s : S2) : Wk s [] s
 | cons {s t : S2} {d : De} {ds : List De} : OkD s d -> Fine (stp s d) -> Wk (stp s d) ds t -> Wk s (d :: ds) t
theorem ztC (s : S2) (d : De) : (stp s d).1.length + (stp s d).2.length = s.1.length + s.2.length + 1 := by
 unfold stp
 cases d.w
 ·show s.1.length + (s.2 ++ [fresh s d]).length = _; simp; omega
 ·show (s.1 ++ [fresh s d]).length + s.2.length = _; simp; omega
theorem zpl (w : Bool) (i j : Int) : zce [.tup [.str (bif w then "peg" else "line"), .int i, .int j]] = .ok (.bl true) := by
 rw [zhg]; unfold zcU; kd_p
 unfold zet; kd_p
 rw [show ∀ x : Str, g2 zeI [.str x, .ty "str"] = .ok (.bl true) from fun _ => rfl]; kd_p
 have e : zpv (.str (bif w then "peg" else "line")) (.tup [.str "line", .str "peg"]) = .ok (.bl false) := by cases w <;> rfl
 rw [e]; kd_p
 unfold zes; kd_p
 rw [show ∀ i : Int, zaT [.int i] = .ok (.bl true) from fun _ => rfl]; kd_p
 rw [show ∀ i : Int, zaT [.int i] = .ok (.bl true) from fun _ => rfl]; kd_p
theorem zmj (w i j at_ : D) (l : List D) (n : Int) (h : 0 <= n /\ n < (l.length : Int)) (x y : Option D) : zdr [some (.lst l), some (.tup [w, i, j]), some at_, some (.int n), x, y] = .ok (.nx [some (.lst l), some (.tup [w, i, j]), some at_, some (.int n), x, y]) := by
 unfold zdr; kd_p
 rw [decide_eq_true h.1, decide_eq_true h.2]; kd_p
theorem ztD (w : D) (at_ : D) (l : List P3) (a b : Nat) (ha : a < l.length) (hb : b < l.length) (h : pk l a ≠ pk l b) : zaU [.lst (l.map ptD), .tup [w, .int (a : Int), .int (b : Int)], at_] = .ok (.tup [ptD (pk l a), ptD (pk l b)]) := by
 rw [zhh]; unfold zcV; kd_p
 rw [zmj _ _ _ _ _ _ (by rw [xad]; omega)]; kd_p
 rw [zmj _ _ _ _ _ _ (by rw [xad]; omega)]; kd_p
 unfold zex; kd_p
 rw [Fl.ix ha]; kd_p
 unfold zew; kd_p
 rw [Fl.ix hb]; kd_p
 unfold zev; kd_p
 rw [decide_eq_false (fun z => h ((eqP _ _).mp z))]; kd_p
 unfold zeu; kd_p
theorem zqI (i j : Nat) (fb : DSt -> R Out) (x y : D) (ds : List D) (σ : DSt) : zgP [i, j] (zbX 2) fb (.tup [x, y] :: ds) σ = zhv (fb ((σ.set i (some x)).set j (some y))) (zgP [i, j] (zbX 2) fb ds) := by
 show (fb ((σ.set i (some x)).set j (some y))).bind _ = _
 unfold zhv
 cases fb ((σ.set i (some x)).set j (some y)) with
 | ok o => cases o <;> rfl
 | err e => rfl
 | bad => rfl
theorem zxE (a b : D) : gIx (.tup [a, b]) (.int 0) = .ok a := rfl
theorem t2_1 (a b : D) : gIx (.tup [a, b]) (.int 1) = .ok b := rfl
theorem zv5 (p q : P3) : imm (.tup [ptD p, ptD q]) = true := rfl
theorem zpm {s : S2} {d : De} (f : Fine s) (o : OkD s d) (hl : s.1.length + s.2.length <= 900) (pl pn x : Option D) (at_ : D) :
  ∃ y, zbc [pl, pn, some (.lst (s.1.map ptD)), some (.lst (s.2.map ptD)), some at_, some d.D, x] = .ok (.nx [pl, pn, some (.lst ((stp s d).1.map ptD)), some (.lst ((stp s d).2.map ptD)), some at_, some d.D, y]) := by
 obtain ⟨w, a, b⟩ := d
 obtain ⟨ha, hb, hne⟩ := o
 have F := f.of w
 have na := F _ (zfB ha)
 have nb := F _ (zfB hb)
 have hz := zeU na.1 nb.1 hne
 refine ⟨some (.tup [ptD (pk (lof s w) a), ptD (pk (lof s w) b)]), ?_⟩
 have pr := ztD (.str (bif w then "peg" else "line")) at_ (lof s w) a b ha hb hne
 have hd := zpl w (a : Int) (b : Int)
 unfold zbc
 show zaG _ _ [pl, pn, some (.lst (s.1.map ptD)), some (.lst (s.2.map ptD)), some at_, some (.tup [.str (bif w then "peg" else "line"), .int (a : Int), .int (b : Int)]), x] = _
 kd_p
 rw [hd]; kd_p
 unfold zdB
 cases w with
 | false =>
  rw [cond_false] at pr ⊢
  kd_p
  rw [show gEq (.str "line") (.str "line") = .ok (.bl true) from rfl]; kd_p
  unfold zde; kd_p
  rw [zgW]; kd_p
  rw [show zaU [.lst (s.1.map ptD), .tup [.str "line", .int (a : Int), .int (b : Int)], at_] = _ from pr, ziB _ _ _ (zv5 _ _)]; kd_p
  unfold zcA; kd_p
  rw [zxE, t2_1]; kd_p
  rw [LmB.through_v1 na.2 nb.2 (by decide) hne hz, zeJ _ _ _ _ (by rw [xad]; omega)]; kd_p
  rw [show stp s ⟨false, a, b⟩ = (s.1, s.2 ++ [low (crs (pk (lof s false) a) (pk (lof s false) b))]) from rfl, xb2]; rfl
 | true =>
  rw [cond_true] at pr ⊢
  kd_p
  rw [show gEq (.str "peg") (.str "line") = .ok (.bl false) from rfl]; kd_p
  unfold zdf; kd_p
  rw [zgW]; kd_p
  rw [show zaU [.lst (s.2.map ptD), .tup [.str "peg", .int (a : Int), .int (b : Int)], at_] = _ from pr, ziB _ _ _ (zv5 _ _)]; kd_p
  unfold zcB; kd_p
  rw [zxE, t2_1]; kd_p
  rw [Lk46.crossing_ok na.2 nb.2 (by decide) hne hz, zeJ _ _ _ _ (by rw [xad]; omega)]; kd_p
  rw [show stp s ⟨true, a, b⟩ = (s.1 ++ [low (crs (pk (lof s true) a) (pk (lof s true) b))], s.2) from rfl, xb2]; rfl
theorem zpn {s t : S2} {ds : List De} (h : Wk s ds t) : Fine s -> s.1.length + s.2.length + ds.length <= 900 -> ∀ (k : Nat) (pl pn x1 x2 x3 : Option D), ∃ y1 y2 y3, zgP [4, 5] (zbX 2) zbc (zhw k (ds.map De.D)) [pl, pn, some (.lst (s.1.map ptD)), some (.lst (s.2.map ptD)), x1, x2, x3] =
  .ok (.nx [pl, pn, some (.lst (t.1.map ptD)), some (.lst (t.2.map ptD)), y1, y2, y3]) := by
 induction h with
 | nil s => exact fun _ _ k pl pn x1 x2 x3 => ⟨x1, x2, x3, rfl⟩
 | @cons s t d ds o f' _ ih =>
  intro f hl k pl pn x1 x2 x3
  rw [xar] at hl
  obtain ⟨y, e⟩ := zpm f o (by omega) pl pn x3 (.int (k : Int))
  obtain ⟨y1, y2, y3, e2⟩ := ih f' (by rw [ztC]; omega) (k + 1) pl pn (some (.int (k : Int))) (some d.D) y
  refine ⟨y1, y2, y3, ?_⟩
  rw [xaz, zhw, zqI]
  show zhv (zbc [pl, pn, some (.lst (s.1.map ptD)), some (.lst (s.2.map ptD)), some (.int (k : Int)), some d.D, x3]) _ = _
  rw [e, zgp, e2]
theorem zpo {ps : List P3} {ds : List De} {t : S2} (f : Fine (ps, [])) (h : Wk (ps, []) ds t) (hl : ps.length + ds.length <= 900) : zcC [.lst (ps.map ptD), .lst (ds.map De.D)] = .ok (.tup [.lst (t.1.map ptD), .lst (t.2.map ptD)]) := by
 obtain ⟨y1, y2, y3, e⟩ := zpn h f (by simpa using hl) 0 (some (.lst (ps.map ptD))) (some (.lst (ds.map De.D))) none none none
 rw [zhy]; unfold zds; kd_p
 rw [show (zju [.lst (ps.map ptD)]).noerr = .ok (ps.map ptD) from rfl]; kd_p
 unfold zfj; kd_p
 unfold zfi; kd_p
 rw [show zeL [.lst (ds.map De.D)] = .ok (zhw 0 (ds.map De.D)) from rfl]; kd_p
 rw [show zgP [4, 5] (zbX 2) zbc (zhw 0 (ds.map De.D)) [some (.lst (ps.map ptD)), some (.lst (ds.map De.D)), some (.lst (ps.map ptD)), some (.lst []), none, none, none] = _ from e]; kd_p
 unfold zfh; kd_p
def zwm : List De := [⟨false, 0, 5⟩, ⟨false, 2, 3⟩, ⟨true, 0, 1⟩, ⟨false, 0, 1⟩, ⟨false, 3, 4⟩, ⟨true, 2, 3⟩, ⟨false, 6, 7⟩, ⟨false, 1, 2⟩, ⟨true, 4, 5⟩, ⟨false, 4, 8⟩, ⟨true, 0, 6⟩]
theorem zv6 : zl9 = .lst (zwm.map De.D) := rfl
theorem Fine.line {ps ls : List P3} {l : P3} (f : Fine (ps, ls)) (h : Nrm l /\ BP 1000 l) : Fine (ps, ls ++ [l]) := ⟨f.p, fun p hp => (xbd.mp hp).elim (f.l p) fun z => by rw [xbh.mp z]; exact h⟩
theorem Fine.peg {ps ls : List P3} {l : P3} (f : Fine (ps, ls)) (h : Nrm l /\ BP 1000 l) : Fine (ps ++ [l], ls) := ⟨fun p hp => (xbd.mp hp).elim (f.p p) fun z => by rw [xbh.mp z]; exact h, f.l⟩
theorem drawn {a b c d e p : P3} (h : Pts 24 [a, b, c, d, e]) (g : G5 a b c d e) (np : Nrm p) (bp : BP 320 p) (hne : p ≠ a) :
  Fine ([a, b, c, d, e, p], []) /\ ∃ ps ls, Wk ([a, b, c, d, e, p], []) zwm (ps, ls) /\ pk ps 9 = low (x9 a b c d e p) /\ ps.length = 10 /\ BP 1000 (low (x9 a b c d e p)) := by
 have na := h.nrm a (by simp)
 have nb := h.nrm b (by simp)
 have nc := h.nrm c (by simp)
 have nd := h.nrm d (by simp)
 have ne := h.nrm e (by simp)
 have ba := h.bd a (by simp)
 have bb := h.bd b (by simp)
 have bc := h.bd c (by simp)
 have bd := h.bd d (by simp)
 have be := h.bd e (by simp)
 have D := zuJ g (zeU na np hne.symm)
 have b1 : BP 345 (low (crs a p)) := ((ba.crs bp).mono (by decide)).low D.l
 have b2 : BP 49 (low (crs c d)) := (bc.crs bd).low D.cd
 have b4 : BP 49 (low (crs a b)) := (ba.crs bb).low D.ab
 have b5 : BP 49 (low (crs d e)) := (bd.crs be).low D.de
 have b8 : BP 49 (low (crs b c)) := (bb.crs bc).low D.bc
 obtain ⟨z6, e6⟩ := zfI D.l D.cd D.n6
 obtain ⟨z7, e7⟩ := zfI D.ab D.de D.n7
 have e6 : low (crs (low (crs a p)) (low (crs c d))) = low (x6 a c d p) := e6
 have e7 : low (crs (low (crs a b)) (low (crs d e))) = low (x7 a b d e) := e7
 have b6 : BP 395 (low (x6 a c d p)) := by rw [<- e6]; exact (b1.crs b2).low z6
 have b7 : BP 99 (low (x7 a b d e)) := by rw [<- e7]; exact (b4.crs b5).low z7
 obtain ⟨z67, e67⟩ := zfI D.n6 D.n7 D.l67
 have b67 : BP 495 (low (crs (x6 a c d p) (x7 a b d e))) := by rw [<- e67]; exact (b6.crs b7).low z67
 obtain ⟨z8, e8⟩ := zfI D.l67 D.bc D.n8
 have e8 : low (crs (low (crs (x6 a c d p) (x7 a b d e))) (low (crs b c))) = low (x8 a b c d e p) := e8
 have b8' : BP 545 (low (x8 a b c d e p)) := by rw [<- e8]; exact (b67.crs b8).low z8
 obtain ⟨z48, e48⟩ := zfI ne.nz D.n8 D.l48
 rw [ne.low] at z48 e48
 have b48 : BP 570 (low (crs e (x8 a b c d e p))) := by rw [<- e48]; exact (be.crs b8').low z48
 obtain ⟨z9, e9⟩ := zfI D.l D.l48 D.n9
 have e9 : low (crs (low (crs a p)) (low (crs e (x8 a b c d e p)))) = low (x9 a b c d e p) := e9
 have b9 : BP 916 (low (x9 a b c d e p)) := by rw [<- e9]; exact (b1.crs b48).low z9
 have f0 : Fine ([a, b, c, d, e, p], []) := ⟨fun x hx => by
  simp only [xae, xaq, or_false] at hx
  rcases hx with rfl | rfl | rfl | rfl | rfl | rfl
  ·exact ⟨na, ba.mono (by decide)⟩
  ·exact ⟨nb, bb.mono (by decide)⟩
  ·exact ⟨nc, bc.mono (by decide)⟩
  ·exact ⟨nd, bd.mono (by decide)⟩
  ·exact ⟨ne, be.mono (by decide)⟩
  ·exact ⟨np, bp.mono (by decide)⟩, by simp⟩
 have nz2 : ∀ {u v : P3}, Nz (crs u v) -> u ≠ v := fun h e => zga h (by rw [e]; exact zpY _)
 have k1 := zjh D.l D.cd D.n6
 have k2 := zjh D.ab D.de D.n7
 have k3 := zjh D.n6 D.n7 D.l67
 have k4 := zjh D.l67 D.bc D.n8
 have k5 := zjh D.l D.l48 D.n9
 have k6 := nz2 z48
 have w1 := zbk D.l
 have w2 := zbk D.cd
 have w3 := zbk D.n6
 have w4 := zbk D.ab
 have w5 := zbk D.de
 have w6 := zbk D.n7
 have w7 := zbk D.l67
 have w8 := zbk D.bc
 have w9 := zbk D.n8
 have w10 := zbk D.l48
 have w11 := zbk D.n9
 generalize hl1 : low (crs a p) = l1 at *
 generalize hl2 : low (crs c d) = l2 at *
 generalize hl3 : low (crs a b) = l3 at *
 generalize hl4 : low (crs d e) = l4 at *
 generalize hl6 : low (crs b c) = l6 at *
 generalize low (x6 a c d p) = p6 at *
 generalize low (x7 a b d e) = p7 at *
 generalize low (crs (x6 a c d p) (x7 a b d e)) = l5 at *
 generalize low (x8 a b c d e p) = p8 at *
 generalize low (crs e (x8 a b c d e p)) = l7 at *
 generalize low (x9 a b c d e p) = p9 at *
 have f1 := f0.line ⟨w1, b1.mono (by decide)⟩
 have f2 := f1.line ⟨w2, b2.mono (by decide)⟩
 have f3 := f2.peg ⟨w3, b6.mono (by decide)⟩
 have f4 := f3.line ⟨w4, b4.mono (by decide)⟩
 have f5 := f4.line ⟨w5, b5.mono (by decide)⟩
 have f6 := f5.peg ⟨w6, b7.mono (by decide)⟩
 have f7 := f6.line ⟨w7, b67.mono (by decide)⟩
 have f8 := f7.line ⟨w8, b8.mono (by decide)⟩
 have f9 := f8.peg ⟨w9, b8'.mono (by decide)⟩
 have f10 := f9.line ⟨w10, b48.mono (by decide)⟩
 have f11 := f10.peg ⟨w11, b9.mono (by decide)⟩
 have st : ∀ {s t u : S2} {d : De} {ds : List De}, OkD s d -> stp s d = t -> Fine t -> Wk t ds u -> Wk s (d :: ds) u := fun o e f w => .cons o (by rw [e]; exact f) (by rw [e]; exact w)
 refine ⟨f0, [a, b, c, d, e, p, p6, p7, p8, p9], [l1, l2, l3, l4, l5, l6, l7], ?_, rfl, rfl, b9.mono (by decide)⟩
 refine st ⟨by show 0 < 6; decide, by show 5 < 6; decide, hne.symm⟩ (by show (_, [] ++ [low (crs a p)]) = _; rw [hl1]) f1 ?_
 refine st ⟨by show 2 < 6; decide, by show 3 < 6; decide, nz2 D.cd⟩ (by show (_, [l1] ++ [low (crs c d)]) = _; rw [hl2]; rfl) f2 ?_
 refine st ⟨by show 0 < 2; decide, by show 1 < 2; decide, k1⟩ (by show (_ ++ [low (crs l1 l2)], _) = _; rw [e6]) f3 ?_
 refine st ⟨by show 0 < 7; decide, by show 1 < 7; decide, nz2 D.ab⟩ (by show (_, _ ++ [low (crs a b)]) = _; rw [hl3]) f4 ?_
 refine st ⟨by show 3 < 7; decide, by show 4 < 7; decide, nz2 D.de⟩ (by show (_, _ ++ [low (crs d e)]) = _; rw [hl4]) f5 ?_
 refine st ⟨by show 2 < 4; decide, by show 3 < 4; decide, k2⟩ (by show (_ ++ [low (crs l3 l4)], _) = _; rw [e7]) f6 ?_
 refine st ⟨by show 6 < 8; decide, by show 7 < 8; decide, k3⟩ (by show (_, _ ++ [low (crs p6 p7)]) = _; rw [e67]) f7 ?_
 refine st ⟨by show 1 < 8; decide, by show 2 < 8; decide, nz2 D.bc⟩ (by show (_, _ ++ [low (crs b c)]) = _; rw [hl6]) f8 ?_
 refine st ⟨by show 4 < 6; decide, by show 5 < 6; decide, k4⟩ (by show (_ ++ [low (crs l5 l6)], _) = _; rw [e8]) f9 ?_
 refine st ⟨by show 4 < 9; decide, by show 8 < 9; decide, k6⟩ (by show (_, _ ++ [low (crs e p8)]) = _; rw [e48]) f10 ?_
 refine st ⟨by show 0 < 7; decide, by show 6 < 7; decide, k5⟩ (by show (_ ++ [low (crs l1 l7)], _) = _; rw [e9]) f11 ?_
 exact .nil _
end LmV
open L2 DL Mir
namespace Lk77
open Mth LmP LmA LmD LmB LmE LmF LmH LmI LmJ LmM LmQ LmS LmT
theorem no_such (ds : List D) (σ : DSt) {c : DSt -> R Bool} (hl : ds.length <= 1000) (hc : ∀ d ∈ ds, c (some d :: σ) = .ok false) : lcK 1 [0] (.ok ds) zaL c (zae 0) σ = .ok [] := by
 rw [ze5 (p := fun _ => false) (g := id) (by omega) hc (fun d hd z => by cases z)]
 simp
theorem G5.of {ps : List P3} (b : zm5 ps) {i j k l m : Nat} (hi : i < ps.length) (hj : j < ps.length) (hk : k < ps.length) (hl : l < ps.length) (hm : m < ps.length) (d : i ≠ j /\ i ≠ k /\ i ≠ l /\ i ≠ m /\ j ≠ k /\ j ≠ l /\ j ≠ m /\ k ≠ l /\ k ≠ m /\ l ≠ m) : G5 (pk ps i) (pk ps j) (pk ps k) (pk ps l) (pk ps m) := by
 obtain ⟨d1, d2, d3, d4, d5, d6, d7, d8, d9, d10⟩ := d
 exact ⟨b _ _ _ hi hj hk d1 d2 d5, b _ _ _ hi hj hl d1 d3 d6, b _ _ _ hi hj hm d1 d4 d7, b _ _ _ hi hk hl d2 d3 d8, b _ _ _ hi hk hm d2 d4 d9, b _ _ _ hi hl hm d3 d4 d10, b _ _ _ hj hk hl d5 d6 d8, b _ _ _ hj hk hm d5 d7 d9, b _ _ _ hj hl hm d6 d7 d10, b _ _ _ hk hl hm d8 d9 d10⟩
theorem eq_self' {d : D} (h : zdY 9 d = true) : gEq d d = .ok (.bl true) := by rw [zjK (by unfold zmE; rw [h]; rfl), zgm 9 _ h]
theorem zdz {d : D} (h : d = .non \/ d = .str "a" \/ d = .tup [.int 0, .int 0, .int 0] \/ d = .tup [.int 2, .int 0, .int 2] \/ d = .tup [.int 1, .int 0] \/ d = .lst [.int 1, .int 0, .int 1] \/ d = .tup [.bl true, .int 0, .int 1]) : zas [d] = .ok (.bl false) := by
 rcases h with rfl | rfl | rfl | rfl | rfl | rfl | rfl
 ·rw [za4]; unfold zbb; rfl
 ·rw [za4]; unfold zbb; rfl
 ·exact zmR
 ·have nz : Nz (2, 0, 2) := fun q => absurd (show (2 : Int) = 0 from q.1) (by decide)
  have bt : BP 24 (2, 0, 2) := ⟨B.of (k := 2) (by decide), B.of (k := 2) (by decide), B.of (k := 2) (by decide)⟩
  rw [show D.tup [.int 2, .int 0, .int 2] = t3 2 0 2 from rfl, zig (x := 2) (y := 0) (z := 2) bt.x bt.y bt.z nz (by decide), decide_eq_false (by decide)]
 ·rw [za4]; unfold zbb; rfl
 ·exact Lk02.list_no _
 ·exact Lk02.is_place_odd ⟨rfl, rfl, rfl, rfl⟩
theorem floor_o {d : D} (h : (∃ xs, d = .tup xs) \/ d = .non \/ d = .lst []) : zaE [d] = .ok (.bl false) := by
 rw [zci]; unfold zbp
 rcases h with ⟨xs, rfl⟩ | rfl | rfl <;> rfl
theorem floor_w {ps : List P3} (h : Pts 24 ps) {w : D} (hw : zas [w] = .ok (.bl false)) (hl : ps.length <= 11) {ds : List D} (hd : ds = ps.map ptD ++ [w] \/ ds = w :: ps.map ptD) : zaE [.lst ds] = .ok (.bl false) := by
 have pl : ∀ e ∈ ps.map ptD, ∃ b, zas [e] = .ok (.bl b) := fun e he => by
  obtain ⟨p, hp, rfl⟩ := xbf.mp he
  exact ⟨true, zf8 (h.bd p hp) (h.nrm p hp) (by decide)⟩
 rcases hd with rfl | rfl
 ·refine zme (w := w) (by simp) (by simp; omega) (fun e he => ?_) (by simp) hw
  rcases xbd.mp he with he | he
  ·exact pl e he
  ·rw [xbh.mp he]; exact ⟨false, hw⟩
 ·refine zme (w := w) (by simp) (by simp; omega) (fun e he => ?_) (by simp) hw
  rcases xae.mp he with rfl | he
  ·exact ⟨false, hw⟩
  ·exact pl e he
theorem odd_ok (r : Int) : ∃ o, gIx (.lst [.non, .str "a", .tup [.int 0, .int 0, .int 0], .tup [.int 2, .int 0, .int 2], .tup [.int 1, .int 0], .lst [.int 1, .int 0, .int 1], .tup [.bl true, .int 0, .int 1]]) (.int (r % 7)) = .ok o /\ zas [o] = .ok (.bl false) := by
 rcases (show r % 7 = 0 \/ r % 7 = 1 \/ r % 7 = 2 \/ r % 7 = 3 \/ r % 7 = 4 \/ r % 7 = 5 \/ r % 7 = 6 by omega) with z | z | z | z | z | z | z <;> rw [z]
 ·exact ⟨_, rfl, zdz (.inl rfl)⟩
 ·exact ⟨_, rfl, zdz (.inr (.inl rfl))⟩
 ·exact ⟨_, rfl, zdz (.inr (.inr (.inl rfl)))⟩
 ·exact ⟨_, rfl, zdz (.inr (.inr (.inr (.inl rfl))))⟩
 ·exact ⟨_, rfl, zdz (.inr (.inr (.inr (.inr (.inl rfl)))))⟩
 ·exact ⟨_, rfl, zdz (.inr (.inr (.inr (.inr (.inr (.inl rfl))))))⟩
 ·exact ⟨_, rfl, zdz (.inr (.inr (.inr (.inr (.inr (.inr rfl))))))⟩
theorem lstK_7 (a b c d e f g : D) : zqn (.ok [a, b, c, d, e, f, g]) = .ok [a, b, c, d, e, f, g] := rfl
theorem pts_take {ps : List P3} (h : Pts 24 ps) (n : Nat) : Pts 24 (ps.take n) := ⟨fun p hp => h.nrm p (xby hp), fun p hp => h.bd p (xby hp)⟩
end Lk77
open L2 DL Mir
namespace Lk78
open Mth LmP LmA LmD LmB LmE LmF LmH LmI LmJ LmM LmQ LmS LmT LmV
theorem ztE (a b c d e : P3) : [a, b, c, d, e].map ptD = [ptD a, ptD b, ptD c, ptD d, ptD e] := rfl
theorem zv7 {a b c d e : P3} (h : Pts 24 [a, b, c, d, e]) (hb : zm5 [a, b, c, d, e]) : zat [.lst [ptD a, ptD b, ptD c, ptD d, ptD e], .int 5] = .ok .non := by
 have k := zmi h (by show 3 <= 5; decide) (by show 5 <= 12; decide) hb
 rw [ztE, show ([a, b, c, d, e] : List P3).length = 5 from rfl, show ((5 : Nat) : Int) = 5 from rfl] at k
 exact k
theorem zqJ {a b c d e : P3} (h : Pts 24 [a, b, c, d, e]) (hb : ¬ zm5 [a, b, c, d, e]) : zat [.lst [ptD a, ptD b, ptD c, ptD d, ptD e], .int 5] = .err (.exc "NoBow" []) := by
 have k := ztB h (by show 1 <= 5; decide) (by show 5 <= 12; decide) (n := 5) (.inr hb)
 rw [ztE, show ((5 : Nat) : Int) = 5 from rfl] at k
 exact k
theorem ix5 (a b c d e : D) : gIx (.lst [a, b, c, d, e]) (.int 0) = .ok a := rfl
theorem zqK {a b c d e p : P3} (h : Pts 24 [a, b, c, d, e]) (hb : zm5 [a, b, c, d, e]) (g : G5 a b c d e) (np : Nrm p) (bp : BP 320 p) (hne : p ≠ a) :
  zcj [.lst [ptD a, ptD b, ptD c, ptD d, ptD e], ptD p] = .ok (ptD (low (x9 a b c d e p))) /\ BP 1000 (low (x9 a b c d e p)) := by
 obtain ⟨f, ps, ls, W, e9, l10, b9⟩ := drawn h g np bp hne
 refine ⟨?_, b9⟩
 have wk := zpo f W (by show 6 + 11 <= 900; decide)
 rw [zfO]; unfold zfN; kd_p
 rw [zv7 h hb]; kd_p
 unfold zhi; kd_p
 rw [ix5]; kd_p
 rw [decide_eq_false (fun z => hne ((eqP _ _).mp z))]; kd_p
 unfold zj6; kd_p
 rw [Lk42.gAdd_ll (by simp), zv6, show (zju [.lst (zwm.map De.D)]).noerr = .ok (zwm.map De.D) from rfl]; kd_p
 rw [show [ptD a, ptD b, ptD c, ptD d, ptD e] ++ [ptD p] = [a, b, c, d, e, p].map ptD from rfl, wk]; kd_p
 rw [zxE, show zma = .int ((9 : Nat) : Int) from rfl]; kd_p
 rw [Fl.ix (by omega), e9]; kd_p
theorem zc6 {x p : D} (h : zat [x, .int 5] = .err (.exc "NoBow" [])) : zcj [x, p] = .err (.exc "NoBow" []) := by
 rw [zfO]; unfold zfN; kd_p
 rw [h]; kd_p
theorem zmV {a b c d e : P3} (h : Pts 24 [a, b, c, d, e]) (hb : zm5 [a, b, c, d, e]) : zcj [.lst [ptD a, ptD b, ptD c, ptD d, ptD e], ptD a] = .err (.exc "Same" [.non]) := by
 rw [zfO]; unfold zfN; kd_p
 rw [zv7 h hb]; kd_p
 unfold zhi; kd_p
 rw [ix5]; kd_p
 rfl
theorem zr5 {x p : D} (h : zcj [x, p] = .err (.exc "NoBow" [])) : zax [x, p, .bl false] = .ok (.bl true) := by
 rw [zcG]; unfold zba; kd_p
 unfold zbQ; kd_p
 rw [h]; kd_p
 rw [zlL _ _ _ _ _ _ (show zjj "NoBow" "ChalkError" = some true by decide +kernel)]; kd_p
 unfold zbP; kd_p
 unfold zc4; kd_p
 rw [show g2 zg6 [.exc "NoBow" [], .cls "NoBow"] = .ok (.bl true) from rfl]; kd_p
 rw [show g2 zg6 [.exc "NoBow" [], .ty "ValueError"] = .ok (.bl true) from rfl]; kd_p
 rw [show g2 zg6 [.exc "NoBow" [], .cls "Same"] = .ok (.bl false) from rfl]; kd_p
theorem zqL {x p : D} (h : zcj [x, p] = .err (.exc "Same" [.non])) : zax [x, p, .bl true] = .ok (.bl true) := by
 rw [zcG]; unfold zba; kd_p
 unfold zbQ; kd_p
 rw [h]; kd_p
 rw [zlL _ _ _ _ _ _ (show zjj "Same" "ChalkError" = some true by decide +kernel)]; kd_p
 unfold zbP; kd_p
 unfold zcF; kd_p
 rw [show g2 zg6 [.exc "Same" [.non], .cls "Same"] = .ok (.bl true) from rfl]; kd_p
 rw [show g2 zg6 [.exc "Same" [.non], .ty "ValueError"] = .ok (.bl true) from rfl]; kd_p
 rw [show g2 zg6 [.exc "Same" [.non], .cls "NoBow"] = .ok (.bl false) from rfl]; kd_p
 unfold zcg; kd_p
 rw [show gAt ["NoDeed", "Same"] (.exc "Same" [.non]) = .ok .non from rfl]; kd_p
theorem B6.grd {n k : Nat} {q : P6} {x : P3} (hq : B6 n q) (hx : BP k x) : BP (n + k + 4) (Mth.grd q x) := by
 have two : B 2 2 := B.of (k := 2) (by decide)
 have m : ∀ {u v : Int}, B n u -> B k v -> B (n + k) (u * v) := fun a b => a.mul b
 have t : ∀ {u v : Int}, B n u -> B k v -> B (n + k + 2) (2 * u * v) := fun a b => ((two.mul a).mul b).mono (by omega)
 have s : ∀ {u v w : Int}, B (n + k + 2) u -> B (n + k) v -> B (n + k) w -> B (n + k + 4) (u + v + w) := fun {u v w} a b c => ((a.add b).add c).mono (by omega)
 have q1 := hq q.1.1 (by simp [zar])
 have q2 := hq q.1.2.1 (by simp [zar])
 have q3 := hq q.1.2.2 (by simp [zar])
 have q4 := hq q.2.1 (by simp [zar])
 have q5 := hq q.2.2.1 (by simp [zar])
 have q6 := hq q.2.2.2 (by simp [zar])
 exact ⟨s (t q1 hx.x) (m q4 hx.y) (m q5 hx.z), s (t q2 hx.y) (m q4 hx.x) (m q6 hx.z), s (t q3 hx.z) (m q5 hx.x) (m q6 hx.y)⟩
theorem zeP {n k : Nat} {q : P6} {x : P3} (hq : B6 n q) (hx : BP k x) (hn : n + k <= 8000) (hz : Nz (grd q x)) : zaI [zqG q, ptD x] = .ok (ptD (low (grd q x))) := by
 have q1 := hq q.1.1 (by simp [zar])
 have q2 := hq q.1.2.1 (by simp [zar])
 have q3 := hq q.1.2.2 (by simp [zar])
 have q4 := hq q.2.1 (by simp [zar])
 have q5 := hq q.2.2.1 (by simp [zar])
 have q6 := hq q.2.2.2 (by simp [zar])
 have m0 : ∀ {a : Int}, B n a -> za8 (.int 2) (.int a) = .ok (.int (2 * a)) := fun ha => zag _ _ (by decide) (zal ha (by omega))
 have m1 : ∀ {a b : Int}, B n a -> B k b -> za8 (.int a) (.int b) = .ok (.int (a * b)) := fun ha hb => zag _ _ (zal ha (by omega)) (zal hb (by omega))
 have m2 : ∀ {a b : Int}, B n a -> B k b -> za8 (.int (2 * a)) (.int b) = .ok (.int (2 * a * b)) := fun ha hb => zag _ _ (zal ((B.of (k := 2) (by decide) : B 2 2).mul ha) (by omega)) (zal hb (by omega))
 have i0 : gIx (zqG q) (.int 0) = .ok (.int q.1.1) := rfl
 have i1 : gIx (zqG q) (.int 1) = .ok (.int q.1.2.1) := rfl
 have i2 : gIx (zqG q) (.int 2) = .ok (.int q.1.2.2) := rfl
 have i3 : gIx (zqG q) (.int 3) = .ok (.int q.2.1) := rfl
 have i4 : gIx (zqG q) (.int 4) = .ok (.int q.2.2.1) := rfl
 have i5 : gIx (zqG q) (.int 5) = .ok (.int q.2.2.2) := rfl
 rw [zfR]; unfold zb7; kd_p
 unfold zdL; kd_p
 rw [i0, i3, i4]; kd_p
 rw [m0 q1, m1 q4 hx.y, m1 q5 hx.z]; kd_p
 rw [m2 q1 hx.x]; kd_p
 unfold zdK; kd_p
 rw [i1, i3, i5]; kd_p
 rw [m0 q2, m1 q4 hx.x, m1 q6 hx.z]; kd_p
 rw [m2 q2 hx.y]; kd_p
 unfold zdJ; kd_p
 rw [i2, i4, i5]; kd_p
 rw [m0 q3, m1 q5 hx.x, m1 q6 hx.y]; kd_p
 rw [m2 q3 hx.z]; kd_p
 rw [show zah [.int (2 * q.1.1 * x.1 + q.2.1 * x.2.1 + q.2.2.1 * x.2.2), .int (2 * q.1.2.1 * x.2.1 + q.2.1 * x.1 + q.2.2.2 * x.2.2), .int (2 * q.1.2.2 * x.2.2 + q.2.2.1 * x.1 + q.2.2.2 * x.2.1)] = _ from zv3 (B6.grd hq hx) hz (by omega)]; kd_p
theorem zkd {q : P6} {x y : P3} (hz : Nz (grd q x)) : dot (low (grd q x)) y = 0 ↔ bl q x y = 0 := by
 rw [zb3, zir hz, zb3, znE]
theorem zmk {n k : Nat} {q : P6} {x : P3} (hq : B6 n q) (hx : BP k x) (hn : n + k <= 3000) (hz : Nz (grd q x)) : zb0 [zqG q, ptD x] = .ok (.bl (decide (qv q x = 0))) := by
 rw [zhC]; unfold zdx; kd_p
 rw [zeP hq hx (by omega) hz]; kd_p
 rw [zkb ((B6.grd hq hx).low hz) hx (by omega) (by omega)]; kd_p
 rw [show decide (dot (low (grd q x)) x = 0) = decide (qv q x = 0) from decide_eq_decide.mpr (by rw [zkd hz, zgF]; omega)]
theorem zkK (p : P3) : zbt [ptD p, ptD p] = .ok (.bl true) := by
 rw [zfQ]; unfold zb5; kd_p
 rw [Lk77.no_such [.int p.1, .int p.2.1, .int p.2.2] _ (by show 3 <= 1000; decide) (fun d hd => by
  simp only [xae, xaq, or_false] at hd
  rcases hd with rfl | rfl | rfl <;> kd_p <;> rw [zkI] <;> kd_p)]; kd_p
 rw [show gNe (.lst []) (.lst []) = .ok (.bl false) from rfl]; kd_p
 unfold zdG; kd_p
 rfl
theorem zqM {a b c d e p : P3} (h : Pts 24 [a, b, c, d, e]) (np : Nrm p) (bp : BP 320 p) : zbv [.lst [ptD a, ptD b, ptD c, ptD d, ptD e], ptD p] = .ok (.bl true) := by
 have dat : zdY 9 (.lst [ptD a, ptD b, ptD c, ptD d, ptD e]) = true := rfl
 rw [zfS]; unfold zb8; kd_p
 rw [show (zju [.lst [ptD a, ptD b, ptD c, ptD d, ptD e]]).noerr = .ok [ptD a, ptD b, ptD c, ptD d, ptD e] from rfl]; kd_p
 unfold zdU; kd_p
 have el := zmg h (by show 5 <= 100; decide)
 rw [ztE] at el
 rw [el]
 rcases zfD [a, b, c, d, e] with ⟨et, nb⟩ | ⟨et, hb⟩
 ·rw [et, show (some (D.bl true)).getD (.bl false) = .bl true from rfl]; kd_p
  rw [zr5 (zc6 (zqJ h nb))]; kd_p
 ·rw [et, show (none : Option D).getD (.bl false) = .bl false from rfl]; kd_p
  unfold zdT; kd_p
  rw [ix5]; kd_p
  by_cases hne : p = a
  ·rw [decide_eq_true ((eqP _ _).mpr hne)]; kd_p
   subst hne
   rw [zqL (zmV h hb)]; kd_p
   rw [Lk77.eq_self' rfl]; kd_p
  ·rw [decide_eq_false (fun z => hne ((eqP _ _).mp z))]; kd_p
   have g : G5 a b c d e := Lk77.G5.of (i := 0) (j := 1) (k := 2) (l := 3) (m := 4) hb (by show 0 < 5; decide) (by show 1 < 5; decide) (by show 2 < 5; decide) (by show 3 < 5; decide) (by show 4 < 5; decide) (by decide)
   have na := h.nrm a (by simp)
   have ba := h.bd a (by simp)
   obtain ⟨ea, b9⟩ := zqK h hb g np bp hne
   obtain ⟨eb, B5⟩ := zr4 h hb g
   have o := zko g
   have nzl := zeU na np (xay hne)
   have D := zuJ g nzl
   have nm := o.meet_nz nzl
   rw [D.low9 g] at ea b9
   generalize hq : zgE (zeV a b c d e) = q at *
   have nr := zbk nm
   have qm : qv q (low (zeW q a p)) = 0 := by
    have e1 := zsN o.a p
    rw [zdl nm, zqZ] at e1
    exact zaQ (zbD (zcL nm).1 (zcL nm).1) e1
   have dm : zaf a p (low (zeW q a p)) = 0 := by
    have e1 := zp3 q a p
    rw [zdl nm] at e1
    refine zaQ (zcL nm).1 ?_
    rw [<- e1]
    generalize sOf (zeW q a p) = s
    generalize low (zeW q a p) = x
    unfold zaf tms dot crs; grind
   unfold zdS; kd_p
   rw [eb]; kd_p
   unfold zdR; kd_p
   rw [ea]; kd_p
   unfold zdQ; kd_p
   rw [Lk12.ne_same dat]; kd_p
   rw [zkK]; kd_p
   rw [zv3 b9 nr.nz (by decide), nr.low]; kd_p
   simp only [and_self, decide_true, xcy]
   kd_p
   unfold zdP; kd_p
   rw [ix5]; kd_p
   rw [zpi (ba.mono (show 24 <= 1000 by decide)) (bp.mono (by decide)) b9 (by decide) (.inl ⟨rfl, rfl, rfl⟩), dm]; kd_p
   rw [zmk B5 b9 (by decide) (o.grd_nz nr.nz), decide_eq_true qm]; kd_p
   unfold zdO; kd_p
   rw [ix5]; kd_p
   have ga := o.grd_nz na.nz
   rw [zeP B5 ba (by decide) ga]; kd_p
   rw [zkb ((B6.grd B5 ba).low ga) bp (by decide) (by decide)]; kd_p
   unfold zdN; kd_p
   rw [ix5]; kd_p
   have same : decide ((low (zeW q a p)).1 = a.1 /\ (low (zeW q a p)).2.1 = a.2.1 /\ (low (zeW q a p)).2.2 = a.2.2) = decide (dot (low (grd q a)) p = 0) := decide_eq_decide.mpr ((eqP _ _).trans ((zuH na nzl nm).trans (zkd ga).symm))
   rw [same, beq_self_eq_true]; kd_p
   unfold zdM; kd_p
   rw [zmk B5 bp (by decide) (o.grd_nz np.nz)]; kd_p
   by_cases hp : qv q p = 0
   ·rw [decide_eq_true hp]; kd_p
    rw [decide_eq_true ((eqP _ _).mpr (zuI np nm hp))]
   ·rw [decide_eq_false hp]; kd_p
theorem zxF {ps : List P3} (h5 : ps.length = 5) : ∃ a b c d e, ps = [a, b, c, d, e] := by
 match ps, h5 with
 | [a, b, c, d, e], _ => exact ⟨a, b, c, d, e, rfl⟩
theorem zqN {ds : List Int} {cs : List P3} {a b c d e : P3} (dd : Dd ds) (hl : ds.length = 6) (hc : Pts 24 cs) (lc : cs.length = 6) (h : Pts 24 [a, b, c, d, e]) :
  ∃ p, zb1 [.lst (ds.map .int), .lst [ptD a, ptD b, ptD c, ptD d, ptD e], .lst (cs.map ptD)] = .ok (ptD p) /\ Nrm p /\ BP 320 p := by
 have i0 : gIx (.lst (ds.map .int)) (.int 0) = .ok (.int (dg ds 0)) := ixd (k := 0) (by omega)
 have i1 : gIx (.lst (ds.map .int)) (.int 1) = .ok (.int (dg ds 1)) := ixd (k := 1) (by omega)
 obtain ⟨p, ep, np, bp⟩ := zmf (ds := (ds.drop 2).take 4) (by rw [xa5, xbq]; omega)
 have sl : ∀ (x1 x2 x3 x4 x5 x6 x7 x8 x9 x10 x11 x12 : Option D), eSl (zae 0) (zbT (eC (.int 2))) (zbT (eC (.int 6))) [some (.lst (ds.map .int)), x1, x2, x3, x4, x5, x6, x7, x8, x9, x10, x11, x12] = .ok (.lst (((ds.drop 2).take 4).map .int)) := fun x1 x2 x3 x4 x5 x6 x7 x8 x9 x10 x11 x12 => by
  rw [ziG _ _ _ _ (ds.map .int) 2 6 rfl rfl rfl (by rw [xad]; omega) (by decide), ziH]
 have el := zmg h (by show 5 <= 100; decide)
 rw [ztE] at el
 rw [zhD]; unfold zdy; kd_p
 rw [i0]; kd_p
 rw [zaw _ _ (by decide)]; kd_p
 unfold zfw; kd_p
 by_cases h0 : dg ds 0 % 4 = 0
 ·rw [decide_eq_true h0]; kd_p
  have c5 : 5 < cs.length := by omega
  rw [show gIx (.lst (cs.map ptD)) (.int 5) = .ok (ptD (pk cs 5)) from Fl.ix c5]; kd_p
  exact ⟨_, rfl, hc.nrm _ (zfB c5), (hc.bd _ (zfB c5)).mono (by decide)⟩
 ·rw [decide_eq_false h0]; kd_p
  unfold zfv; kd_p
  by_cases h1 : dg ds 0 % 4 = 1
  ·rw [decide_eq_true h1]; kd_p
   rw [i1]; kd_p
   rw [zaw _ _ (by decide)]; kd_p
   obtain ⟨v, hv, ev⟩ : ∃ v : Nat, v < 5 /\ dg ds 1 % 5 = (v : Int) := ⟨(dg ds 1 % 5).toNat, by omega, by omega⟩
   have ix := Fl.ix (ps := [a, b, c, d, e]) (k := v) hv
   rw [ztE] at ix
   rw [ev, ix]; kd_p
   exact ⟨_, rfl, h.nrm _ (zfB hv), (h.bd _ (zfB hv)).mono (by decide)⟩
  ·rw [decide_eq_false h1]; kd_p
   unfold zfu; kd_p
   by_cases h2 : dg ds 0 % 4 = 2
   ·rw [decide_eq_true h2]; kd_p
    rw [sl]; kd_p
    rw [ep]; kd_p
    exact ⟨_, rfl, np, bp.mono (by decide)⟩
   ·rw [decide_eq_false h2]; kd_p
    rw [el]
    rcases zfD [a, b, c, d, e] with ⟨et, nb⟩ | ⟨et, hb⟩
    ·rw [et, show (some (D.bl true)).getD (.bl false) = .bl true from rfl]; kd_p
     rw [sl]; kd_p
     rw [ep]; kd_p
     exact ⟨_, rfl, np, bp.mono (by decide)⟩
    ·rw [et, show (none : Option D).getD (.bl false) = .bl false from rfl]; kd_p
     have g : G5 a b c d e := Lk77.G5.of (i := 0) (j := 1) (k := 2) (l := 3) (m := 4) hb (by show 0 < 5; decide) (by show 1 < 5; decide) (by show 2 < 5; decide) (by show 3 < 5; decide) (by show 4 < 5; decide) (by decide)
     obtain ⟨eb, B5⟩ := zr4 h hb g
     have o := zko g
     have na := h.nrm a (by simp)
     have ba := h.bd a (by simp)
     have ga := o.grd_nz na.nz
     have bt := (B6.grd B5 ba).low ga
     unfold zft; kd_p
     rw [eb, ix5]; kd_p
     rw [zeP B5 ba (by decide) ga]; kd_p
     generalize low (grd (zgE (zeV a b c d e)) a) = t at bt
     unfold zfs; kd_p
     rw [sl]; kd_p
     rw [ep]; kd_p
     unfold zfr; kd_p
     unfold zfq; kd_p
     unfold zfp; kd_p
     have m1 : ∀ {i j : Int}, B (250 + 24 + 4) i -> B 24 j -> za8 (.int i) (.int j) = .ok (.int (i * j)) := fun h h' => zag _ _ (zal h (by decide)) (zal h' (by decide))
     rw [m1 bt.y bp.z, m1 bt.z bp.y, m1 bt.z bp.x, m1 bt.x bp.z, m1 bt.x bp.y, m1 bt.y bp.x]; kd_p
     unfold zfo; kd_p
     by_cases hz : crs t p = (0, 0, 0)
     ·rw [decide_eq_true (show t.2.1 * p.2.2 - t.2.2 * p.2.1 = 0 /\ t.2.2 * p.1 - t.1 * p.2.2 = 0 /\ t.1 * p.2.1 - t.2.1 * p.1 = 0 from (eqP (crs t p) (0, 0, 0)).mpr hz)]; kd_p
      rw [show ∀ a b c d e : D, gIx (.lst [a, b, c, d, e]) (.int 1) = .ok b from fun _ _ _ _ _ => rfl]; kd_p
      exact ⟨_, rfl, h.nrm b (by simp), (h.bd b (by simp)).mono (by decide)⟩
     ·rw [decide_eq_false (show ¬ (t.2.1 * p.2.2 - t.2.2 * p.2.1 = 0 /\ t.2.2 * p.1 - t.1 * p.2.2 = 0 /\ t.1 * p.2.1 - t.2.1 * p.1 = 0) from fun z => hz ((eqP (crs t p) (0, 0, 0)).mp z))]; kd_p
      unfold zeC; kd_p
      have zc := zmy hz
      rw [show zah [.int (t.2.1 * p.2.2 - t.2.2 * p.2.1), .int (t.2.2 * p.1 - t.1 * p.2.2), .int (t.1 * p.2.1 - t.2.1 * p.1)] = _ from zv3 (bt.crs bp) zc (by decide)]; kd_p
      exact ⟨_, rfl, zbk zc, ((bt.crs bp).low zc).mono (by decide)⟩
theorem zr6 {ps : List P3} {n : Nat} (h : Pts n ps) (hn : n <= 1000) (h1 : 1 <= ps.length) (h12 : ps.length <= 12) (hl : ps.length ≠ 5) : zat [.lst (ps.map ptD), .int 5] = .err (.exc "NoBow" []) := by
 have fl := zfV h hn h1 h12
 rw [zbq]; unfold zaY; kd_p
 rw [fl]
 cases decide (((zgs (ps.map key)).length : Int) = (ps.length : Int)) with
 | false => kd_p
 | true =>
  kd_p
  rw [xad, decide_eq_false (by omega)]; kd_p
theorem zv8 {ps : List P3} {x : P3} {o : D} (h : Pts 24 ps) (h5 : ps.length = 5) (nx : Nrm x) (bx : BP 320 x) (ho : zas [o] = .ok (.bl false)) {v : Nat} (hv : v < 7) :
  ∃ w, gIx (.lst [.lst ((ps.map ptD).take 4), .lst (ps.map ptD ++ [ptD x]), .tup (ps.map ptD), .non, .lst [], .lst ((ps.map ptD).take 4 ++ [o]), .lst ([o] ++ (ps.map ptD).drop 1)]) (.int (v : Int)) = .ok w /\ ∀ p, zcj [w, p] = .err (.exc "NoBow" []) := by
 have tk : Pts 24 (ps.take 4) := ⟨fun p hp => h.nrm p (xby hp), fun p hp => h.bd p (xby hp)⟩
 have dr : Pts 24 (ps.drop 1) := ⟨fun p hp => h.nrm p (xc9 hp), fun p hp => h.bd p (xc9 hp)⟩
 have lt : (ps.take 4).length = 4 := by rw [xa5]; omega
 have ld : (ps.drop 1).length = 4 := by rw [xbq]; omega
 match v, hv with
 | 0, _ =>
  refine ⟨_, rfl, fun p => zc6 ?_⟩
  rw [<- xcf]
  exact zr6 tk (by decide) (by omega) (by omega) (by omega)
 | 1, _ =>
  refine ⟨_, rfl, fun p => zc6 ?_⟩
  rw [show ps.map ptD ++ [ptD x] = (ps ++ [x]).map ptD by simp]
  exact zr6 (n := 320) (Pts.snoc ⟨h.nrm, fun p hp => (h.bd p hp).mono (by decide)⟩ nx bx) (by decide) (by simp) (by simp; omega) (by simp; omega)
 | 2, _ => exact ⟨_, rfl, fun p => zc6 (zei (Lk77.floor_o (.inl ⟨_, rfl⟩)) _)⟩
 | 3, _ => exact ⟨_, rfl, fun p => zc6 (zei (Lk77.floor_o (.inr (.inl rfl))) _)⟩
 | 4, _ => exact ⟨_, rfl, fun p => zc6 (zei (Lk77.floor_o (.inr (.inr rfl))) _)⟩
 | 5, _ =>
  refine ⟨_, rfl, fun p => zc6 (zei (Lk77.floor_w tk ho (by omega) (.inl ?_)) _)⟩
  rw [<- xcf]
 | 6, _ =>
  refine ⟨_, rfl, fun p => zc6 (zei (Lk77.floor_w dr ho (by omega) (.inr ?_)) _)⟩
  rw [<- List.map_drop]; rfl
theorem ztF (ns : D) (n : Int) (x2 x3 x4 x5 x6 x7 x8 : Option D) : ∃ σ', (zb2 [some ns, some (.int n), x2, x3, x4, x5, x6, x7, x8] = .ok (.nx σ') \/ zb2 [some ns, some (.int n), x2, x3, x4, x5, x6, x7, x8] = .ok (.ct σ')) /\ ∃ y1 y2 y3 y4 y5 y6 y7 y8, σ' = [some ns, y1, y2, y3, y4, y5, y6, y7, y8] := by
 obtain ⟨ds, eds, lds, dd⟩ := zmU n 50 (by decide)
 obtain ⟨m, em, dm, bm⟩ := zpj (ds := ds.take 10) (fun d hd => dd d (xby hd)) (by rw [xa5]; omega)
 obtain ⟨cs, ec, pc, lc⟩ := zqF (ds := (ds.drop 10).take 12) (m := m) (by rw [xa5, xbq]; omega) bm dm
 unfold zb2; kd_p
 rw [show zaO [.int n, .int 50] = _ from eds]; kd_p
 unfold zf7; kd_p
 rw [Lk42.eSl_to _ _ _ (ds.map .int) 10 rfl rfl, <- xcf]; kd_p
 rw [em]; kd_p
 unfold zf6; kd_p
 rw [ziG _ _ _ _ (ds.map .int) 10 22 rfl rfl rfl (by rw [xad]; omega) (by decide), ziH]; kd_p
 rw [ec]; kd_p
 unfold zf5; kd_p
 rw [Lk42.eSl_to _ _ _ (cs.map ptD) 5 rfl rfl, <- xcf]; kd_p
 have zbR : ∀ fs : List P3, Pts 24 fs -> fs.length = 5 -> ∃ σ', (zc5 [some ns, some (.int n), some (.lst (ds.map .int)), some (zel m), some (.lst (cs.map ptD)), some (.lst (fs.map ptD)), x6, x7, x8] = .ok (.nx σ') \/ zc5 [some ns, some (.int n), some (.lst (ds.map .int)), some (zel m), some (.lst (cs.map ptD)), some (.lst (fs.map ptD)), x6, x7, x8] = .ok (.ct σ')) /\ ∃ y1 y2 y3 y4 y5 y6 y7 y8, σ' = [some ns, y1, y2, y3, y4, y5, y6, y7, y8] := by
  intro fs pf lf
  obtain ⟨a, b, c, d, e, rfl⟩ := zxF lf
  obtain ⟨p, ep, np, bp⟩ := zqN (ds := (ds.drop 24).take 6) (fun d hd => dd d (xc9 (xby hd))) (by rw [xa5, xbq]; omega) pc lc pf
  unfold zc5; kd_p
  rw [ziG _ _ _ _ (ds.map .int) 24 30 rfl rfl rfl (by rw [xad]; omega) (by decide), ziH, ztE]; kd_p
  rw [show zb1 [.lst (((ds.drop 24).take (30 - 24)).map .int), .lst [ptD a, ptD b, ptD c, ptD d, ptD e], .lst (cs.map ptD)] = _ from ep]; kd_p
  obtain ⟨o, eo, ho⟩ := Lk77.odd_ok (dg ds 48)
  obtain ⟨v, hv⟩ : ∃ v : Nat, dg ds 22 % 7 = (v : Int) := ⟨(dg ds 22 % 7).toNat, by omega⟩
  obtain ⟨w, ew, hw⟩ := zv8 (v := v) pf lf np bp ho (by omega)
  rw [ztE] at ew
  unfold zf3; kd_p
  rw [Lk77.lstK_7]; kd_p
  rw [show gIx (.lst (ds.map .int)) (.int 48) = _ from ixd (k := 48) (by omega)]; kd_p
  rw [zaw _ _ (by decide)]; kd_p
  rw [eo]; kd_p
  unfold zf2; kd_p
  rw [Lk42.eSl_to _ _ _ [ptD a, ptD b, ptD c, ptD d, ptD e] 4 rfl rfl, zqE _ _ _ [ptD a, ptD b, ptD c, ptD d, ptD e] 1 rfl rfl]; kd_p
  rw [Lk42.gAdd_ll (by simp), Lk42.gAdd_ll (by simp), Lk42.gAdd_ll (by simp), show zjt [.lst [ptD a, ptD b, ptD c, ptD d, ptD e]] = .ok (.tup [ptD a, ptD b, ptD c, ptD d, ptD e]) from rfl]; kd_p
  rw [Lk77.lstK_7]; kd_p
  rw [show gIx (.lst (ds.map .int)) (.int 22) = _ from ixd (k := 22) (by omega)]; kd_p
  rw [zaw _ _ (by decide), hv]; kd_p
  rw [ew]; kd_p
  unfold zf1; kd_p
  rw [zqM pf np bp]; kd_p
  rw [zr5 (hw _)]; kd_p
  exact ⟨_, .inl rfl, _, _, _, _, _, _, _, _, rfl⟩
 unfold zf4; kd_p
 rw [show gIx (.lst (ds.map .int)) (.int 23) = _ from ixd (k := 23) (by omega)]; kd_p
 rw [zaw _ _ (by decide)]; kd_p
 by_cases hz : dg ds 23 % 4 = 1
 ·rw [decide_eq_true hz]; kd_p
  rw [show zhs [.int 5] = .ok ((rg 0 5).map fun k : Nat => D.int (k : Int)) from zfC 5 (by decide)]
  obtain ⟨qs, eq, lq, pq⟩ := zxC (ds := (rg 0 5).map fun k : Nat => D.int (k : Int)) (e := zaq zaB (zaa (eSl (zae 3) (zbT (eOp zcJ (eC (.int 30)) (eOp za8 (eC (.int 4)) (zae 0)))) (zbT (eOp zcJ (eC (.int 34)) (eOp za8 (eC (.int 4)) (zae 0))))) zaj)) (σ := [some ns, some (.int n), some (.lst (ds.map .int)), some (zel m), some (.lst (cs.map ptD)), some (.lst ((cs.take 5).map ptD)), x6, x7, x8]) (fun p => Nrm p /\ BP 24 p) (by simp [rg]) (fun d hd => by
   obtain ⟨k, hk, rfl⟩ := xbf.mp hd
   have hk := (zcH.mp hk).2
   obtain ⟨p, ep, np, bp⟩ := zmf (ds := (ds.drop (30 + 4 * k)).take 4) (by rw [xa5, xbq]; omega)
   have bk : zhu (k : Int) = true := zal (n := 4) (B.of (k := 6) (by omega)) (by decide)
   refine ⟨p, ?_, np, bp⟩
   rw [zgU, zgV, ziG _ _ _ _ (ds.map .int) (30 + 4 * k) (34 + 4 * k) rfl (by kd_p; rw [zag 4 _ (by decide) bk]; kd_p; rw [show (30 : Int) + 4 * (k : Int) = ((30 + 4 * k : Nat) : Int) by omega]) (by kd_p; rw [zag 4 _ (by decide) bk]; kd_p; rw [show (34 : Int) + 4 * (k : Int) = ((34 + 4 * k : Nat) : Int) by omega]) (by rw [xad]; omega) (by omega), ziH, show 34 + 4 * k - (30 + 4 * k) = 4 by omega]; kd_p
   exact ep)
  have lq : qs.length = 5 := by rw [lq]; rfl
  rw [eq]; kd_p
  exact zbR qs ⟨fun p hp => (pq p hp).1, fun p hp => (pq p hp).2⟩ lq
 ·rw [decide_eq_false hz]; kd_p
  exact zbR (cs.take 5) (Lk77.pts_take pc 5) (by rw [xa5]; omega)
theorem law_ok (ns : List Int) (hl : ns.length <= 63) : zfy [.lst (ns.map .int)] = .ok (.bl true) := by
 rw [zj7]; unfold zfx; kd_p
 rw [Lk42.eSl_to _ _ _ ([.int 0] ++ ns.map .int) 16 (by kd_p; exact Lk42.gAdd_ll (by simp; omega)) rfl]; kd_p
 rw [show ([D.int 0] ++ ns.map D.int).take 16 = (([0] ++ ns).take 16).map D.int by rw [xcf, xb2]; rfl]
 have turn : ∀ d ∈ (([0] ++ ns).take 16).map D.int, ∀ σ, (∃ x1 x2 x3 x4 x5 x6 x7 x8, σ = [some (.lst (ns.map .int)), x1, x2, x3, x4, x5, x6, x7, x8]) -> ∃ σ', (zb2 (σ.set 1 (some d)) = .ok (.nx σ') \/ zb2 (σ.set 1 (some d)) = .ok (.ct σ')) /\ ∃ x1 x2 x3 x4 x5 x6 x7 x8, σ' = [some (.lst (ns.map .int)), x1, x2, x3, x4, x5, x6, x7, x8] := by
  rintro d hd σ ⟨x1, x2, x3, x4, x5, x6, x7, x8, rfl⟩
  obtain ⟨n, _, rfl⟩ := xbf.mp hd
  exact ztF _ n _ _ _ _ _ _ _
 obtain ⟨σ', e, x1, x2, x3, x4, x5, x6, x7, x8, rfl⟩ := zl2 (i := 1) (fb := zb2) _ _ turn [some (.lst (ns.map .int)), none, none, none, none, none, none, none, none] ⟨_, _, _, _, _, _, _, _, rfl⟩
 rw [e]; kd_p
 unfold zhm; kd_p
end Lk78
end
section
namespace Kx
open L2 DL Mir
local macro_rules | `(tactic| walk_at "o3") => `(tactic| (first | exact Or.inl rfl | exact Or.inr (Or.inl rfl) | exact Or.inr (Or.inr rfl)))
local macro_rules | `(tactic| walk_at "o2") => `(tactic| (first | exact Or.inl rfl | exact Or.inr rfl))
local macro_rules | `(tactic| walk_at "o4") => `(tactic| (first | exact .inl rfl | exact .inr rfl | assumption))
local macro_rules | `(tactic| walk_at "C") => `(tactic| first | assumption | exact XC.lc (by assumption) _ _ _ _ _ _)
local macro_rules | `(tactic| walk_at "H") => `(tactic| first | assumption | exact XC.calm (by walk_at "C") | rfl)
local macro_rules | `(tactic| walk_at "F") => `(tactic| first | exact zn8 | exact zqe | exact zvg | exact zvh | exact zvl | exact zvm | exact zxg (by walk_at "C") | exact zvk (by walk_at "C") | exact zxq (by walk_at "C") | exact zvR (by walk_at "C"))
local macro_rules | `(tactic| walk_at "E") => `(tactic| first | ((with_reducible refine @zuM _ _ _ _ _ ?_ ?_ ?_ ?_); rfl; (first | exact Or.inl rfl | exact Or.inr (Or.inl rfl) | exact Or.inr (Or.inr rfl)); decide; decide) | ((with_reducible refine @zay _ _ _ _ _ _ ?_ ?_ ?_); walk_at "E"; walk_at "E"; rfl) | ((with_reducible refine @zeY _ _ _ _ _)) | ((with_reducible refine @zbE _ _)) | ((with_reducible refine @zp8 _ _ _ _ _ _ _ ?_ ?_ ?_); walk_at "E"; walk_at "E"; (intro _ _ ; rfl)) | ((with_reducible refine @znW _ _ _ _ _ _ _ _ _ _ (by walk_at "C") ?_ ?_ ?_ ?_ ?_ ?_); walk_at "H"; walk_at "E"; rfl; decide; rfl; rfl) | ((with_reducible refine @zvc _ _ _ _ _ _ _ ?_ ?_); walk_at "E"; walk_at "E") | ((with_reducible refine @zdZ _ _ _ _ _ _ _ _ _ ?_ ?_ ?_ ?_); walk_at "F"; walk_at "E"; walk_at "E"; (first | exact za3 _ (by decide) (by decide) | rfl)) | ((with_reducible refine @zva _ _ _ _ _ _ _ ?_ ?_); walk_at "E"; walk_at "E") | ((with_reducible refine @zvd _ _ _ _ _ _ _ ?_ ?_); walk_at "E"; walk_at "E") | ((with_reducible refine @zuR _ _ _ _ _ ?_); walk_at "E") | ((with_reducible refine @zuQ _ _ _ _ _ _ ?_); walk_at "E") | ((with_reducible refine @zw6 _ _ _ _ _)) | ((with_reducible refine @DF.val _ _ _ _ ?_); walk_at "E") | ((with_reducible refine @zvb _ _ _ _ _ _ _ ?_ ?_); walk_at "E"; walk_at "E") | ((with_reducible refine @zs2 _ _ _ _ ?_); walk_at "E") | ((with_reducible refine @zuV _ _ _ _ _ ?_); walk_at "E") | ((with_reducible refine @znZ _ _ _ _ _ _ _ ?_ ?_ ?_ ?_); walk_at "H"; walk_at "E"; rfl; rfl) | ((with_reducible refine @zvp _ _ _ _ _ _ _ ?_ ?_ ?_ ?_ ?_); walk_at "H"; walk_at "E"; rfl; rfl; rfl) | ((with_reducible refine @zxk _ _ _ _ _ _ _ _ _ _ ?_ ?_ ?_); walk_at "E"; walk_at "E"; walk_at "E") | ((with_reducible refine @zn9 _ _ _ _ _ _ _ _ _ ?_ ?_ ?_ ?_); walk_at "F"; walk_at "E"; walk_at "E"; (first | exact za3 _ (by decide) (by decide) | rfl)) | ((with_reducible refine @zsX _ _ _ _ _ _ _ ?_ ?_); walk_at "E"; walk_at "E") | ((with_reducible refine @zk6 _ _ _ _ _ ?_); walk_at "E") | ((with_reducible refine @zdX _ _ _ _ _ ?_); walk_at "E") | ((with_reducible refine @DW.dt _ _ _ _ ?_); walk_at "E") | ((with_reducible refine @zhr _ _ _ _ _ _ _ _ ?_ ?_); walk_at "E"; walk_at "E") | ((with_reducible refine @zs1 _ _)) | ((with_reducible refine @zvf _ _ _ _ _ ?_); walk_at "E") | ((with_reducible refine @zvr _ _ _ _ _ _ _ ?_ ?_ ?_ ?_ ?_); walk_at "H"; walk_at "E"; rfl; rfl; rfl) | ((with_reducible refine @znO _ _ _ _ _)) | ((with_reducible refine @zkF _ _ _ _ _ _ _ ?_ ?_ ?_ ?_ ?_); walk_at "H"; walk_at "E"; rfl; rfl; rfl) | ((with_reducible refine @zq6 _ _ _ _ _ (by assumption) ?_ ?_); rfl; decide) | ((with_reducible refine @zve _ _ _ _ _ _ _ ?_ ?_); walk_at "E"; walk_at "E") | ((with_reducible refine @znR _ _ _ _ _ _ _ _ ?_ ?_); walk_at "E"; walk_at "E") | ((with_reducible refine @de_k _ _ _ _ _ ?_ ?_ ?_); walk_at "H"; rfl; decide) | ((with_reducible refine @zs0 _ _ _ _ _ _ _ ?_ ?_ ?_ ?_ ?_); walk_at "H"; walk_at "E"; rfl; rfl; rfl) | ((with_reducible refine @zq5 _ _ _ _)) | ((with_reducible refine @zkq _ _ _ _ _ ?_); walk_at "E") | ((with_reducible refine @zhU _ _ _ _ _ _ _ _ ?_ ?_); walk_at "E"; walk_at "E") | ((with_reducible refine @znT _ _ _ _ _ ?_); walk_at "E") | ((with_reducible refine @zvt _ _ _ _ _ _ _ ?_ ?_ ?_ ?_ ?_ ?_); walk_at "H"; walk_at "H"; walk_at "E"; rfl; rfl; rfl) | ((with_reducible refine @zmJ _ _ _ (by walk_at "C") ?_ ?_ _ _ _ _ _ _ ?_ ?_ ?_ ?_ ?_ ?_ ?_); walk_at "H"; walk_at "H"; walk_at "E"; rfl; rfl; rfl; rfl; rfl; rfl) | ((with_reducible refine @ztl _ _ _ _ _ _ _ _ _ _ ?_ ?_ ?_ ?_ ?_); walk_at "H"; walk_at "E"; rfl; rfl; rfl) | ((with_reducible refine @ziE _ _ _ _ _ _ _ _ _ ?_ ?_ ?_ ?_); walk_at "H"; walk_at "E"; rfl; rfl) | ((with_reducible refine @zxx _ _ _ _ _ _ ?_ ?_ ?_); walk_at "H"; walk_at "E"; rfl) | ((with_reducible refine @zw7 _ _ _ _ _ _ _ _ ?_ ?_); walk_at "E"; walk_at "E") | ((with_reducible refine @zle _ _ _ _ _ _ _ ?_ ?_ ?_ ?_ ?_); walk_at "H"; walk_at "E"; rfl; rfl; rfl) | ((with_reducible refine @zeZ _ _ _ _ ?_ ?_); walk_at "E"; (intro _ ; rfl)) | ((with_reducible refine @znS _ _ _ _ _ _ ?_); walk_at "E") | ((refine @zeY _ _ _ _ _)) | ((refine @zdZ _ _ _ _ _ _ _ _ _ ?_ ?_ ?_ ?_); walk_at "F"; walk_at "E"; walk_at "E"; (first | exact za3 _ (by decide) (by decide) | rfl)) | ((refine @zk6 _ _ _ _ _ ?_); walk_at "E") | ((refine @zdX _ _ _ _ _ ?_); walk_at "E") | ((refine @DW.dt _ _ _ _ ?_); walk_at "E") | ((refine @zhr _ _ _ _ _ _ _ _ ?_ ?_); walk_at "E"; walk_at "E") | ((refine @znO _ _ _ _ _)) | ((refine @zq6 _ _ _ _ _ (by assumption) ?_ ?_); rfl; decide) | ((refine @znR _ _ _ _ _ _ _ _ ?_ ?_); walk_at "E"; walk_at "E") | ((refine @zkq _ _ _ _ _ ?_); walk_at "E") | ((refine @zeZ _ _ _ _ ?_ ?_); walk_at "E"; (intro _ ; rfl)))
local macro_rules | `(tactic| walk_at "GS") => `(tactic| first | exact @zse _ | ((refine @zpB _ _ _ _ _ ?_ ?_ ?_); ((refine @zna _ _ _ _ ?_ ?_ ?_ ?_); assumption; rfl; (first | exact Or.inl rfl | exact Or.inr rfl); (first | exact .inl rfl | exact .inr rfl | assumption)); walk_at "GS"; rfl))
local macro_rules | `(tactic| walk_at "G") => `(tactic| first | ((with_reducible refine @zsP _ _ _ _ ?_ ?_ ?_ ?_); assumption; rfl; (first | exact Or.inl rfl | exact Or.inr rfl); (first | exact .inl rfl | exact .inr rfl | assumption)) | ((with_reducible refine @zuT _ _ _ _ _ _ ?_ ?_ ?_ ?_ ?_); walk_at "H"; walk_at "GS"; rfl; rfl; rfl))
local macro_rules | `(tactic| kst_p) => `(tactic| exact @zks _ _ _ _ _ _ _ _ _ (by assumption) (by walk_at "E") (by rfl) (by walk_at "o2") (by rfl) (by walk_at "o4"))
local macro_rules | `(tactic| walk_at "s5") => `(tactic| exact @zuY _ _ _ _ _ _ _ _ _ _ _ (by assumption) (by walk_at "E") (by rfl) (by rfl) (by walk_at "o2") (by rfl) (by walk_at "o4"))
local macro_rules | `(tactic| walk_at "s7") => `(tactic| exact @zra _ _ _ _ _ _ _ _ _ _ _ _ (by walk_at "E") (by rfl) (by rfl) (by walk_at "o3") (by decide) (by decide) (by rfl) (by rfl) (by rfl) (by rfl) (by rfl) (by rfl))
local macro_rules | `(tactic| walk_at "s1") => `(tactic| exact @zuX _ _ _ _ _ _ _ _ _ _ (by assumption) (by walk_at "E") (by rfl) (by rfl) (by walk_at "o2") (by rfl) (by walk_at "o4"))
local macro_rules | `(tactic| walk_at "s3") => `(tactic| exact @ze0 _ _ _ _ _ _ _ _ (by walk_at "E"))
local macro_rules | `(tactic| walk_at "s9") => `(tactic| exact @zu1 _ _ _ _ _ _ _ _ _ _ (by walk_at "E") (by walk_at "G") (by rfl) (by rfl) (by rfl) (by rfl))
local macro_rules | `(tactic| walk_at "s4") => `(tactic| exact @zsQ _ _ _ _ _ _ _ (by walk_at "E") (by rfl))
local macro_rules | `(tactic| walk_at "s2") => `(tactic| exact @zsR _ _ _ _ _ _ _ _ _ _ (by assumption) (by walk_at "E") (by rfl) (by rfl) (by walk_at "o2") (by rfl) (by walk_at "o4"))
local macro_rules | `(tactic| kd_p1) => `(tactic| exact (@zap _ _ _ _ _ _ _ (by walk_at "s3")))
local macro_rules | `(tactic| kpf_c) => `(tactic| exact (@zcw _ _ _ _ _ _ _ _ _ _ _ _ (by walk_at "E") (by kd_p1) (@zaX _ _ _ _)))
set_option maxHeartbeats 4000000
variable {P : Program} {w : World} {K : xFg} {mg : Str -> Option Value} {base : Heap} {f : Addr} {fd : FuncData} {k : Nat}
local macro_rules | `(tactic| kst_p1) => `(tactic| exact ⟨rfl, rfl, rfl, by decide +kernel, rfl, by decide +kernel, by decide +kernel⟩)
local macro_rules | `(tactic| walk_at "b0") => `(tactic| exact fun _ _ _ _ _ _ us hl => match us, hl with | [], _ => rfl)
local macro_rules | `(tactic| kcj_m) => `(tactic| exact fun _ _ _ _ _ _ us hl => match us, hl with | [_], _ => rfl)
local macro_rules | `(tactic| kst_p2) => `(tactic| exact fun _ _ _ _ _ _ us hl => match us, hl with | [_, _], _ => rfl)
local macro_rules | `(tactic| walk_at "b3") => `(tactic| exact fun _ _ _ _ _ _ us hl => match us, hl with | [_, _, _], _ => rfl)
local macro_rules | `(tactic| walk_at "b4") => `(tactic| exact fun _ _ _ _ _ _ us hl => match us, hl with | [_, _, _, _], _ => rfl)
local macro_rules | `(tactic| walk_at "b5") => `(tactic| exact fun _ _ _ _ _ _ us hl => match us, hl with | [_, _, _, _, _], _ => rfl)
def top (i : Nat) : Stmt := PySem.Challenge.pw_chalkline_k78_met_again.main.body.getD i (.Pass ⟨0, 0, 0, 0⟩)
abbrev zcI : Stmt := znr (top 3) 0
theorem zmW : zdk ["self", "at"] ["self", "at"] (zai zcI) := ⟨rfl, rfl, rfl, by decide +kernel, rfl, by decide +kernel, by decide +kernel⟩
abbrev zeQ : Stmt := znr (top 2) 0
theorem zqO : zdk ["self", "at"] ["self", "at"] (zai zeQ) := ⟨rfl, rfl, rfl, by decide +kernel, rfl, by decide +kernel, by decide +kernel⟩
theorem zho (F : FA K mg "_law_numbers" (top 36) ["_law_cell", "_law_many"] f fd) (q1 : mg "max" = none) (q0 : mg "range" = none) : zaC P w K mg base (k + 1) "_law_numbers" zaO := F.ok (own' := []) (N := ["_law_cell", "_law_many", "_law_number", "_law_left", "_law_found", "_law_k", "_law_one"]) (by kst_p1) rfl rfl fun _ _ _ _ _ _ C L nd => (@zad _ _ _ _ _ _ _ _ _ _ (by kst_p) (@zad _ _ _ _ _ _ _ _ _ _ (by kst_p) (@zad _ _ _ _ _ _ _ _ _ _ (by walk_at "s5") (@zad _ _ _ _ _ _ _ _ _ _ (@zcP _ _ _ _ _ _ _ _ _ _ _ _ L C.calm (by walk_at "E") (by walk_at "G") (@zap _ _ _ _ _ _ _ (@zcw _ _ _ _ _ _ _ _ _ _ _ _ (@DW.dt _ _ _ _ (@znR _ _ _ _ _ _ _ _ (@zdZ _ _ _ _ _ _ _ _ _ (@zvh _) (by walk_at "E") (by walk_at "E") (by first | exact za3 _ (by decide) (by decide) | rfl)) (@zkq _ _ _ _ _ (@zdZ _ _ _ _ _ _ _ _ _ (@zvg _) (by walk_at "E") (@zeY _ _ _ _ _) (by first | exact za3 _ (by decide) (by decide) | rfl))))) (@zad _ _ _ _ _ _ _ _ _ _ (by walk_at "s7") (@zap _ _ _ _ _ _ _ (by walk_at "s1"))) (@zad _ _ _ _ _ _ _ _ _ _ (by walk_at "s1") (@zap _ _ _ _ _ _ _ (by walk_at "s7"))))) (by rfl) (by intro _ ; rfl)) (@zgN _ _ _ _ _ _ _ _ 4 (by rfl) (by rfl) (by kd_p1))))))
theorem zkL (F : FA K mg "_law_det" (top 41) ["_law_one", "_law_other", "_law_third"] f fd) : zaC P w K mg base (k + 1) "_law_det" zaP := F.ok (own' := []) (N := ["_law_one", "_law_other", "_law_third", "_law_a", "_law_b", "_law_c", "_law_d", "_law_e", "_law_f", "_law_first", "_law_second"]) (by kst_p1) rfl rfl fun _ _ _ _ _ _ C L nd => (@zad _ _ _ _ _ _ _ _ _ _ (by walk_at "s9") (@zad _ _ _ _ _ _ _ _ _ _ (by walk_at "s9") (@zad _ _ _ _ _ _ _ _ _ _ (by kst_p) (@zad _ _ _ _ _ _ _ _ _ _ (by kst_p) (by kd_p1)))))
theorem zhE (F : FA K mg "_law_change" (top 43) ["_law_some"] f fd) (q1 : mg "range" = none) (q0 : zaC P w K mg base k "_law_det" zaP) : zaC P w K mg base (k + 1) "_law_change" zbG := F.ok (own' := []) (N := ["_law_some", "_law_most", "_law_rows", "_law_j", "_law_row"]) (by kst_p1) rfl rfl fun _ _ _ _ _ _ C L nd => (@zad _ _ _ _ _ _ _ _ _ _ (by kst_p) (@zad _ _ _ _ _ _ _ _ _ _ (by walk_at "s5") (@zad _ _ _ _ _ _ _ _ _ _ (@zcP _ _ _ _ _ _ _ _ _ _ _ _ L C.calm (by walk_at "E") (by walk_at "G") (@zad _ _ _ _ _ _ _ _ _ _ (@ze1 _ _ _ _ _ _ _ _ _ _ _ _ _ _ _ _ _ _ _ _ 4 C.calm nd (LC.of (k := 1) (NY := ["_law_k", "_law_some", "_law_most", "_law_rows", "_law_j", "_law_row"]) (N := ["_law_some", "_law_most", "_law_rows", "_law_j", "_law_row"]) (sc0 := (zai (top 43))) rfl rfl (by decide +kernel)) rfl (by walk_at "E") (fun _ _ _ _ nd2 => ⟨(by walk_at "G"), (@zc7 _ _), (by walk_at "E")⟩) (by rfl) (by rfl) (by rfl) (by rfl) (by intro _ ; rfl)) (@zap _ _ _ _ _ _ _ (@zra _ _ _ _ _ _ _ _ 2 _ _ _ (@DF.val _ _ _ _ (@zht _ _ _ _ _ _ _ _ _ _ _ _ _ _ _ C.calm (LC.of (k := 1) (NY := ["_law_one", "_law_some", "_law_most", "_law_rows", "_law_j", "_law_row"]) (N := ["_law_some", "_law_most", "_law_rows", "_law_j", "_law_row"]) (sc0 := (zai (top 43))) rfl rfl (by decide +kernel)) rfl (by walk_at "E") (fun _ _ _ _ nd2 => ⟨(by walk_at "G"), (@zc7 _ _), (by walk_at "E")⟩) (by intro _ ; rfl))) (by rfl) (by rfl) (by walk_at "o3") (by decide) (by decide) (by rfl) (by rfl) (by rfl) (by rfl) (by rfl) (by rfl)))) (by rfl) (by intro _ ; rfl)) (@zgN _ _ _ _ _ _ _ _ 2 (by rfl) (by rfl) (@zad _ _ _ _ _ _ _ _ _ _ (by kpf_c) (by kd_p1))))))
theorem zhF (F : FA K mg "_law_lowest" (top 38) ["_law_x", "_law_y", "_law_z"] f fd) (q0 : mg "abs" = none) : zaC P w K mg base (k + 1) "_law_lowest" zah := F.ok (own' := []) (N := ["_law_x", "_law_y", "_law_z", "_law_one", "_law_other", "_law_last"]) (by kst_p1) rfl rfl fun _ _ _ _ _ _ C L nd => (@zad _ _ _ _ _ _ _ _ _ _ (by kst_p) (@zad _ _ _ _ _ _ _ _ _ _ (@zcP _ _ _ _ _ _ _ _ _ _ _ _ L C.calm (by walk_at "E") (by walk_at "G") (@zap _ _ _ _ _ _ _ (@zk9 _ _ _ _ _ _ _ _ _ L (by walk_at "E") (@zap _ _ _ _ _ _ _ (@zu2 _ _ _ _ _ 3 4 _ _ _ _ _ _ _ _ _ _ _ C.calm nd (by walk_at "E") (by decide) (by rfl) (by rfl) (by rfl) (by rfl) (by rfl) (by rfl) (by rfl))))) (by rfl) (by intro _ ; rfl)) (@zad _ _ _ _ _ _ _ _ _ _ (@zks _ _ _ _ _ _ _ _ 5 nd (@zp8 _ _ _ _ _ _ _ (@DF.val _ _ _ _ (@zht _ _ _ _ _ _ _ _ _ _ _ _ _ _ _ C.calm (LC.of (k := 1) (NY := ["_law_number", "_law_x", "_law_y", "_law_z", "_law_one", "_law_other", "_law_last"]) (N := ["_law_x", "_law_y", "_law_z", "_law_one", "_law_other", "_law_last"]) (sc0 := (zai (top 38))) rfl rfl (by decide +kernel)) rfl (by walk_at "E") (fun _ _ _ _ nd2 => ⟨(by walk_at "G"), (@zgM _ _ _ _ (by walk_at "E")), (by walk_at "E")⟩) (by intro _ ; rfl))) (by walk_at "E") (by intro _ _ ; rfl)) (by rfl) (by walk_at "o2") (by rfl) (by walk_at "o4")) (@zad _ _ _ _ _ _ _ _ _ _ (@zcw _ _ _ _ _ _ _ _ _ _ _ _ (@zdZ _ _ _ _ _ _ _ _ _ (@zn8 _) (by walk_at "E") (@zeY _ _ _ _ _) (by first | exact za3 _ (by decide) (by decide) | rfl)) (@zap _ _ _ _ _ _ _ (by kst_p)) (@zaX _ _ _ _)) (by kd_p1)))))
theorem zkM (F : FA K mg "_law_dot" (top 40) ["_law_one", "_law_other"] f fd) : zaC P w K mg base (k + 1) "_law_dot" za1 := F.ok (own' := []) (N := ["_law_one", "_law_other"]) (by kst_p1) rfl rfl fun _ _ _ _ _ _ C L nd => (by kd_p1)
theorem zkN (F : FA K mg "_law_led" (top 44) ["_law_rows", "_law_place_here"] f fd) (q0 : zaC P w K mg base k "_law_lowest" zah) (q1 : zaC P w K mg base k "_law_dot" za1) : zaC P w K mg base (k + 1) "_law_led" zbH := F.ok (own' := []) (N := ["_law_rows", "_law_place_here"]) (by kst_p1) rfl rfl fun _ _ _ _ _ _ C L nd => (by kd_p1)
theorem ziI (F : FA K mg "_law_curve" (top 45) ["_law_some", "_law_rows"] f fd) (q1 : mg "range" = none) (q2 : mg "len" = none) (q0 : zaC P w K mg base k "_law_led" zbH) : zaC P w K mg base (k + 1) "_law_curve" zcE := F.ok (own' := []) (N := ["_law_some", "_law_rows", "_law_found", "_law_k", "_law_t", "_law_s"]) (by kst_p1) rfl rfl fun _ _ _ _ _ _ C L nd => (@zad _ _ _ _ _ _ _ _ _ _ (by walk_at "s5") (@zad _ _ _ _ _ _ _ _ _ _ (@zcP _ _ _ _ _ _ _ _ _ _ _ _ L C.calm (by walk_at "E") (by walk_at "G") (@zad _ _ _ _ _ _ _ _ _ _ (by walk_at "s1") (@zad _ _ _ _ _ _ _ _ _ _ (by walk_at "s1") (@zad _ _ _ _ _ _ _ _ _ _ (@zcw _ _ _ _ _ _ _ _ _ _ _ _ (by walk_at "E") (@zap _ _ _ _ _ _ _ (by walk_at "s1")) (@zaX _ _ _ _)) (@zap _ _ _ _ _ _ _ (by walk_at "s7"))))) (by rfl) (by intro _ ; rfl)) (@zgN _ _ _ _ _ _ _ _ 2 (by rfl) (by rfl) (by kd_p1))))
theorem zgh (F : FA K mg "_law_touching" (top 47) ["_law_bow", "_law_place_here"] f fd) (q0 : zaC P w K mg base k "_law_lowest" zah) : zaC P w K mg base (k + 1) "_law_touching" zaI := F.ok (own' := []) (N := ["_law_bow", "_law_place_here", "_law_x", "_law_y", "_law_z", "_law_a", "_law_b"]) (by kst_p1) rfl rfl fun _ _ _ _ _ _ C L nd => (@zad _ _ _ _ _ _ _ _ _ _ (by walk_at "s9") (@zad _ _ _ _ _ _ _ _ _ _ (by kst_p) (@zad _ _ _ _ _ _ _ _ _ _ (by kst_p) (by kd_p1))))
theorem ziJ (F : FA K mg "_law_place" (top 39) ["_law_some"] f fd) (q0 : zaC P w K mg base k "_law_lowest" zah) : zaC P w K mg base (k + 1) "_law_place" zaB := F.ok (own' := []) (N := ["_law_some", "_law_most", "_law_x", "_law_y", "_law_z"]) (by kst_p1) rfl rfl fun _ _ _ _ _ _ C L nd => (@zad _ _ _ _ _ _ _ _ _ _ (by kst_p) (@zad _ _ _ _ _ _ _ _ _ _ (by kst_p) (@zad _ _ _ _ _ _ _ _ _ _ (by kst_p) (@zad _ _ _ _ _ _ _ _ _ _ (by kst_p) (@zad _ _ _ _ _ _ _ _ _ _ (@zcw _ _ _ _ _ _ _ _ _ _ _ _ (by walk_at "E") (@zap _ _ _ _ _ _ _ (by kst_p)) (@zaX _ _ _ _)) (by kd_p1))))))
theorem ziK (F : FA K mg "_law_lines" (top 46) ["_law_places"] f fd) (q1 : mg "range" = none) (q2 : mg "len" = none) (q0 : zaC P w K mg base k "_law_det" zaP) : zaC P w K mg base (k + 1) "_law_lines" zbC := F.ok (own' := []) (N := ["_law_places", "_law_i", "_law_j", "_law_k"]) (by kst_p1) rfl rfl fun _ _ _ _ _ _ C L nd => (@zad _ _ _ _ _ _ _ _ _ _ (@zcP _ _ _ _ _ _ _ _ _ _ _ _ L C.calm (by walk_at "E") (by walk_at "G") (@zap _ _ _ _ _ _ _ (@zcP _ _ _ _ _ _ _ _ _ _ _ _ L C.calm (by walk_at "E") (by walk_at "G") (@zap _ _ _ _ _ _ _ (@zcP _ _ _ _ _ _ _ _ _ _ _ _ L C.calm (by walk_at "E") (by walk_at "G") (@zap _ _ _ _ _ _ _ (by kpf_c)) (by rfl) (by intro _ ; rfl))) (by rfl) (by intro _ ; rfl))) (by rfl) (by intro _ ; rfl)) (by kd_p1))
theorem zmX (F : FA K mg "divisor" (top 10) ["one", "other"] f fd) (q0 : mg "abs" = none) : zaC P w K mg base (k + 1) "divisor" zbm := F.ok (own' := []) (N := ["one", "other", "rest"]) (by kst_p1) rfl rfl fun _ _ _ _ _ _ C L nd => (@zad _ _ _ _ _ _ _ _ _ _ (by kst_p) (@zad _ _ _ _ _ _ _ _ _ _ (by kst_p) (@zad _ _ _ _ _ _ _ _ _ _ (@zk9 _ _ _ _ _ _ _ _ _ L (by walk_at "E") (@zad _ _ _ _ _ _ _ _ _ _ (by kst_p) (@zad _ _ _ _ _ _ _ _ _ _ (by kst_p) (@zap _ _ _ _ _ _ _ (by kst_p))))) (by kd_p1))))
theorem zmY (F : FA K mg "in_form" (top 9) ["numbers"] f fd) (q0 : zaC P w K mg base k "divisor" zbm) : zaC P w K mg base (k + 1) "in_form" zca := F.ok (own' := []) (N := ["numbers", "part", "last"]) (by kst_p1) rfl rfl fun _ _ _ _ _ _ C L nd => (@zad _ _ _ _ _ _ _ _ _ _ (by kst_p) (@zad _ _ _ _ _ _ _ _ _ _ (@zks _ _ _ _ _ _ _ _ 2 nd (@zp8 _ _ _ _ _ _ _ (@DF.val _ _ _ _ (@zht _ _ _ _ _ _ _ _ _ _ _ _ _ _ _ C.calm (LC.of (k := 1) (NY := ["number", "numbers", "part", "last"]) (N := ["numbers", "part", "last"]) (sc0 := (zai (top 9))) rfl rfl (by decide +kernel)) rfl (by walk_at "E") (fun _ _ _ _ nd2 => ⟨(by walk_at "G"), (@zgM _ _ _ _ (by walk_at "E")), (by walk_at "E")⟩) (by intro _ ; rfl))) (by walk_at "E") (by intro _ _ ; rfl)) (by rfl) (by walk_at "o2") (by rfl) (by walk_at "o4")) (@zad _ _ _ _ _ _ _ _ _ _ (@zcw _ _ _ _ _ _ _ _ _ _ _ _ (@zdZ _ _ _ _ _ _ _ _ _ (@zn8 _) (by walk_at "E") (@zeY _ _ _ _ _) (by first | exact za3 _ (by decide) (by decide) | rfl)) (@zap _ _ _ _ _ _ _ (by kst_p)) (@zaX _ _ _ _)) (by kd_p1))))
theorem zqP (F : FA K mg "cross" (top 13) ["one", "other"] f fd) : zaC P w K mg base (k + 1) "cross" zfM := F.ok (own' := []) (N := ["one", "other", "x", "y", "z"]) (by kst_p1) rfl rfl fun _ _ _ _ _ _ C L nd => (@zad _ _ _ _ _ _ _ _ _ _ (by kst_p) (@zad _ _ _ _ _ _ _ _ _ _ (by kst_p) (@zad _ _ _ _ _ _ _ _ _ _ (by kst_p) (by kd_p1))))
theorem zhG (F : FA K mg "between_two" (top 16) ["one", "other"] f fd) (q0 : zaC P w K mg base k "in_form" zca) (q1 : zaC P w K mg base k "cross" zfM) : zaC P w K mg base (k + 1) "between_two" zaN := F.ok (own' := []) (N := ["one", "other"]) (by kst_p1) rfl rfl fun _ _ _ _ _ _ C L nd => (@zad _ _ _ _ _ _ _ _ _ _ (@zcw _ _ _ _ _ _ _ _ _ _ _ _ (by walk_at "E") (@zap _ _ _ _ _ _ _ (@zk7 _ _ _ _ _ _)) (@zaX _ _ _ _)) (by kd_p1))
theorem zmZ (F : FA K mg "through" (top 14) ["one", "other"] f fd) (q0 : zaC P w K mg base k "between_two" zaN) : zaC P w K mg base (k + 1) "through" zaH := F.ok (own' := []) (N := ["one", "other"]) (by kst_p1) rfl rfl fun _ _ _ _ _ _ C L nd => (by kd_p1)
theorem zv9 (F : FA K mg "dot" (top 12) ["one", "other"] f fd) : zaC P w K mg base (k + 1) "dot" zhd := F.ok (own' := []) (N := ["one", "other"]) (by kst_p1) rfl rfl fun _ _ _ _ _ _ C L nd => (by kd_p1)
theorem ztG (F : FA K mg "lies" (top 11) ["place", "line"] f fd) (q0 : zaC P w K mg base k "dot" zhd) : zaC P w K mg base (k + 1) "lies" zd3 := F.ok (own' := []) (N := ["place", "line"]) (by kst_p1) rfl rfl fun _ _ _ _ _ _ C L nd => (by kd_p1)
theorem zpp (F : FA K mg "on_one" (top 17) ["places"] f fd) (q2 : mg "len" = none) (q3 : mg "all" = none) (q0 : zaC P w K mg base k "through" zaH) (q1 : zaC P w K mg base k "lies" zd3) : zaC P w K mg base (k + 1) "on_one" zbA := F.ok (own' := []) (N := ["places", "others", "line"]) (by kst_p1) rfl rfl fun _ _ _ _ _ _ C L nd => (@zad _ _ _ _ _ _ _ _ _ _ (@ze1 _ _ _ _ _ _ _ _ _ _ _ _ _ _ _ _ _ _ _ _ 1 C.calm nd (LC.of (k := 1) (NY := ["place", "places", "others", "line"]) (N := ["places", "others", "line"]) (sc0 := (zai (top 17))) rfl rfl (by decide +kernel)) rfl (by walk_at "E") (fun _ _ _ _ nd2 => ⟨(by walk_at "G"), (@zgM _ _ _ _ (by walk_at "E")), (by walk_at "E")⟩) (by rfl) (by rfl) (by rfl) (by rfl) (by intro _ ; rfl)) (@zad _ _ _ _ _ _ _ _ _ _ (by kpf_c) (@zad _ _ _ _ _ _ _ _ _ _ (by kst_p) (@zap _ _ _ _ _ _ _ (@ze0 _ _ _ _ _ _ _ _ (@zoc _ _ _ _ _ _ _ C.calm q3 (@zay _ _ _ _ _ _ (@DF.val _ _ _ _ (@zht _ _ _ _ _ _ _ _ _ _ _ _ _ _ _ C.calm (LC.of (k := 1) (NY := ["place", "places", "others", "line"]) (N := ["places", "others", "line"]) (sc0 := (zai (top 17))) rfl rfl (by decide +kernel)) rfl (by walk_at "E") (fun _ _ _ _ nd2 => ⟨(by walk_at "G"), (@zc7 _ _), (by walk_at "E")⟩) (by intro _ ; rfl))) (@zbE _ _) (by rfl)) (by rfl) (by rfl) (by rfl)))))))
theorem zeR (F : FA K mg "has_three_on_one" (top 32) ["places"] f fd) (q1 : mg "range" = none) (q2 : mg "len" = none) (q0 : zaC P w K mg base k "on_one" zbA) : zaC P w K mg base (k + 1) "has_three_on_one" zaW := F.ok (own' := []) (N := ["places", "k", "j", "i"]) (by kst_p1) rfl rfl fun _ _ _ _ _ _ C L nd => (@zad _ _ _ _ _ _ _ _ _ _ (@zcP _ _ _ _ _ _ _ _ _ _ _ _ L C.calm (by walk_at "E") (by walk_at "G") (@zap _ _ _ _ _ _ _ (@zcP _ _ _ _ _ _ _ _ _ _ _ _ L C.calm (by walk_at "E") (by walk_at "G") (@zap _ _ _ _ _ _ _ (@zcP _ _ _ _ _ _ _ _ _ _ _ _ L C.calm (by walk_at "E") (by walk_at "G") (@zap _ _ _ _ _ _ _ (by kpf_c)) (by rfl) (by intro _ ; rfl))) (by rfl) (by intro _ ; rfl))) (by rfl) (by intro _ ; rfl)) (by kd_p1))
theorem zkO (F : FA K mg "is_whole" (top 6) ["thing"] f fd) (q0 : mg "isinstance" = none) (q2 : mg "int" = none) (q1 : mg "bool" = none) : zaC P w K mg base (k + 1) "is_whole" zaT := F.ok (own' := []) (N := ["thing"]) (by kst_p1) rfl rfl fun _ _ _ _ _ _ C L nd => (@zap _ _ _ _ _ _ _ (@ze0 _ _ _ _ _ _ _ _ (@zhU _ _ _ _ _ _ _ _ (@ze4 _ _ _ _ _ _ _ q0 (@zay _ _ _ _ _ _ (by walk_at "E") (@zay _ _ _ _ _ _ (@zgJ _ _ _ _ _ q2 zrc (by rfl) (by decide) (by decide)) (@zbE _ _) (by rfl)) (by rfl)) (by rfl) (by rfl) (by rfl)) (@znS _ _ _ _ _ _ (@znT _ _ _ _ _ (@ze4 _ _ _ _ _ _ _ q0 (@zay _ _ _ _ _ _ (by walk_at "E") (@zay _ _ _ _ _ _ (@zgJ _ _ _ _ _ q1 zoa (by rfl) (by decide) (by decide)) (@zbE _ _) (by rfl)) (by rfl)) (by rfl) (by rfl) (by rfl)))))))
theorem zhH (F : FA K mg "makes_place" (top 8) ["three"] f fd) (q1 : mg "all" = none) (q0 : zaC P w K mg base k "is_whole" zaT) : zaC P w K mg base (k + 1) "makes_place" zbo := F.ok (own' := []) (N := ["three"]) (by kst_p1) rfl rfl fun _ _ _ _ _ _ C L nd => (@zap _ _ _ _ _ _ _ (@ze0 _ _ _ _ _ _ _ _ (@zhU _ _ _ _ _ _ _ _ (@zoc _ _ _ _ _ _ _ C.calm q1 (@zay _ _ _ _ _ _ (@DF.val _ _ _ _ (@zht _ _ _ _ _ _ _ _ _ _ _ _ _ _ _ C.calm (LC.of (k := 1) (NY := ["thing", "three"]) (N := ["three"]) (sc0 := (zai (top 8))) rfl rfl (by decide +kernel)) rfl (by walk_at "E") (fun _ _ _ _ nd2 => ⟨(by walk_at "G"), (@zc7 _ _), (by walk_at "E")⟩) (by intro _ ; rfl))) (@zbE _ _) (by rfl)) (by rfl) (by rfl) (by rfl)) (by walk_at "E"))))
theorem zkP (F : FA K mg "is_place" (top 7) ["thing"] f fd) (q1 : mg "isinstance" = none) (q3 : mg "tuple" = none) (q4 : mg "len" = none) (q0 : zaC P w K mg base k "makes_place" zbo) (q2 : zaC P w K mg base k "in_form" zca) : zaC P w K mg base (k + 1) "is_place" zas := F.ok (own' := []) (N := ["thing"]) (by kst_p1) rfl rfl fun _ _ _ _ _ _ C L nd => (@zad _ _ _ _ _ _ _ _ _ _ (@zcw _ _ _ _ _ _ _ _ _ _ _ _ (@DW.dt _ _ _ _ (@zhr _ _ _ _ _ _ _ _ (@zdX _ _ _ _ _ (@zeZ _ _ _ _ (@ze4 _ _ _ _ _ _ _ q1 (@zay _ _ _ _ _ _ (by walk_at "E") (@zay _ _ _ _ _ _ (@zgJ _ _ _ _ _ q3 zgo (by rfl) (by decide) (by decide)) (@zbE _ _) (by rfl)) (by rfl)) (by rfl) (by rfl) (by rfl)) (by intro _ ; rfl))) (by walk_at "E"))) (by kd_p1) (@zaX _ _ _ _)) (@zad _ _ _ _ _ _ _ _ _ _ (by kpf_c) (by kd_p1)))
theorem zkQ (F : FA K mg "is_floor" (top 20) ["thing"] f fd) (q1 : mg "isinstance" = none) (q3 : mg "list" = none) (q4 : mg "len" = none) (q5 : mg "all" = none) (q6 : mg "set" = none) (q0 : ∃ u v, mg "MOST_PEGS" = some u /\ zbg v u /\ ∀ G, Rep K mg G zcy v) (q2 : zaC P w K mg base k "is_place" zas) : zaC P w K mg base (k + 1) "is_floor" zaE := F.ok (own' := []) (N := ["thing"]) (by kst_p1) rfl rfl fun _ _ _ _ _ _ C L nd => (@zad _ _ _ _ _ _ _ _ _ _ (@zcw _ _ _ _ _ _ _ _ _ _ _ _ (@DW.dt _ _ _ _ (@zhr _ _ _ _ _ _ _ _ (@zdX _ _ _ _ _ (@zeZ _ _ _ _ (@ze4 _ _ _ _ _ _ _ q1 (@zay _ _ _ _ _ _ (by walk_at "E") (@zay _ _ _ _ _ _ (@zgJ _ _ _ _ _ q3 zob (by rfl) (by decide) (by decide)) (@zbE _ _) (by rfl)) (by rfl)) (by rfl) (by rfl) (by rfl)) (by intro _ ; rfl))) (@zk6 _ _ _ _ _ (@zdX _ _ _ _ _ (@zjp _ _ _ _ _ _ _ _ _ _ _ _ _ (@zqe _) (@zqe _) (@zeY _ _ _ _ _) (by walk_at "E") (by walk_at "E") (by with_unfolding_all rfl)))))) (by kd_p1) (@zaX _ _ _ _)) (@zad _ _ _ _ _ _ _ _ _ _ (@zcw _ _ _ _ _ _ _ _ _ _ _ _ (@zdX _ _ _ _ _ (@zeZ _ _ _ _ (@zoc _ _ _ _ _ _ _ C.calm q5 (@zay _ _ _ _ _ _ (@DF.val _ _ _ _ (@zht _ _ _ _ _ _ _ _ _ _ _ _ _ _ _ C.calm (LC.of (k := 1) (NY := ["member", "thing"]) (N := ["thing"]) (sc0 := (zai (top 20))) rfl rfl (by decide +kernel)) rfl (by walk_at "E") (fun _ _ _ _ nd2 => ⟨(by walk_at "G"), (@zc7 _ _), (by walk_at "E")⟩) (by intro _ ; rfl))) (@zbE _ _) (by rfl)) (by rfl) (by rfl) (by rfl)) (by intro _ ; rfl))) (by kd_p1) (@zaX _ _ _ _)) (by kd_p1)))
theorem zhp (F : FA K mg "look_at_bent" (top 31) ["places", "many"] f fd) {q2 : Addr} (q3 : mg "NoBow" = some (.ref q2)) (q4 : PySem.W.excIn K q2 [.type "ValueError", .type "Exception", .type "BaseException", .type "object"] "ValueError.__new__" = true) (q5 : zkf K mg "NoBow" q2) (q6 : mg "len" = none) (q1 : zaC P w K mg base k "is_floor" zaE) (q0 : zaC P w K mg base k "has_three_on_one" zaW) : zaC P w K mg base (k + 1) "look_at_bent" zat := F.ok (own' := []) (N := ["places", "many"]) (by kst_p1) rfl rfl fun _ _ _ _ _ _ C L nd => (@zap _ _ _ _ _ _ _ (@zcw _ _ _ _ _ _ _ _ _ _ _ _ (by walk_at "E") (@zap _ _ _ _ _ _ _ (@zoe _ _ _ _ _ _ _ _ _ _ _ _ _ _ _ _ _ _ _ _ _ _ _ _ _ _ q4 q5 (by rfl) (by decide))) (@zaX _ _ _ _)))
theorem zpq (F : FA K mg "lowest" (top 22) ["numbers"] f fd) (q1 : mg "tuple" = none) (q0 : zaC P w K mg base k "divisor" zbm) : zaC P w K mg base (k + 1) "lowest" zfg := F.ok (own' := []) (N := ["numbers", "part", "number"]) (by kst_p1) rfl rfl fun _ _ _ _ _ _ C L nd => (@zad _ _ _ _ _ _ _ _ _ _ (by kst_p) (@zad _ _ _ _ _ _ _ _ _ _ (@zcP _ _ _ _ _ _ _ _ _ _ _ _ L C.calm (by walk_at "E") (by walk_at "G") (@zap _ _ _ _ _ _ _ (by kst_p)) (by rfl) (by intro _ ; rfl)) (@zad _ _ _ _ _ _ _ _ _ _ (@zcw _ _ _ _ _ _ _ _ _ _ _ _ (@zdZ _ _ _ _ _ _ _ _ _ (@zn8 _) (@zp8 _ _ _ _ _ _ _ (@DF.val _ _ _ _ (@zht _ _ _ _ _ _ _ _ _ _ _ _ _ _ _ C.calm (LC.of (k := 1) (NY := ["number", "numbers", "part", "?number"]) (N := ["numbers", "part", "number"]) (sc0 := (zai (top 22))) rfl rfl (by decide +kernel)) rfl (by walk_at "E") (fun _ _ _ _ nd2 => ⟨(by walk_at "G"), (@zgM _ _ _ _ (by walk_at "E")), (by walk_at "E")⟩) (by intro _ ; rfl))) (@zeY _ _ _ _ _) (by intro _ _ ; rfl)) (@zeY _ _ _ _ _) (by first | exact za3 _ (by decide) (by decide) | rfl)) (@zap _ _ _ _ _ _ _ (by kst_p)) (@zaX _ _ _ _)) (@zap _ _ _ _ _ _ _ (@ze0 _ _ _ _ _ _ _ _ (@zle _ _ _ _ _ _ _ q1 (@zay _ _ _ _ _ _ (@DF.val _ _ _ _ (@zht _ _ _ _ _ _ _ _ _ _ _ _ _ _ _ C.calm (LC.of (k := 1) (NY := ["number", "numbers", "part", "?number"]) (N := ["numbers", "part", "number"]) (sc0 := (zai (top 22))) rfl rfl (by decide +kernel)) rfl (by walk_at "E") (fun _ _ _ _ nd2 => ⟨(by walk_at "G"), (@zc7 _ _), (by walk_at "E")⟩) (by intro _ ; rfl))) (@zbE _ _) (by rfl)) (by rfl) (by rfl) (by rfl)))))))
theorem zhI (F : FA K mg "pair_as_bow" (top 33) ["pair"] f fd) (q0 : mg "range" = none) : zaC P w K mg base (k + 1) "pair_as_bow" za6 := F.ok (own' := []) (N := ["pair", "one", "other", "squares", "mixed"]) (by kst_p1) rfl rfl fun _ _ _ _ _ _ C L nd => (@zad _ _ _ _ _ _ _ _ _ _ (by kst_p) (@zad _ _ _ _ _ _ _ _ _ _ (by kst_p) (@zad _ _ _ _ _ _ _ _ _ _ (@ze1 _ _ _ _ _ _ _ _ _ _ _ _ _ _ _ _ _ _ _ _ 3 C.calm nd (LC.of (k := 1) (NY := ["k", "pair", "one", "other", "squares", "mixed"]) (N := ["pair", "one", "other", "squares", "mixed"]) (sc0 := (zai (top 33))) rfl rfl (by decide +kernel)) rfl (by walk_at "E") (fun _ _ _ _ nd2 => ⟨(by walk_at "G"), (@zc7 _ _), (by walk_at "E")⟩) (by rfl) (by rfl) (by rfl) (by rfl) (by intro _ ; rfl)) (@zad _ _ _ _ _ _ _ _ _ _ (@ze1 _ _ _ _ _ _ _ _ _ _ _ _ _ _ _ _ _ _ _ _ 4 C.calm nd (LC.of (k := 2) (NY := ["j", "k", "pair", "one", "other", "squares", "mixed"]) (N := ["pair", "one", "other", "squares", "mixed"]) (sc0 := (zai (top 33))) rfl rfl (by decide +kernel)) rfl (by walk_at "E") (fun _ _ _ _ nd2 => ⟨(by walk_at "G"), (@zc7 _ _), (by walk_at "E")⟩) (by rfl) (by rfl) (by rfl) (by rfl) (by intro _ ; rfl)) (by kd_p1)))))
theorem zpr (F : FA K mg "bow_of" (top 30) ["five"] f fd) (q4 : mg "zip" = none) (q0 : zaC P w K mg base k "look_at_bent" zat) (q2 : zaC P w K mg base k "through" zaH) (q5 : zaC P w K mg base k "dot" zhd) (q1 : zaC P w K mg base k "pair_as_bow" za6) (q3 : zaC P w K mg base k "lowest" zfg) : zaC P w K mg base (k + 1) "bow_of" zdt := F.ok (own' := []) (N := ["five", "one", "other", "part", "less", "sixes"]) (by kst_p1) rfl rfl fun _ _ _ _ _ _ C L nd => (@zad _ _ _ _ _ _ _ _ _ _ (by walk_at "s4") (@zad _ _ _ _ _ _ _ _ _ _ (by kst_p) (@zad _ _ _ _ _ _ _ _ _ _ (by kst_p) (@zad _ _ _ _ _ _ _ _ _ _ (by kst_p) (@zad _ _ _ _ _ _ _ _ _ _ (by kst_p) (@zad _ _ _ _ _ _ _ _ _ _ (by kst_p) (@zap _ _ _ _ _ _ _ (@ze0 _ _ _ _ _ _ _ _ (@znW _ _ _ _ _ _ _ _ _ _ C q3 (@zay _ _ _ _ _ _ (@DF.val _ _ _ _ (@zht _ _ _ _ _ _ _ _ _ _ _ _ _ _ _ C.calm (LC.of (k := 2) (NY := ["number", "like", "five", "one", "other", "part", "less", "sixes"]) (N := ["five", "one", "other", "part", "less", "sixes"]) (sc0 := (zai (top 30))) rfl rfl (by decide +kernel)) rfl (by walk_at "E") (fun _ _ _ _ nd2 => ⟨(by walk_at "G"), (@zc7 _ _), (by walk_at "E")⟩) (by intro _ ; rfl))) (@zbE _ _) (by rfl)) (by rfl) (by decide) (by rfl) (by rfl))))))))))
theorem ziL (F : FA K mg "_law_sixth" (top 51) ["_law_some", "_law_five", "_law_curve_here"] f fd) (q2 : zaC P w K mg base k "_law_lines" zbC) (q3 : zaC P w K mg base k "_law_place" zaB) (q0 : zaC P w K mg base k "_law_touching" zaI) (q4 : zaC P w K mg base k "bow_of" zdt) (q1 : zaC P w K mg base k "_law_lowest" zah) : zaC P w K mg base (k + 1) "_law_sixth" zb1 := F.ok (own' := []) (N := ["_law_some", "_law_five", "_law_curve_here", "_law_way", "_law_line", "_law_other", "_law_a", "_law_b", "_law_c", "_law_d", "_law_e", "_law_f", "_law_found"]) (by kst_p1) rfl rfl fun _ _ _ _ _ _ C L nd => (@zad _ _ _ _ _ _ _ _ _ _ (by kst_p) (@zad _ _ _ _ _ _ _ _ _ _ (by kpf_c) (@zad _ _ _ _ _ _ _ _ _ _ (by kpf_c) (@zad _ _ _ _ _ _ _ _ _ _ (by kpf_c) (@zad _ _ _ _ _ _ _ _ _ _ (by kst_p) (@zad _ _ _ _ _ _ _ _ _ _ (by kst_p) (@zad _ _ _ _ _ _ _ _ _ _ (by walk_at "s9") (@zad _ _ _ _ _ _ _ _ _ _ (by walk_at "s9") (@zad _ _ _ _ _ _ _ _ _ _ (by kst_p) (@zad _ _ _ _ _ _ _ _ _ _ (by kpf_c) (by kd_p1)))))))))))
theorem zm0 (F : FA K mg "is_deed" (top 25) ["thing"] f fd) (q0 : mg "isinstance" = none) (q2 : mg "tuple" = none) (q3 : mg "len" = none) (q4 : mg "str" = none) (q1 : zaC P w K mg base k "is_whole" zaT) : zaC P w K mg base (k + 1) "is_deed" zce := F.ok (own' := []) (N := ["thing"]) (by kst_p1) rfl rfl fun _ _ _ _ _ _ C L nd => (@zad _ _ _ _ _ _ _ _ _ _ (@zcw _ _ _ _ _ _ _ _ _ _ _ _ (@DW.dt _ _ _ _ (@zhr _ _ _ _ _ _ _ _ (@zdX _ _ _ _ _ (@zeZ _ _ _ _ (@ze4 _ _ _ _ _ _ _ q0 (@zay _ _ _ _ _ _ (by walk_at "E") (@zay _ _ _ _ _ _ (@zgJ _ _ _ _ _ q2 zgo (by rfl) (by decide) (by decide)) (@zbE _ _) (by rfl)) (by rfl)) (by rfl) (by rfl) (by rfl)) (by intro _ ; rfl))) (by walk_at "E"))) (by kd_p1) (@zaX _ _ _ _)) (@zad _ _ _ _ _ _ _ _ _ _ (@zcw _ _ _ _ _ _ _ _ _ _ _ _ (@DW.dt _ _ _ _ (@zhr _ _ _ _ _ _ _ _ (@zdX _ _ _ _ _ (@zeZ _ _ _ _ (@ze4 _ _ _ _ _ _ _ q0 (@zay _ _ _ _ _ _ (by walk_at "E") (@zay _ _ _ _ _ _ (@zgJ _ _ _ _ _ q4 zvn (by rfl) (by decide) (by decide)) (@zbE _ _) (by rfl)) (by rfl)) (by rfl) (by rfl) (by rfl)) (by intro _ ; rfl))) (by walk_at "E"))) (by kd_p1) (@zaX _ _ _ _)) (by kd_p1)))
theorem zm1 (F : FA K mg "pair_of" (top 26) ["known", "deed", "at"] f fd) (q0 : mg "len" = none) : zaC P w K mg base (k + 1) "pair_of" zaU := F.ok (own' := []) (N := ["known", "deed", "at", "number", "one", "other"]) (by kst_p1) rfl rfl fun _ _ _ _ _ _ C L nd => (@zad _ _ _ _ _ _ _ _ _ _ (@zcP _ _ _ _ _ _ _ _ _ _ _ _ L C.calm (by walk_at "E") (by walk_at "G") (@zap _ _ _ _ _ _ _ (@zcw _ _ _ _ _ _ _ _ _ _ _ _ (@zdX _ _ _ _ _ (@zjp _ _ _ _ _ _ _ _ _ _ _ _ _ (@zqe _) (@zn8 _) (@zeY _ _ _ _ _) (by walk_at "E") (by walk_at "E") (by with_unfolding_all rfl))) (@zap _ _ _ _ _ _ _ (@zk7 _ _ _ _ _ _)) (@zaX _ _ _ _))) (by rfl) (by intro _ ; rfl)) (@zad _ _ _ _ _ _ _ _ _ _ (by kst_p) (@zad _ _ _ _ _ _ _ _ _ _ (by kst_p) (@zad _ _ _ _ _ _ _ _ _ _ (@zcw _ _ _ _ _ _ _ _ _ _ _ _ (by walk_at "E") (@zap _ _ _ _ _ _ _ (@zk7 _ _ _ _ _ _)) (@zaX _ _ _ _)) (by kd_p1)))))
theorem zkR (F : FA K mg "crossing" (top 15) ["one", "other"] f fd) (q0 : zaC P w K mg base k "between_two" zaN) : zaC P w K mg base (k + 1) "crossing" zbN := F.ok (own' := []) (N := ["one", "other"]) (by kst_p1) rfl rfl fun _ _ _ _ _ _ C L nd => (by kd_p1)
theorem zps (F : FA K mg "walked" (top 24) ["places", "plan"] f fd) (q5 : mg "list" = none) (q0 : mg "enumerate" = none) (q2 : zaC P w K mg base k "is_deed" zce) (q3 : zaC P w K mg base k "pair_of" zaU) (q4 : zaC P w K mg base k "through" zaH) (q1 : zaC P w K mg base k "crossing" zbN) : zaC P w K mg base (k + 1) "walked" zcC := F.ok (own' := []) (N := ["places", "plan", "pegs", "lines", "at", "deed", "pair"]) (by kst_p1) rfl rfl fun _ _ _ _ _ _ C L nd => (@zad _ _ _ _ _ _ _ _ _ _ (by walk_at "s5") (@zad _ _ _ _ _ _ _ _ _ _ (by walk_at "s5") (@zad _ _ _ _ _ _ _ _ _ _ (@zcP _ _ _ _ _ _ _ _ _ _ _ _ L C.calm (by walk_at "E") (by walk_at "G") (@zad _ _ _ _ _ _ _ _ _ _ (@zcw _ _ _ _ _ _ _ _ _ _ _ _ (by walk_at "E") (@zap _ _ _ _ _ _ _ (@zk7 _ _ _ _ _ _)) (@zaX _ _ _ _)) (@zap _ _ _ _ _ _ _ (@zcw _ _ _ _ _ _ _ _ _ _ _ _ (by walk_at "E") (@zad _ _ _ _ _ _ _ _ _ _ (by walk_at "s2") (@zap _ _ _ _ _ _ _ (by walk_at "s7"))) (@zad _ _ _ _ _ _ _ _ _ _ (by walk_at "s2") (@zap _ _ _ _ _ _ _ (by walk_at "s7")))))) (by rfl) (by intro _ ; rfl)) (@zgN _ _ _ _ _ _ _ _ 3 (by rfl) (by rfl) (@zgN _ _ _ _ _ _ _ _ 2 (by rfl) (by rfl) (by kd_p1))))))
theorem zqQ (F : FA K mg "again" (top 34) ["five", "place"] f fd) {q5 : Addr} (q6 : mg "Same" = some (.ref q5)) (q1 : XI P w K mg base "Same" q5 [.non]) (q8 : 2 <= k) (q7 : mg "list" = none) (q2 : ∃ u v, mg "PLAN" = some u /\ zbg v u /\ ∀ G, Rep K mg G zl9 v) (q3 : ∃ u v, mg "LAST" = some u /\ zbg v u /\ ∀ G, Rep K mg G zma v) (q0 : zaC P w K mg base k "look_at_bent" zat) (q4 : zaC P w K mg base k "walked" zcC) : zaC P w K mg base (k + 1) "again" zcj := F.ok (own' := []) (N := ["five", "place"]) (by kst_p1) rfl rfl fun _ _ _ _ _ _ C L nd => (@zad _ _ _ _ _ _ _ _ _ _ (by walk_at "s4") (@zad _ _ _ _ _ _ _ _ _ _ (@zcw _ _ _ _ _ _ _ _ _ _ _ _ (by walk_at "E") (@zap _ _ _ _ _ _ _ (@zmN _ _ _ _ _ _ _ _ _ _ _ _ _ _ _ _ _ _ _ _ _ _ _ _ _ q1 q8 C.room (by rfl) (by decide))) (@zaX _ _ _ _)) (by kd_p1)))
theorem zhq (F : FA K mg "_law_refused" (top 49) ["_law_five", "_law_place_here", "_law_same"] f fd) {q0 : Addr} (q1 : mg "ChalkError" = some (.ref q0)) {q7 : Addr} (q8 : mg "Same" = some (.ref q7)) {q4 : Addr} (q5 : mg "NoBow" = some (.ref q4)) (q9 : zxw K mg ["NoDeed", "Same"]) (q2 : mg "isinstance" = none) (q3 : mg "ValueError" = none) (q6 : zaC P w K mg base k "again" zcj) : zaC P w K mg base (k + 1) "_law_refused" zax := F.ok (own' := []) (N := ["_law_five", "_law_place_here", "_law_same", "_law_refused_here", "_law_e"]) (by kst_p1) rfl rfl fun _ _ _ _ _ _ C L nd => (@zad _ _ _ _ _ _ _ _ _ _ (by kst_p) (@zad _ _ _ _ _ _ _ _ _ _ (@zvA _ _ _ _ 4 _ _ _ _ _ _ _ _ _ rfl rfl nd q1 (@zqi _ _ _ (@zqk _ _ _ _ _ _ _ _ _ _ C.room q6 (by walk_at "E") (by rfl) (by decide) (by rfl) (by rfl) (by rfl))) (fun _ => (@zap _ _ _ _ _ _ _ (by kst_p))) (by rfl) (by rfl) (by rfl) (by decide)) (@zad _ _ _ _ _ _ _ _ _ _ (@zcw _ _ _ _ _ _ _ _ _ _ _ _ (by walk_at "E") (@zad _ _ _ _ _ _ _ _ _ _ (@zcw _ _ _ _ _ _ _ _ _ _ _ _ (@DW.dt _ _ _ _ (@zhr _ _ _ _ _ _ _ _ (by walk_at "E") (@zhr _ _ _ _ _ _ _ _ (@zdX _ _ _ _ _ (@zeZ _ _ _ _ (@zkF _ _ _ _ _ _ _ q2 (@zay _ _ _ _ _ _ (by walk_at "E") (@zay _ _ _ _ _ _ (@zgJ _ _ _ _ _ q3 ze3 (by rfl) (by decide) (by decide)) (@zbE _ _) (by rfl)) (by rfl)) (by rfl) (by rfl) (by rfl)) (by intro _ ; rfl))) (by walk_at "E")))) (by kd_p1) (@zaX _ _ _ _)) (@zap _ _ _ _ _ _ _ (@ze0 _ _ _ _ _ _ _ _ (@zn9 _ _ _ _ _ _ _ _ _ (@zvl _) (by walk_at "E") (@zq5 _ _ _ _) (by first | exact za3 _ (by decide) (by decide) | rfl))))) (@zaX _ _ _ _)) (@zap _ _ _ _ _ _ _ (@ze0 _ _ _ _ _ _ _ _ (@zhU _ _ _ _ _ _ _ _ (by walk_at "E") (@zhU _ _ _ _ _ _ _ _ (@zkF _ _ _ _ _ _ _ q2 (@zay _ _ _ _ _ _ (by walk_at "E") (@zay _ _ _ _ _ _ (@zgJ _ _ _ _ _ q3 ze3 (by rfl) (by decide) (by decide)) (@zbE _ _) (by rfl)) (by rfl)) (by rfl) (by rfl) (by rfl)) (by walk_at "E"))))))))
theorem ziM (F : FA K mg "_law_whole" (top 37) ["_law_found"] f fd) (q0 : mg "isinstance" = none) (q2 : mg "int" = none) (q1 : mg "bool" = none) : zaC P w K mg base (k + 1) "_law_whole" zbY := F.ok (own' := []) (N := ["_law_found"]) (by kst_p1) rfl rfl fun _ _ _ _ _ _ C L nd => (@zap _ _ _ _ _ _ _ (@ze0 _ _ _ _ _ _ _ _ (@zhU _ _ _ _ _ _ _ _ (@ze4 _ _ _ _ _ _ _ q0 (@zay _ _ _ _ _ _ (by walk_at "E") (@zay _ _ _ _ _ _ (@zgJ _ _ _ _ _ q2 zrc (by rfl) (by decide) (by decide)) (@zbE _ _) (by rfl)) (by rfl)) (by rfl) (by rfl) (by rfl)) (@znS _ _ _ _ _ _ (@znT _ _ _ _ _ (@ze4 _ _ _ _ _ _ _ q0 (@zay _ _ _ _ _ _ (by walk_at "E") (@zay _ _ _ _ _ _ (@zgJ _ _ _ _ _ q1 zoa (by rfl) (by decide) (by decide)) (@zbE _ _) (by rfl)) (by rfl)) (by rfl) (by rfl) (by rfl)))))))
theorem zgi (F : FA K mg "_law_is_place" (top 42) ["_law_found", "_law_due"] f fd) (q0 : mg "isinstance" = none) (q2 : mg "tuple" = none) (q3 : mg "len" = none) (q1 : zaC P w K mg base k "_law_whole" zbY) : zaC P w K mg base (k + 1) "_law_is_place" zbt := F.ok (own' := []) (N := ["_law_found", "_law_due"]) (by kst_p1) rfl rfl fun _ _ _ _ _ _ C L nd => (@zad _ _ _ _ _ _ _ _ _ _ (@zcw _ _ _ _ _ _ _ _ _ _ _ _ (@DW.dt _ _ _ _ (@zhr _ _ _ _ _ _ _ _ (@zdX _ _ _ _ _ (@zeZ _ _ _ _ (@ze4 _ _ _ _ _ _ _ q0 (@zay _ _ _ _ _ _ (by walk_at "E") (@zay _ _ _ _ _ _ (@zgJ _ _ _ _ _ q2 zgo (by rfl) (by decide) (by decide)) (@zbE _ _) (by rfl)) (by rfl)) (by rfl) (by rfl) (by rfl)) (by intro _ ; rfl))) (@zhr _ _ _ _ _ _ _ _ (by walk_at "E") (@zk6 _ _ _ _ _ (@zdZ _ _ _ _ _ _ _ _ _ (@zvk _ _ _ C) (@DF.val _ _ _ _ (@zht _ _ _ _ _ _ _ _ _ _ _ _ _ _ _ C.calm (LC.of (k := 1) (NY := ["_law_one", "_law_found", "_law_due"]) (N := ["_law_found", "_law_due"]) (sc0 := (zai (top 42))) rfl rfl (by decide +kernel)) rfl (by walk_at "E") (fun _ _ _ _ nd2 => ⟨(by walk_at "G"), (@zgM _ _ _ _ (by walk_at "E")), (by walk_at "E")⟩) (by intro _ ; rfl))) (by walk_at "E") (by first | exact za3 _ (by decide) (by decide) | rfl)))))) (by kd_p1) (@zaX _ _ _ _)) (by kd_p1))
theorem ziN (F : FA K mg "_law_is_on" (top 48) ["_law_bow", "_law_place_here"] f fd) (q1 : zaC P w K mg base k "_law_dot" za1) (q0 : zaC P w K mg base k "_law_touching" zaI) : zaC P w K mg base (k + 1) "_law_is_on" zb0 := F.ok (own' := []) (N := ["_law_bow", "_law_place_here"]) (by kst_p1) rfl rfl fun _ _ _ _ _ _ C L nd => (by kd_p1)
theorem ziO (F : FA K mg "_law_right" (top 50) ["_law_five", "_law_place_here"] f fd) (q10 : mg "list" = none) (q4 : zaC P w K mg base k "_law_lines" zbC) (q2 : zaC P w K mg base k "_law_refused" zax) (q8 : zaC P w K mg base k "bow_of" zdt) (q9 : zaC P w K mg base k "again" zcj) (q0 : zaC P w K mg base k "_law_is_place" zbt) (q3 : zaC P w K mg base k "_law_lowest" zah) (q6 : zaC P w K mg base k "_law_det" zaP) (q5 : zaC P w K mg base k "_law_is_on" zb0) (q7 : zaC P w K mg base k "_law_dot" za1) (q1 : zaC P w K mg base k "_law_touching" zaI) : zaC P w K mg base (k + 1) "_law_right" zbv := F.ok (own' := []) (N := ["_law_five", "_law_place_here", "_law_handed", "_law_bow", "_law_found", "_law_touches"]) (by kst_p1) rfl rfl fun _ _ _ _ _ _ C L nd => (@zad _ _ _ _ _ _ _ _ _ _ (by kst_p) (@zad _ _ _ _ _ _ _ _ _ _ (by kpf_c) (@zad _ _ _ _ _ _ _ _ _ _ (by kpf_c) (@zad _ _ _ _ _ _ _ _ _ _ (by kst_p) (@zad _ _ _ _ _ _ _ _ _ _ (by kst_p) (@zad _ _ _ _ _ _ _ _ _ _ (by kpf_c) (@zad _ _ _ _ _ _ _ _ _ _ (by kpf_c) (@zad _ _ _ _ _ _ _ _ _ _ (by kst_p) (@zad _ _ _ _ _ _ _ _ _ _ (by kpf_c) (by kd_p1))))))))))
abbrev zhJ : Stmt := top 52
theorem zr7 : zdk ["_law_script", "_law_cell", "_law_some", "_law_rows", "_law_curve_here", "_law_five", "_law_place_here", "_law_odd", "_law_few"] ["_law_script"] (zai zhJ) := by kst_p1
theorem zwa (F : Fun K "law" "law" zhJ f fd) (q7 : mg "range" = none) (q8 : mg "tuple" = none) (q0 : zaC P w K mg base k "_law_numbers" zaO) (q2 : zaC P w K mg base k "_law_change" zbG) (q3 : zaC P w K mg base k "_law_curve" zcE) (q4 : zaC P w K mg base k "_law_place" zaB) (q5 : zaC P w K mg base k "_law_sixth" zb1) (q6 : zaC P w K mg base k "_law_right" zbv) (q1 : zaC P w K mg base k "_law_refused" zax) : zgj P w K mg base (CXe P w) (k + 1) f fd ["_law_script"] (spD K mg zfy) := by
 refine zs3 (own' := []) F zr7 rfl rfl fun X E hX C L => ?_
 obtain ⟨cdv, A, outer, s, H, rfl⟩ := hX
 have nd := zr7.nd
 exact (@zad _ _ _ _ _ _ _ _ _ _ (@zcP _ _ _ _ _ _ _ _ _ _ _ _ L C.calm (by walk_at "E") (by walk_at "G") (@zad _ _ _ _ _ _ _ _ _ _ (by kst_p) (@zad _ _ _ _ _ _ _ _ _ _ (by kst_p) (@zad _ _ _ _ _ _ _ _ _ _ (by kst_p) (@zad _ _ _ _ _ _ _ _ _ _ (by kst_p) (@zad _ _ _ _ _ _ _ _ _ _ (@zcw _ _ _ _ _ _ _ _ _ _ _ _ (by walk_at "E") (@zap _ _ _ _ _ _ _ (@ze1 _ _ _ _ _ _ _ _ _ _ _ _ _ _ _ _ _ _ _ _ 5 C.calm nd (LC.of (k := 1) (NY := ["_law_k", "_law_script", "_law_cell", "_law_some", "_law_rows", "_law_curve_here", "_law_five", "_law_place_here", "_law_odd", "_law_few"]) (N := ["_law_script", "_law_cell", "_law_some", "_law_rows", "_law_curve_here", "_law_five", "_law_place_here", "_law_odd", "_law_few"]) (sc0 := (zai zhJ)) rfl rfl (by decide +kernel)) rfl (by walk_at "E") (fun _ _ _ _ nd2 => ⟨(by walk_at "G"), (@zc7 _ _), (by walk_at "E")⟩) (by rfl) (by rfl) (by rfl) (by rfl) (by intro _ ; rfl))) (@zaX _ _ _ _)) (@zad _ _ _ _ _ _ _ _ _ _ (by kst_p) (@zad _ _ _ _ _ _ _ _ _ _ (by kst_p) (@zad _ _ _ _ _ _ _ _ _ _ (by kst_p) (@zap _ _ _ _ _ _ _ (by kpf_c)))))))))) (by rfl) (by intro _ ; rfl)) (by kd_p1))
set_option maxHeartbeats 4000000 in
theorem all_mk {l : PySem.W.OpenLaw} {w : World} {K : xFg} {h : Heap} {mg : Str -> Option Value} {fa f38 : Addr} (X : K.In h) (G : h.Ns mainGlobals mg) (hfa : mg "law" = some (.ref fa))
  {od38 an38 : Option Addr} {sl38 : Array (Option Value)} {oc38 kV38 dc38 pm38 cd38 ct38 : Value}
  {C_ChalkError C_Same C_NoDeed C_NoBow : Addr}
  (d0 : FD K "_law_numbers" (top 36))
  (d1 : FD K "_law_det" (top 41))
  (d2 : FD K "_law_change" (top 43))
  (d3 : FD K "_law_lowest" (top 38))
  (d4 : FD K "_law_dot" (top 40))
  (d5 : FD K "_law_led" (top 44))
  (d6 : FD K "_law_curve" (top 45))
  (d7 : FD K "_law_touching" (top 47))
  (d8 : FD K "_law_place" (top 39))
  (d9 : FD K "_law_lines" (top 46))
  (d10 : FD K "divisor" (top 10))
  (d11 : FD K "in_form" (top 9))
  (d12 : FD K "cross" (top 13))
  (d13 : FD K "between_two" (top 16))
  (d14 : FD K "through" (top 14))
  (d15 : FD K "dot" (top 12))
  (d16 : FD K "lies" (top 11))
  (d17 : FD K "on_one" (top 17))
  (d18 : FD K "has_three_on_one" (top 32))
  (d19 : FD K "is_whole" (top 6))
  (d20 : FD K "makes_place" (top 8))
  (d21 : FD K "is_place" (top 7))
  (d22 : FD K "is_floor" (top 20))
  (d23 : FD K "look_at_bent" (top 31))
  (d24 : FD K "lowest" (top 22))
  (d25 : FD K "pair_as_bow" (top 33))
  (d26 : FD K "bow_of" (top 30))
  (d27 : FD K "_law_sixth" (top 51))
  (d28 : FD K "is_deed" (top 25))
  (d29 : FD K "pair_of" (top 26))
  (d30 : FD K "crossing" (top 15))
  (d31 : FD K "walked" (top 24))
  (d32 : FD K "again" (top 34))
  (d33 : FD K "_law_refused" (top 49))
  (d34 : FD K "_law_whole" (top 37))
  (d35 : FD K "_law_is_place" (top 42))
  (d36 : FD K "_law_is_on" (top 48))
  (d37 : FD K "_law_right" (top 50))
  (a38 : PySem.W.nsIn K mainGlobals "law" = some (some (.ref f38))) (l38 : K.lookup f38 = some ⟨oc38, od38, .func (PySem.W.fnOf "law" "law" (zch zhJ) (zbs zhJ) (zai zhJ) .none kV38 dc38 pm38 an38 cd38 ct38), sl38⟩) (c38 : PySem.W.codeIn K cd38 "law" = true) (k38 : PySem.W.keepIn K (.ref f38) = true)
  (z_max : PySem.W.nsIn K mainGlobals "max" = some none)
  (z_range : PySem.W.nsIn K mainGlobals "range" = some none)
  (z_abs : PySem.W.nsIn K mainGlobals "abs" = some none)
  (z_len : PySem.W.nsIn K mainGlobals "len" = some none)
  (z_all : PySem.W.nsIn K mainGlobals "all" = some none)
  (z_isinstance : PySem.W.nsIn K mainGlobals "isinstance" = some none)
  (z_int : PySem.W.nsIn K mainGlobals "int" = some none)
  (z_bool : PySem.W.nsIn K mainGlobals "bool" = some none)
  (z_tuple : PySem.W.nsIn K mainGlobals "tuple" = some none)
  (z_list : PySem.W.nsIn K mainGlobals "list" = some none)
  (z_set : PySem.W.nsIn K mainGlobals "set" = some none)
  (z_zip : PySem.W.nsIn K mainGlobals "zip" = some none)
  (z_str : PySem.W.nsIn K mainGlobals "str" = some none)
  (z_enumerate : PySem.W.nsIn K mainGlobals "enumerate" = some none)
  (z_ValueError : PySem.W.nsIn K mainGlobals "ValueError" = some none)
  (e_ChalkError : PySem.W.nsIn K mainGlobals "ChalkError" = some (some (.ref C_ChalkError)))
  (e_Same : PySem.W.nsIn K mainGlobals "Same" = some (some (.ref C_Same)))
  (e_NoDeed : PySem.W.nsIn K mainGlobals "NoDeed" = some (some (.ref C_NoDeed)))
  (e_NoBow : PySem.W.nsIn K mainGlobals "NoBow" = some (some (.ref C_NoBow)))
  (y_NoBow : PySem.W.excIn K C_NoBow [.type "ValueError", .type "Exception", .type "BaseException", .type "object"] "ValueError.__new__" = true)
  (xga_NoBow : PySem.W.findIn K (.ref C_NoBow) "__getattribute__" = some (some (.builtin "BaseException.__getattribute__")))
  (xgh_NoBow : PySem.W.findIn K (.ref C_NoBow) "__getattr__" = some none)
  (xbs_NoBow : PySem.W.mroIn K C_NoBow (.type "BaseException") = some true)
  (xob_NoBow : PySem.W.mroIn K C_NoBow (.type "object") = some true)
  (xca_NoBow : PySem.W.findIn K (.ref C_NoBow) "__class__" = some (some (.builtin "object.__class__")))
  (xvv_NoBow : PySem.W.kitOne K (.ref C_NoBow) (.type "ValueError") = some true)
  (t_NoBow_ChalkError : PySem.W.kitOne K (.ref C_NoBow) (.ref C_ChalkError) = some true)
  (u_NoBow_ChalkError : PySem.W.exmOne K (.ref C_NoBow) (.ref C_ChalkError) = some true)
  (v_NoPlace : PySem.W.nsIn K mainGlobals "NoPlace" = some none)
  (t_NoBow_Same : PySem.W.kitOne K (.ref C_NoBow) (.ref C_Same) = some false)
  (v_NoFloor : PySem.W.nsIn K mainGlobals "NoFloor" = some none)
  (v_Endless : PySem.W.nsIn K mainGlobals "Endless" = some none)
  (t_NoBow_NoDeed : PySem.W.kitOne K (.ref C_NoBow) (.ref C_NoDeed) = some false)
  (v_NoText : PySem.W.nsIn K mainGlobals "NoText" = some none)
  (v_NoName : PySem.W.nsIn K mainGlobals "NoName" = some none)
  (v_TooMany : PySem.W.nsIn K mainGlobals "TooMany" = some none)
  (v_NoChange : PySem.W.nsIn K mainGlobals "NoChange" = some none)
  (v_NoFrame : PySem.W.nsIn K mainGlobals "NoFrame" = some none)
  (v_NoValue : PySem.W.nsIn K mainGlobals "NoValue" = some none)
  (v_Unlike : PySem.W.nsIn K mainGlobals "Unlike" = some none)
  (v_NoRatio : PySem.W.nsIn K mainGlobals "NoRatio" = some none)
  (t_NoBow_NoBow : PySem.W.kitOne K (.ref C_NoBow) (.ref C_NoBow) = some true)
  (u_NoBow_NoBow : PySem.W.exmOne K (.ref C_NoBow) (.ref C_NoBow) = some true)
  (v_NoRow : PySem.W.nsIn K mainGlobals "NoRow" = some none)
  (xga_Same : PySem.W.findIn K (.ref C_Same) "__getattribute__" = some (some (.builtin "BaseException.__getattribute__")))
  (xgh_Same : PySem.W.findIn K (.ref C_Same) "__getattr__" = some none)
  (xbs_Same : PySem.W.mroIn K C_Same (.type "BaseException") = some true)
  (xob_Same : PySem.W.mroIn K C_Same (.type "object") = some true)
  (xca_Same : PySem.W.findIn K (.ref C_Same) "__class__" = some (some (.builtin "object.__class__")))
  (xvv_Same : PySem.W.kitOne K (.ref C_Same) (.type "ValueError") = some true)
  (t_Same_ChalkError : PySem.W.kitOne K (.ref C_Same) (.ref C_ChalkError) = some true)
  (u_Same_ChalkError : PySem.W.exmOne K (.ref C_Same) (.ref C_ChalkError) = some true)
  (t_Same_Same : PySem.W.kitOne K (.ref C_Same) (.ref C_Same) = some true)
  (u_Same_Same : PySem.W.exmOne K (.ref C_Same) (.ref C_Same) = some true)
  (t_Same_NoDeed : PySem.W.kitOne K (.ref C_Same) (.ref C_NoDeed) = some false)
  (t_Same_NoBow : PySem.W.kitOne K (.ref C_Same) (.ref C_NoBow) = some false)
  (xga_NoDeed : PySem.W.findIn K (.ref C_NoDeed) "__getattribute__" = some (some (.builtin "BaseException.__getattribute__")))
  (xgh_NoDeed : PySem.W.findIn K (.ref C_NoDeed) "__getattr__" = some none)
  (xbs_NoDeed : PySem.W.mroIn K C_NoDeed (.type "BaseException") = some true)
  (xob_NoDeed : PySem.W.mroIn K C_NoDeed (.type "object") = some true)
  (xca_NoDeed : PySem.W.findIn K (.ref C_NoDeed) "__class__" = some (some (.builtin "object.__class__")))
  (xvv_NoDeed : PySem.W.kitOne K (.ref C_NoDeed) (.type "ValueError") = some true)
  (t_NoDeed_ChalkError : PySem.W.kitOne K (.ref C_NoDeed) (.ref C_ChalkError) = some true)
  (u_NoDeed_ChalkError : PySem.W.exmOne K (.ref C_NoDeed) (.ref C_ChalkError) = some true)
  (t_NoDeed_Same : PySem.W.kitOne K (.ref C_NoDeed) (.ref C_Same) = some false)
  (t_NoDeed_NoDeed : PySem.W.kitOne K (.ref C_NoDeed) (.ref C_NoDeed) = some true)
  (u_NoDeed_NoDeed : PySem.W.exmOne K (.ref C_NoDeed) (.ref C_NoDeed) = some true)
  (t_NoDeed_NoBow : PySem.W.kitOne K (.ref C_NoDeed) (.ref C_NoBow) = some false)
  {td_Same : Addr}
  {fi_Same : Addr} {odi_Same ani_Same : Option Addr} {sli_Same : Array (Option Value)} {oci_Same kVi_Same dci_Same pmi_Same cdi_Same cti_Same : Value} (in_Same : PySem.W.findIn K (.ref C_Same) "__init__" = some (some (.ref fi_Same))) (li_Same : K.lookup fi_Same = some ⟨oci_Same, odi_Same, .func (PySem.W.fnOf "__init__" "Same.__init__" (zch zeQ) (zbs zeQ) (zai zeQ) (.ref td_Same) kVi_Same dci_Same pmi_Same ani_Same cdi_Same cti_Same), sli_Same⟩)
  (ci_Same : PySem.W.codeIn K cdi_Same "Same.__init__" = true) (fn_Same : PySem.W.isFn K (.ref fi_Same) = true)
  {dt_Same : Option Addr} {nt_Same : Nat} {st_Same : Array (Option Value)} (lt_Same : K.lookup td_Same = some ⟨.type "tuple", dt_Same, .seq #[.none] nt_Same, st_Same⟩)
  {N_Same : Addr} {nm_Same qn_Same : Str} {bs_Same sub_Same : List Value} {hdc_Same ab_Same : Bool} {sn_Same : List Str} {col_Same : Option Bool} {ddc_Same odn_Same : Option Addr} {k0_Same k1_Same k2_Same k3_Same k5_Same : Option Value} {ocn_Same : Value} {es_Same : Array DictEntry} {nn_Same : Nat} {sln_Same : Array (Option Value)}
  (lc_Same : K.lookup C_Same = some (excClassObj nm_Same qn_Same C_Same N_Same bs_Same (.ref C_ChalkError :: bmV) hdc_Same sn_Same sub_Same ab_Same col_Same ddc_Same k0_Same k1_Same k2_Same k3_Same k5_Same "ValueError.__new__")) (ln_Same : K.lookup N_Same = some ⟨ocn_Same, odn_Same, .dict es_Same nn_Same, sln_Same⟩) (sk_Same : zkC es_Same = true) (ni_Same : PySem.W.nsIn K N_Same "__init__" = some (some (.ref fi_Same)))
  (isa_Same : PySem.W.findIn K (.ref C_Same) "__setattr__" = some (some (.builtin "object.__setattr__")))
  (itk_Same : PySem.W.takerIn K C_Same "at" = some none)
  (ihd_Same : PySem.W.hasDictIn K C_Same = true)
  (ina_Same : PySem.W.findIn K (.ref C_Same) "at" = some none)
  {fi_NoDeed : Addr} {odi_NoDeed ani_NoDeed : Option Addr} {sli_NoDeed : Array (Option Value)} {oci_NoDeed kVi_NoDeed dci_NoDeed pmi_NoDeed cdi_NoDeed cti_NoDeed : Value} (in_NoDeed : PySem.W.findIn K (.ref C_NoDeed) "__init__" = some (some (.ref fi_NoDeed))) (li_NoDeed : K.lookup fi_NoDeed = some ⟨oci_NoDeed, odi_NoDeed, .func (PySem.W.fnOf "__init__" "NoDeed.__init__" (zch zcI) (zbs zcI) (zai zcI) .none kVi_NoDeed dci_NoDeed pmi_NoDeed ani_NoDeed cdi_NoDeed cti_NoDeed), sli_NoDeed⟩)
  (ci_NoDeed : PySem.W.codeIn K cdi_NoDeed "NoDeed.__init__" = true) (fn_NoDeed : PySem.W.isFn K (.ref fi_NoDeed) = true)
  {N_NoDeed : Addr} {nm_NoDeed qn_NoDeed : Str} {bs_NoDeed sub_NoDeed : List Value} {hdc_NoDeed ab_NoDeed : Bool} {sn_NoDeed : List Str} {col_NoDeed : Option Bool} {ddc_NoDeed odn_NoDeed : Option Addr} {k0_NoDeed k1_NoDeed k2_NoDeed k3_NoDeed k5_NoDeed : Option Value} {ocn_NoDeed : Value} {es_NoDeed : Array DictEntry} {nn_NoDeed : Nat} {sln_NoDeed : Array (Option Value)}
  (lc_NoDeed : K.lookup C_NoDeed = some (excClassObj nm_NoDeed qn_NoDeed C_NoDeed N_NoDeed bs_NoDeed (.ref C_ChalkError :: bmV) hdc_NoDeed sn_NoDeed sub_NoDeed ab_NoDeed col_NoDeed ddc_NoDeed k0_NoDeed k1_NoDeed k2_NoDeed k3_NoDeed k5_NoDeed "ValueError.__new__")) (ln_NoDeed : K.lookup N_NoDeed = some ⟨ocn_NoDeed, odn_NoDeed, .dict es_NoDeed nn_NoDeed, sln_NoDeed⟩) (sk_NoDeed : zkC es_NoDeed = true) (ni_NoDeed : PySem.W.nsIn K N_NoDeed "__init__" = some (some (.ref fi_NoDeed)))
  (isa_NoDeed : PySem.W.findIn K (.ref C_NoDeed) "__setattr__" = some (some (.builtin "object.__setattr__")))
  (itk_NoDeed : PySem.W.takerIn K C_NoDeed "at" = some none)
  (ihd_NoDeed : PySem.W.hasDictIn K C_NoDeed = true)
  (ina_NoDeed : PySem.W.findIn K (.ref C_NoDeed) "at" = some none)
  (yk_ : PySem.W.excIn K C_ChalkError bmV "ValueError.__new__" = true)
  (xcg : PySem.W.specialIn K (.builtin "object.__class__") "__get__" = some (some (.builtin "getset_descriptor.__get__"))) (xct : PySem.W.takesIn K (.builtin "object.__class__") = some true)
  {t_MOST_PEGS : Tok} (q_MOST_PEGS : PySem.W.nsIn K mainGlobals "MOST_PEGS" = some (some (.int 12 t_MOST_PEGS)))
  {a_PLAN : Addr} {n_PLAN : Nat} {sl_PLAN : Array (Option Value)} {b0_PLAN b1_PLAN b2_PLAN b3_PLAN b4_PLAN b5_PLAN b6_PLAN b7_PLAN b8_PLAN b9_PLAN b10_PLAN : Addr} (q_PLAN : PySem.W.nsIn K mainGlobals "PLAN" = some (some (.ref a_PLAN))) (lq_PLAN : K.lookup a_PLAN = some ⟨.type "list", none, .seq #[.ref b0_PLAN, .ref b1_PLAN, .ref b2_PLAN, .ref b3_PLAN, .ref b4_PLAN, .ref b5_PLAN, .ref b6_PLAN, .ref b7_PLAN, .ref b8_PLAN, .ref b9_PLAN, .ref b10_PLAN] n_PLAN, sl_PLAN⟩)
  {n0_PLAN : Nat} {dd0_PLAN : Option Addr} {sl0_PLAN : Array (Option Value)} {t0_0_PLAN t0_1_PLAN t0_2_PLAN : Tok} (lq0_PLAN : K.lookup b0_PLAN = some ⟨.type "tuple", dd0_PLAN, .seq #[.str "line" t0_0_PLAN, .int 0 t0_1_PLAN, .int 5 t0_2_PLAN] n0_PLAN, sl0_PLAN⟩)
  {n1_PLAN : Nat} {dd1_PLAN : Option Addr} {sl1_PLAN : Array (Option Value)} {t1_0_PLAN t1_1_PLAN t1_2_PLAN : Tok} (lq1_PLAN : K.lookup b1_PLAN = some ⟨.type "tuple", dd1_PLAN, .seq #[.str "line" t1_0_PLAN, .int 2 t1_1_PLAN, .int 3 t1_2_PLAN] n1_PLAN, sl1_PLAN⟩)
  {n2_PLAN : Nat} {dd2_PLAN : Option Addr} {sl2_PLAN : Array (Option Value)} {t2_0_PLAN t2_1_PLAN t2_2_PLAN : Tok} (lq2_PLAN : K.lookup b2_PLAN = some ⟨.type "tuple", dd2_PLAN, .seq #[.str "peg" t2_0_PLAN, .int 0 t2_1_PLAN, .int 1 t2_2_PLAN] n2_PLAN, sl2_PLAN⟩)
  {n3_PLAN : Nat} {dd3_PLAN : Option Addr} {sl3_PLAN : Array (Option Value)} {t3_0_PLAN t3_1_PLAN t3_2_PLAN : Tok} (lq3_PLAN : K.lookup b3_PLAN = some ⟨.type "tuple", dd3_PLAN, .seq #[.str "line" t3_0_PLAN, .int 0 t3_1_PLAN, .int 1 t3_2_PLAN] n3_PLAN, sl3_PLAN⟩)
  {n4_PLAN : Nat} {dd4_PLAN : Option Addr} {sl4_PLAN : Array (Option Value)} {t4_0_PLAN t4_1_PLAN t4_2_PLAN : Tok} (lq4_PLAN : K.lookup b4_PLAN = some ⟨.type "tuple", dd4_PLAN, .seq #[.str "line" t4_0_PLAN, .int 3 t4_1_PLAN, .int 4 t4_2_PLAN] n4_PLAN, sl4_PLAN⟩)
  {n5_PLAN : Nat} {dd5_PLAN : Option Addr} {sl5_PLAN : Array (Option Value)} {t5_0_PLAN t5_1_PLAN t5_2_PLAN : Tok} (lq5_PLAN : K.lookup b5_PLAN = some ⟨.type "tuple", dd5_PLAN, .seq #[.str "peg" t5_0_PLAN, .int 2 t5_1_PLAN, .int 3 t5_2_PLAN] n5_PLAN, sl5_PLAN⟩)
  {n6_PLAN : Nat} {dd6_PLAN : Option Addr} {sl6_PLAN : Array (Option Value)} {t6_0_PLAN t6_1_PLAN t6_2_PLAN : Tok} (lq6_PLAN : K.lookup b6_PLAN = some ⟨.type "tuple", dd6_PLAN, .seq #[.str "line" t6_0_PLAN, .int 6 t6_1_PLAN, .int 7 t6_2_PLAN] n6_PLAN, sl6_PLAN⟩)
  {n7_PLAN : Nat} {dd7_PLAN : Option Addr} {sl7_PLAN : Array (Option Value)} {t7_0_PLAN t7_1_PLAN t7_2_PLAN : Tok} (lq7_PLAN : K.lookup b7_PLAN = some ⟨.type "tuple", dd7_PLAN, .seq #[.str "line" t7_0_PLAN, .int 1 t7_1_PLAN, .int 2 t7_2_PLAN] n7_PLAN, sl7_PLAN⟩)
  {n8_PLAN : Nat} {dd8_PLAN : Option Addr} {sl8_PLAN : Array (Option Value)} {t8_0_PLAN t8_1_PLAN t8_2_PLAN : Tok} (lq8_PLAN : K.lookup b8_PLAN = some ⟨.type "tuple", dd8_PLAN, .seq #[.str "peg" t8_0_PLAN, .int 4 t8_1_PLAN, .int 5 t8_2_PLAN] n8_PLAN, sl8_PLAN⟩)
  {n9_PLAN : Nat} {dd9_PLAN : Option Addr} {sl9_PLAN : Array (Option Value)} {t9_0_PLAN t9_1_PLAN t9_2_PLAN : Tok} (lq9_PLAN : K.lookup b9_PLAN = some ⟨.type "tuple", dd9_PLAN, .seq #[.str "line" t9_0_PLAN, .int 4 t9_1_PLAN, .int 8 t9_2_PLAN] n9_PLAN, sl9_PLAN⟩)
  {n10_PLAN : Nat} {dd10_PLAN : Option Addr} {sl10_PLAN : Array (Option Value)} {t10_0_PLAN t10_1_PLAN t10_2_PLAN : Tok} (lq10_PLAN : K.lookup b10_PLAN = some ⟨.type "tuple", dd10_PLAN, .seq #[.str "peg" t10_0_PLAN, .int 0 t10_1_PLAN, .int 6 t10_2_PLAN] n10_PLAN, sl10_PLAN⟩)
  {t_LAST : Tok} (q_LAST : PySem.W.nsIn K mainGlobals "LAST" = some (some (.int 9 t_LAST)))
  (hlaw : ∀ ns : List Int, ns.length <= 63 -> zfy [.lst (ns.map .int)] = .ok (.bl true))
  : ∃ fd : FuncData, (∀ (s : Shared) (v : Value), BindsTo s fd ⟨[v], []⟩ [("_law_script", v)]) /\ ∀ base : Heap, K.In base -> base.Ns mainGlobals mg -> zgj l.prog w K mg base (CXe l.prog w) 11 fa fd ["_law_script"] (zql K) := by
 have e := hfa.symm.trans (xbp X G a38)
 cases e
 obtain ⟨f0, v0, F0⟩ := d0.go X G ["_law_cell", "_law_many"] (by kst_p2)
 obtain ⟨f1, v1, F1⟩ := d1.go X G ["_law_one", "_law_other", "_law_third"] (by walk_at "b3")
 obtain ⟨f2, v2, F2⟩ := d2.go X G ["_law_some"] (by kcj_m)
 obtain ⟨f3, v3, F3⟩ := d3.go X G ["_law_x", "_law_y", "_law_z"] (by walk_at "b3")
 obtain ⟨f4, v4, F4⟩ := d4.go X G ["_law_one", "_law_other"] (by kst_p2)
 obtain ⟨f5, v5, F5⟩ := d5.go X G ["_law_rows", "_law_place_here"] (by kst_p2)
 obtain ⟨f6, v6, F6⟩ := d6.go X G ["_law_some", "_law_rows"] (by kst_p2)
 obtain ⟨f7, v7, F7⟩ := d7.go X G ["_law_bow", "_law_place_here"] (by kst_p2)
 obtain ⟨f8, v8, F8⟩ := d8.go X G ["_law_some"] (by kcj_m)
 obtain ⟨f9, v9, F9⟩ := d9.go X G ["_law_places"] (by kcj_m)
 obtain ⟨f10, v10, F10⟩ := d10.go X G ["one", "other"] (by kst_p2)
 obtain ⟨f11, v11, F11⟩ := d11.go X G ["numbers"] (by kcj_m)
 obtain ⟨f12, v12, F12⟩ := d12.go X G ["one", "other"] (by kst_p2)
 obtain ⟨f13, v13, F13⟩ := d13.go X G ["one", "other"] (by kst_p2)
 obtain ⟨f14, v14, F14⟩ := d14.go X G ["one", "other"] (by kst_p2)
 obtain ⟨f15, v15, F15⟩ := d15.go X G ["one", "other"] (by kst_p2)
 obtain ⟨f16, v16, F16⟩ := d16.go X G ["place", "line"] (by kst_p2)
 obtain ⟨f17, v17, F17⟩ := d17.go X G ["places"] (by kcj_m)
 obtain ⟨f18, v18, F18⟩ := d18.go X G ["places"] (by kcj_m)
 obtain ⟨f19, v19, F19⟩ := d19.go X G ["thing"] (by kcj_m)
 obtain ⟨f20, v20, F20⟩ := d20.go X G ["three"] (by kcj_m)
 obtain ⟨f21, v21, F21⟩ := d21.go X G ["thing"] (by kcj_m)
 obtain ⟨f22, v22, F22⟩ := d22.go X G ["thing"] (by kcj_m)
 obtain ⟨f23, v23, F23⟩ := d23.go X G ["places", "many"] (by kst_p2)
 obtain ⟨f24, v24, F24⟩ := d24.go X G ["numbers"] (by kcj_m)
 obtain ⟨f25, v25, F25⟩ := d25.go X G ["pair"] (by kcj_m)
 obtain ⟨f26, v26, F26⟩ := d26.go X G ["five"] (by kcj_m)
 obtain ⟨f27, v27, F27⟩ := d27.go X G ["_law_some", "_law_five", "_law_curve_here"] (by walk_at "b3")
 obtain ⟨f28, v28, F28⟩ := d28.go X G ["thing"] (by kcj_m)
 obtain ⟨f29, v29, F29⟩ := d29.go X G ["known", "deed", "at"] (by walk_at "b3")
 obtain ⟨f30, v30, F30⟩ := d30.go X G ["one", "other"] (by kst_p2)
 obtain ⟨f31, v31, F31⟩ := d31.go X G ["places", "plan"] (by kst_p2)
 obtain ⟨f32, v32, F32⟩ := d32.go X G ["five", "place"] (by kst_p2)
 obtain ⟨f33, v33, F33⟩ := d33.go X G ["_law_five", "_law_place_here", "_law_same"] (by walk_at "b3")
 obtain ⟨f34, v34, F34⟩ := d34.go X G ["_law_found"] (by kcj_m)
 obtain ⟨f35, v35, F35⟩ := d35.go X G ["_law_found", "_law_due"] (by kst_p2)
 obtain ⟨f36, v36, F36⟩ := d36.go X G ["_law_bow", "_law_place_here"] (by kst_p2)
 obtain ⟨f37, v37, F37⟩ := d37.go X G ["_law_five", "_law_place_here"] (by kst_p2)
 have F38 := zqU (st := zhJ) l38 c38 k38
 have m38 := xbp X G a38
 have n_max := xaj X G z_max
 have n_range := xaj X G z_range
 have n_abs := xaj X G z_abs
 have n_len := xaj X G z_len
 have n_all := xaj X G z_all
 have n_isinstance := xaj X G z_isinstance
 have n_int := xaj X G z_int
 have n_bool := xaj X G z_bool
 have n_tuple := xaj X G z_tuple
 have n_list := xaj X G z_list
 have n_set := xaj X G z_set
 have n_zip := xaj X G z_zip
 have n_str := xaj X G z_str
 have n_enumerate := xaj X G z_enumerate
 have n_ValueError := xaj X G z_ValueError
 have c_ChalkError := xbp X G e_ChalkError
 have c_Same := xbp X G e_Same
 have c_NoDeed := xbp X G e_NoDeed
 have c_NoBow := xbp X G e_NoBow
 have nv_NoPlace := xaj X G v_NoPlace
 have nv_NoFloor := xaj X G v_NoFloor
 have nv_Endless := xaj X G v_Endless
 have nv_NoText := xaj X G v_NoText
 have nv_NoName := xaj X G v_NoName
 have nv_TooMany := xaj X G v_TooMany
 have nv_NoChange := xaj X G v_NoChange
 have nv_NoFrame := xaj X G v_NoFrame
 have nv_NoValue := xaj X G v_NoValue
 have nv_Unlike := xaj X G v_Unlike
 have nv_NoRatio := xaj X G v_NoRatio
 have nv_NoRow := xaj X G v_NoRow
 have x_NoBow : zkf K mg "NoBow" C_NoBow := zkf.mk' c_NoBow ⟨by (obtain ⟨_, hc, _⟩ := PySem.W.kw_along xga_NoBow; rw [hc]; rfl), xga_NoBow, xgh_NoBow, xbs_NoBow, xob_NoBow, xca_NoBow, xcg, xct⟩ xvv_NoBow (zof (zav.of (b := true) c_ChalkError t_NoBow_ChalkError (fun _ => u_NoBow_ChalkError)) (zav.no nv_NoPlace) (zav.of (b := false) c_Same t_NoBow_Same (fun z => nomatch z)) (zav.no nv_NoFloor) (zav.no nv_Endless) (zav.of (b := false) c_NoDeed t_NoBow_NoDeed (fun z => nomatch z)) (zav.no nv_NoText) (zav.no nv_NoName) (zav.no nv_TooMany) (zav.no nv_NoChange) (zav.no nv_NoFrame) (zav.no nv_NoValue) (zav.no nv_Unlike) (zav.no nv_NoRatio) (zav.of (b := true) c_NoBow t_NoBow_NoBow (fun _ => u_NoBow_NoBow)) (zav.no nv_NoRow))
 have x_Same : zkf K mg "Same" C_Same := zkf.mk' c_Same ⟨by (obtain ⟨_, hc, _⟩ := PySem.W.kw_along xga_Same; rw [hc]; rfl), xga_Same, xgh_Same, xbs_Same, xob_Same, xca_Same, xcg, xct⟩ xvv_Same (zof (zav.of (b := true) c_ChalkError t_Same_ChalkError (fun _ => u_Same_ChalkError)) (zav.no nv_NoPlace) (zav.of (b := true) c_Same t_Same_Same (fun _ => u_Same_Same)) (zav.no nv_NoFloor) (zav.no nv_Endless) (zav.of (b := false) c_NoDeed t_Same_NoDeed (fun z => nomatch z)) (zav.no nv_NoText) (zav.no nv_NoName) (zav.no nv_TooMany) (zav.no nv_NoChange) (zav.no nv_NoFrame) (zav.no nv_NoValue) (zav.no nv_Unlike) (zav.no nv_NoRatio) (zav.of (b := false) c_NoBow t_Same_NoBow (fun z => nomatch z)) (zav.no nv_NoRow))
 have x_NoDeed : zkf K mg "NoDeed" C_NoDeed := zkf.mk' c_NoDeed ⟨by (obtain ⟨_, hc, _⟩ := PySem.W.kw_along xga_NoDeed; rw [hc]; rfl), xga_NoDeed, xgh_NoDeed, xbs_NoDeed, xob_NoDeed, xca_NoDeed, xcg, xct⟩ xvv_NoDeed (zof (zav.of (b := true) c_ChalkError t_NoDeed_ChalkError (fun _ => u_NoDeed_ChalkError)) (zav.no nv_NoPlace) (zav.of (b := false) c_Same t_NoDeed_Same (fun z => nomatch z)) (zav.no nv_NoFloor) (zav.no nv_Endless) (zav.of (b := true) c_NoDeed t_NoDeed_NoDeed (fun _ => u_NoDeed_NoDeed)) (zav.no nv_NoText) (zav.no nv_NoName) (zav.no nv_TooMany) (zav.no nv_NoChange) (zav.no nv_NoFrame) (zav.no nv_NoValue) (zav.no nv_Unlike) (zav.no nv_NoRatio) (zav.of (b := false) c_NoBow t_NoDeed_NoBow (fun z => nomatch z)) (zav.no nv_NoRow))
 have h_at : zxw K mg ["NoDeed", "Same"] := by
  intro c hc C hC
  simp only [xae, xaq, or_false] at hc
  rcases hc with rfl | rfl
  ·rw [c_NoDeed] at hC; cases hC; exact ⟨ihd_NoDeed, ina_NoDeed⟩
  ·rw [c_Same] at hC; cases hC; exact ⟨ihd_Same, ina_Same⟩
 refine ⟨PySem.W.fnOf "law" "law" (zch zhJ) (zbs zhJ) (zai zhJ) .none kV38 dc38 pm38 an38 cd38 ct38, fun s v => .of_eq rfl, fun base _ _ => ?_⟩
 have FI_Same : zgj l.prog w K mg base (CXe l.prog w) 1 fi_Same (PySem.W.fnOf "__init__" "Same.__init__" (zch zeQ) (zbs zeQ) (zai zeQ) (.ref td_Same) kVi_Same dci_Same pmi_Same ani_Same cdi_Same cti_Same) ["self", "at"] (spX C_Same "at") := zsq li_Same ci_Same zqO (fun vs H Q E h => by obtain ⟨a, v, rfl, _⟩ := h; rfl) (fun A outer s H vs Q E hr h => by
  obtain ⟨a, v, rfl, h1, q⟩ := h
  exact ⟨_, zkj (zr2 (pv 0) (pv 1) rfl), v, rfl, .ref a, rfl, a, C_Same, rfl, h1, ⟨isa_Same, (zkD lc_Same yk_ ln_Same sk_Same ni_Same fn_Same).2, xob_Same, itk_Same, ihd_Same⟩, q⟩)
 have xi_Same_0 : XI l.prog w K mg base "Same" C_Same [.non] := ⟨x_Same, fi_Same, _, [.none], [.non], (zkD lc_Same yk_ ln_Same sk_Same ni_Same fn_Same).1, FI_Same, (fun s us kin hl => by
  have hl : us.length = 1 := by simpa using hl
  match us, hl with
  | [_], _ => exact PySem.W.binds_K kin rfl lt_Same rfl rfl rfl), .cons rfl .nil, fun _ => Reps.cons rfl Reps.nil⟩
 have FI_NoDeed : zgj l.prog w K mg base (CXe l.prog w) 1 fi_NoDeed (PySem.W.fnOf "__init__" "NoDeed.__init__" (zch zcI) (zbs zcI) (zai zcI) .none kVi_NoDeed dci_NoDeed pmi_NoDeed ani_NoDeed cdi_NoDeed cti_NoDeed) ["self", "at"] (spX C_NoDeed "at") := zsq li_NoDeed ci_NoDeed zmW (fun vs H Q E h => by obtain ⟨a, v, rfl, _⟩ := h; rfl) (fun A outer s H vs Q E hr h => by
  obtain ⟨a, v, rfl, h1, q⟩ := h
  exact ⟨_, zkj (zr2 (pv 0) (pv 1) rfl), v, rfl, .ref a, rfl, a, C_NoDeed, rfl, h1, ⟨isa_NoDeed, (zkD lc_NoDeed yk_ ln_NoDeed sk_NoDeed ni_NoDeed fn_NoDeed).2, xob_NoDeed, itk_NoDeed, ihd_NoDeed⟩, q⟩)
 have k_MOST_PEGS_is : ∃ u v, mg "MOST_PEGS" = some u /\ zbg v u /\ ∀ G, Rep K mg G zcy v := ⟨_, .int 12, xbp X G q_MOST_PEGS, ⟨_, rfl⟩, fun _ => rfl⟩
 have k_PLAN_is : ∃ u v, mg "PLAN" = some u /\ zbg v u /\ ∀ G, Rep K mg G zl9 v := ⟨_, .ref a_PLAN, xbp X G q_PLAN, rfl, fun _ => zqr (l := [b0_PLAN, b1_PLAN, b2_PLAN, b3_PLAN, b4_PLAN, b5_PLAN, b6_PLAN, b7_PLAN, b8_PLAN, b9_PLAN, b10_PLAN]) lq_PLAN rfl (show 11 <= 100 by decide) (Reps.cons (zbL (l := [.s "line" t0_0_PLAN, .i 0 t0_1_PLAN, .i 5 t0_2_PLAN]) lq0_PLAN rfl (show 3 <= 100 by decide)) (Reps.cons (zbL (l := [.s "line" t1_0_PLAN, .i 2 t1_1_PLAN, .i 3 t1_2_PLAN]) lq1_PLAN rfl (show 3 <= 100 by decide)) (Reps.cons (zbL (l := [.s "peg" t2_0_PLAN, .i 0 t2_1_PLAN, .i 1 t2_2_PLAN]) lq2_PLAN rfl (show 3 <= 100 by decide)) (Reps.cons (zbL (l := [.s "line" t3_0_PLAN, .i 0 t3_1_PLAN, .i 1 t3_2_PLAN]) lq3_PLAN rfl (show 3 <= 100 by decide)) (Reps.cons (zbL (l := [.s "line" t4_0_PLAN, .i 3 t4_1_PLAN, .i 4 t4_2_PLAN]) lq4_PLAN rfl (show 3 <= 100 by decide)) (Reps.cons (zbL (l := [.s "peg" t5_0_PLAN, .i 2 t5_1_PLAN, .i 3 t5_2_PLAN]) lq5_PLAN rfl (show 3 <= 100 by decide)) (Reps.cons (zbL (l := [.s "line" t6_0_PLAN, .i 6 t6_1_PLAN, .i 7 t6_2_PLAN]) lq6_PLAN rfl (show 3 <= 100 by decide)) (Reps.cons (zbL (l := [.s "line" t7_0_PLAN, .i 1 t7_1_PLAN, .i 2 t7_2_PLAN]) lq7_PLAN rfl (show 3 <= 100 by decide)) (Reps.cons (zbL (l := [.s "peg" t8_0_PLAN, .i 4 t8_1_PLAN, .i 5 t8_2_PLAN]) lq8_PLAN rfl (show 3 <= 100 by decide)) (Reps.cons (zbL (l := [.s "line" t9_0_PLAN, .i 4 t9_1_PLAN, .i 8 t9_2_PLAN]) lq9_PLAN rfl (show 3 <= 100 by decide)) (Reps.cons (zbL (l := [.s "peg" t10_0_PLAN, .i 0 t10_1_PLAN, .i 6 t10_2_PLAN]) lq10_PLAN rfl (show 3 <= 100 by decide)) Reps.nil)))))))))))⟩
 have k_LAST_is : ∃ u v, mg "LAST" = some u /\ zbg v u /\ ∀ G, Rep K mg G zma v := ⟨_, .int 9, xbp X G q_LAST, ⟨_, rfl⟩, fun _ => rfl⟩
 have G0 : zaC l.prog w K mg base 1 "_law_numbers" zaO := zho (k := 0) F0 n_max n_range
 have G1 : zaC l.prog w K mg base 1 "_law_det" zaP := zkL (k := 0) F1
 have G2 := zhE (k := 1) F2 n_range G1
 have G3 : zaC l.prog w K mg base 1 "_law_lowest" zah := zhF (k := 0) F3 n_abs
 have G4 : zaC l.prog w K mg base 1 "_law_dot" za1 := zkM (k := 0) F4
 have G5 := zkN (k := 1) F5 G3 G4
 have G6 := ziI (k := 2) F6 n_range n_len G5
 have G7 := zgh (k := 1) F7 G3
 have G8 := ziJ (k := 1) F8 G3
 have G9 := ziK (k := 1) F9 n_range n_len G1
 have G10 : zaC l.prog w K mg base 1 "divisor" zbm := zmX (k := 0) F10 n_abs
 have G11 := zmY (k := 1) F11 G10
 have G12 : zaC l.prog w K mg base 1 "cross" zfM := zqP (k := 0) F12
 have G13 := zhG (k := 2) F13 G11 (G12.mono (by decide : 1 <= 2))
 have G14 := zmZ (k := 3) F14 G13
 have G15 : zaC l.prog w K mg base 1 "dot" zhd := zv9 (k := 0) F15
 have G16 := ztG (k := 1) F16 G15
 have G17 := zpp (k := 4) F17 n_len n_all G14 (G16.mono (by decide : 2 <= 4))
 have G18 := zeR (k := 5) F18 n_range n_len G17
 have G19 : zaC l.prog w K mg base 1 "is_whole" zaT := zkO (k := 0) F19 n_isinstance n_int n_bool
 have G20 := zhH (k := 1) F20 n_all G19
 have G21 := zkP (k := 2) F21 n_isinstance n_tuple n_len G20 G11
 have G22 := zkQ (k := 3) F22 n_isinstance n_list n_len n_all n_set k_MOST_PEGS_is G21
 have G23 := zhp (k := 6) F23 c_NoBow y_NoBow x_NoBow n_len (G22.mono (by decide : 4 <= 6)) G18
 have G24 := zpq (k := 1) F24 n_tuple G10
 have G25 : zaC l.prog w K mg base 1 "pair_as_bow" za6 := zhI (k := 0) F25 n_range
 have G26 := zpr (k := 7) F26 n_zip G23 (G14.mono (by decide : 4 <= 7)) (G15.mono (by decide : 1 <= 7)) (G25.mono (by decide : 1 <= 7)) (G24.mono (by decide : 2 <= 7))
 have G27 := ziL (k := 8) F27 (G9.mono (by decide : 2 <= 8)) (G8.mono (by decide : 2 <= 8)) (G7.mono (by decide : 2 <= 8)) G26 (G3.mono (by decide : 1 <= 8))
 have G28 := zm0 (k := 1) F28 n_isinstance n_tuple n_len n_str G19
 have G29 : zaC l.prog w K mg base 1 "pair_of" zaU := zm1 (k := 0) F29 n_len
 have G30 := zkR (k := 3) F30 G13
 have G31 := zps (k := 4) F31 n_list n_enumerate (G28.mono (by decide : 2 <= 4)) (G29.mono (by decide : 1 <= 4)) G14 G30
 have G32 := zqQ (k := 7) F32 c_Same xi_Same_0 (by decide) n_list k_PLAN_is k_LAST_is G23 (G31.mono (by decide : 5 <= 7))
 have G33 := zhq (k := 8) F33 c_ChalkError c_Same c_NoBow h_at n_isinstance n_ValueError G32
 have G34 : zaC l.prog w K mg base 1 "_law_whole" zbY := ziM (k := 0) F34 n_isinstance n_int n_bool
 have G35 := zgi (k := 1) F35 n_isinstance n_tuple n_len G34
 have G36 := ziN (k := 2) F36 (G4.mono (by decide : 1 <= 2)) G7
 have G37 := ziO (k := 9) F37 n_list (G9.mono (by decide : 2 <= 9)) G33 (G26.mono (by decide : 8 <= 9)) (G32.mono (by decide : 8 <= 9)) (G35.mono (by decide : 2 <= 9)) (G3.mono (by decide : 1 <= 9)) (G1.mono (by decide : 1 <= 9)) (G36.mono (by decide : 3 <= 9)) (G4.mono (by decide : 1 <= 9)) (G7.mono (by decide : 2 <= 9))
 exact zvB (zwa (P := l.prog) (w := w) (base := base) (k := 10) F38 n_range n_tuple (G0.mono (by decide : 1 <= 10)) (G2.mono (by decide : 2 <= 10)) (G6.mono (by decide : 3 <= 10)) (G8.mono (by decide : 2 <= 10)) (G27.mono (by decide : 9 <= 10)) G37 (G33.mono (by decide : 9 <= 10))) hlaw
end Kx
def PySem.W.Fast.tw15534605714847539840 := 0
def PySem.W.Fast.tw15889275818737561280 := 0
def PySem.W.Fast.tw10748148337863396096 := 0
def PySem.W.Fast.tw7769648268754135809 := 0
def PySem.W.Fast.tw9723815857227278113 := 0
def PySem.W.Fast.tw4162536878434139970 := 0
def PySem.W.Fast.tw5667271825184941124 := 0
def PySem.W.Fast.tw17183684676980815972 := 0
def PySem.W.Fast.tw9328947280292192519 := 0
def PySem.W.Fast.tw16591273832108389832 := 0
def PySem.W.Fast.tw7472714804473519337 := 0
def PySem.W.Fast.tw4533124233413949643 := 0
def PySem.W.Fast.tw18337257248411726029 := 0
def PySem.W.Fast.tw16042272751356602669 := 0
def PySem.W.Fast.tw8818940795106307732 := 0
def PySem.W.Fast.tw1787066661610993301 := 0
def PySem.W.Fast.tw506001131866018359 := 0
def PySem.W.Fast.tw9026507082852986936 := 0
def PySem.W.Fast.tw8651298448496032797 := 0
open PySem.W PyProof.Rows
local macro_rules | `(tactic| walk_at "FD") => `(tactic| (refine' DL.FD.mk' ?a ?l ?c ?k; (case a => k_is); (case l => k_is); (case c => k_is); (case k => k_is)))
set_option maxRecDepth 100000 in
set_option maxHeartbeats 0 in
theorem PySem.Challenge.cw_chalkline_k78_met_again_holds : PySem.Challenge.rw_chalkline_k78_met_again.Holds := by
 w_on; o_law; k_head; (case hw => w_witness2)
 k_fill
 refine DL.walkD (l := PySem.Challenge.rw_chalkline_k78_met_again) 11 ⟨rfl, by decide, by decide⟩ rfl rfl (fun w h Y => PySem.W.kIn_of Y) ?F
 case F =>
  intro w mg fa h KX G hmg
  refine' Kx.all_mk KX G hmg ?d0 ?d1 ?d2 ?d3 ?d4 ?d5 ?d6 ?d7 ?d8 ?d9 ?d10 ?d11 ?d12 ?d13 ?d14 ?d15 ?d16 ?d17 ?d18 ?d19 ?d20 ?d21 ?d22 ?d23 ?d24 ?d25 ?d26 ?d27 ?d28 ?d29 ?d30 ?d31 ?d32 ?d33 ?d34 ?d35 ?d36 ?d37 ?a38 ?l38 ?c38 ?k38 ?z_max ?z_range ?z_abs ?z_len ?z_all ?z_isinstance ?z_int ?z_bool ?z_tuple ?z_list ?z_set ?z_zip ?z_str ?z_enumerate ?z_ValueError ?e_ChalkError ?e_Same ?e_NoDeed ?e_NoBow ?y_NoBow ?xga_NoBow ?xgh_NoBow ?xbs_NoBow ?xob_NoBow ?xca_NoBow ?xvv_NoBow ?t_NoBow_ChalkError ?u_NoBow_ChalkError ?v_NoPlace ?t_NoBow_Same ?v_NoFloor ?v_Endless ?t_NoBow_NoDeed ?v_NoText ?v_NoName ?v_TooMany ?v_NoChange ?v_NoFrame ?v_NoValue ?v_Unlike ?v_NoRatio ?t_NoBow_NoBow ?u_NoBow_NoBow ?v_NoRow ?xga_Same ?xgh_Same ?xbs_Same ?xob_Same ?xca_Same ?xvv_Same ?t_Same_ChalkError ?u_Same_ChalkError ?t_Same_Same ?u_Same_Same ?t_Same_NoDeed ?t_Same_NoBow ?xga_NoDeed ?xgh_NoDeed ?xbs_NoDeed ?xob_NoDeed ?xca_NoDeed ?xvv_NoDeed ?t_NoDeed_ChalkError ?u_NoDeed_ChalkError ?t_NoDeed_Same ?t_NoDeed_NoDeed ?u_NoDeed_NoDeed ?t_NoDeed_NoBow ?in_Same ?li_Same ?ci_Same ?fn_Same ?lt_Same ?lc_Same ?ln_Same ?sk_Same ?ni_Same ?isa_Same ?itk_Same ?ihd_Same ?ina_Same ?in_NoDeed ?li_NoDeed ?ci_NoDeed ?fn_NoDeed ?lc_NoDeed ?ln_NoDeed ?sk_NoDeed ?ni_NoDeed ?isa_NoDeed ?itk_NoDeed ?ihd_NoDeed ?ina_NoDeed ?yk_ ?xcg ?xct ?q_MOST_PEGS ?q_PLAN ?lq_PLAN ?lq0_PLAN ?lq1_PLAN ?lq2_PLAN ?lq3_PLAN ?lq4_PLAN ?lq5_PLAN ?lq6_PLAN ?lq7_PLAN ?lq8_PLAN ?lq9_PLAN ?lq10_PLAN ?q_LAST ?hlaw
  (case d0 | d1 | d2 | d3 | d4 | d5 | d6 | d7 | d8 | d9 | d10 | d11 | d12 | d13 | d14 | d15 | d16 | d17 | d18 | d19 | d20 | d21 | d22 | d23 | d24 | d25 | d26 | d27 | d28 | d29 | d30 | d31 | d32 | d33 | d34 | d35 | d36 | d37 => walk_at "FD")
  (case a38 | l38 | c38 | k38 | z_max | z_range | z_abs | z_len | z_all | z_isinstance | z_int | z_bool | z_tuple | z_list | z_set | z_zip | z_str | z_enumerate | z_ValueError | e_ChalkError | e_Same | e_NoDeed | e_NoBow => k_is)
  (case y_NoBow => k_exc)
  (case xga_NoBow | xgh_NoBow | xbs_NoBow | xob_NoBow | xca_NoBow => k_is)
  (case xvv_NoBow | t_NoBow_ChalkError => kit_is)
  (case u_NoBow_ChalkError => kts_exm)
  (case v_NoPlace => k_is)
  (case t_NoBow_Same => kit_is)
  (case v_NoFloor | v_Endless => k_is)
  (case t_NoBow_NoDeed => kit_is)
  (case v_NoText | v_NoName | v_TooMany | v_NoChange | v_NoFrame | v_NoValue | v_Unlike | v_NoRatio => k_is)
  (case t_NoBow_NoBow => kit_is)
  (case u_NoBow_NoBow => kts_exm)
  (case v_NoRow | xga_Same | xgh_Same | xbs_Same | xob_Same | xca_Same => k_is)
  (case xvv_Same | t_Same_ChalkError => kit_is)
  (case u_Same_ChalkError => kts_exm)
  (case t_Same_Same => kit_is)
  (case u_Same_Same => kts_exm)
  (case t_Same_NoDeed | t_Same_NoBow => kit_is)
  (case xga_NoDeed | xgh_NoDeed | xbs_NoDeed | xob_NoDeed | xca_NoDeed => k_is)
  (case xvv_NoDeed | t_NoDeed_ChalkError => kit_is)
  (case u_NoDeed_ChalkError => kts_exm)
  (case t_NoDeed_Same | t_NoDeed_NoDeed => kit_is)
  (case u_NoDeed_NoDeed => kts_exm)
  (case t_NoDeed_NoBow => kit_is)
  (case in_Same | li_Same | ci_Same | fn_Same | lt_Same | lc_Same | ln_Same => k_is)
  (case sk_Same => rfl)
  (case ni_Same | isa_Same | itk_Same | ihd_Same | ina_Same | in_NoDeed | li_NoDeed | ci_NoDeed | fn_NoDeed | lc_NoDeed | ln_NoDeed => k_is)
  (case sk_NoDeed => rfl)
  (case ni_NoDeed | isa_NoDeed | itk_NoDeed | ihd_NoDeed | ina_NoDeed => k_is)
  (case yk_ => k_exc)
  (case xcg | xct | q_MOST_PEGS | q_PLAN | lq_PLAN | lq0_PLAN | lq1_PLAN | lq2_PLAN | lq3_PLAN | lq4_PLAN | lq5_PLAN | lq6_PLAN | lq7_PLAN | lq8_PLAN | lq9_PLAN | lq10_PLAN | q_LAST => k_is)
  (case hlaw => exact Lk78.law_ok)
end