import PyProof.Rows.All
import Wide.All
import OpenK.AllK
import Wide.FinOn
import Lean
import PyProof.EqAt
import PyProof.EqKinds
import PyProof.TupleCall
import PyProof.NeKinds
import KE.KTryMore
import PyProof.NsDelKeeps
import PySem.SetTable
import PyProof.StrLawsChain
import PyProof.StrBlockL
import KE.KIntText
import PyProof.DictTable
import PyProof.SliceStr2
import PyProof.MeetsStr
import PyProof.StrWalks
import PyProof.TupleKey
import PyProof.SetKind
import PyProof.Rows.SetFrom
import PyProof.ZipIter
import PyProof.Rows.ZipGen
import PyProof.LayNew
import PyProof.ExcInit
import PyProof.ExcClass3
import PyProof.EnumFor
import PyProof.EnumMake
import PyProof.EnumStmt
import PyProof.Rows.StrNews
import PySem.Challenge.RW_chalkline_k80_six
set_option Elab.async false
set_option linter.all false
set_option maxRecDepth 100000
set_option maxHeartbeats 1000000
section
open PySem PyProof.Rows
abbrev xFg := PySem.W.Frag
abbrev xaa := @Heap.get?_push_of_some
abbrev xab := @Heap.lt_size
abbrev xad := @Nat.le_refl
abbrev xae := @List.mem_cons_of_mem
abbrev xaf := @List.mem_cons
abbrev xag := @List.length_map
abbrev xah := @List.size_toArray
abbrev xai := @PySem.W.mg_none_of
abbrev xaj := @List.getElem?_eq_some_iff
abbrev xak := @Nat.lt_of_lt_of_le
abbrev xal := @List.getElem?_set_ne
abbrev xam := @Nat.ne_of_lt
abbrev xan := @List.mem_cons_self
abbrev xao := @List.getElem?_eq_getElem
abbrev xap := @Prod.ext
abbrev xaq := @List.not_mem_nil
abbrev xar := @Heap.get?_push_size
abbrev xas := @List.length_cons
abbrev xat := @Array.length_toList
abbrev xau := @Bool.false_ne_true
abbrev xav := @Array.getD_eq_getD_getElem?
abbrev xaw := @Array.getElem?_toList
abbrev xax := @Ne.symm
abbrev xay := @Bool.and_eq_true
abbrev xaz := @Int.mul_eq_zero
abbrev xa0 := @List.getElem?_set_self
abbrev xa1 := @List.all_eq_true
abbrev xa2 := @List.filterMap_cons_some
abbrev xa3 := @List.mem_range
abbrev xa4 := @Array.getElem?_eq_some_iff
abbrev xa5 := @List.mem_append_right
abbrev xa6 := @Nat.le_trans
abbrev xa7 := @List.map_cons
abbrev xa8 := @List.length_take
abbrev xa9 := @Classical.byContradiction
abbrev xba := @Heap.size_push
abbrev xbb := @Option.isSome_iff_exists
abbrev xbc := @List.filterMap_cons_none
abbrev xbd := @List.mem_append
abbrev xbe := @List.mem_of_getElem?
abbrev xbf := @List.mem_map
abbrev xbg := @Heap.get?_update_other
abbrev xbh := @Array.getElem?_eq_getElem
abbrev xbi := @List.mem_singleton
abbrev xbj := @List.getElem_of_mem
abbrev xbk := @Nat.le_add_right
abbrev xbl := @Heap.get?_push_at
abbrev xbm := @Nat.zero_add
abbrev xbn := @Nat.lt_irrefl
abbrev xbo := @PySem.W.mg_of
abbrev xbp := @List.mem_filterMap
abbrev xbq := @Nat.lt_of_le_of_lt
abbrev xbr := @List.mem_filter
abbrev xbt := @Nat.ne_of_gt
abbrev xbu := @Int.emod_nonneg
abbrev xbv := @List.getElem?_map
abbrev xbw := @List.length_drop
abbrev xbx := @List.lookup_cons
abbrev xby := @List.length_append
abbrev xbz := @Int.mul_zero
abbrev xb0 := @Int.emod_lt_of_pos
abbrev xb1 := @Heap.get?_update_self
abbrev xb2 := @List.map_append
abbrev xb3 := @List.getElem?_append_left
abbrev xb4 := @List.getElem_mem
abbrev xb5 := @List.map_map
abbrev xb6 := @List.exists_of_findSome?_eq_some
abbrev xb7 := @List.append_nil
abbrev xb8 := @Int.natAbs_natCast
abbrev xb9 := @List.getElem?_toArray
abbrev xcb := @List.mem_append_left
abbrev xcc := @Heap.get?_push_cases
abbrev xcd := @List.getElem?_append_right
abbrev xcf := @List.findSome?_eq_none_iff
abbrev xch := @Nat.zero_le
abbrev xci := @List.filterMap_cons
abbrev xcj := @List.nodup_cons
abbrev xck := @List.forIn_cons
abbrev xcl := @Bool.eq_iff_iff
abbrev xcm := @Int.eq_of_mul_eq_mul_left
abbrev xcn := @List.pairwise_iff_getElem
abbrev xco := @Nat.le_of_lt
abbrev xcp := @Int.natAbs_mul
abbrev xcq := @Nat.mod_lt
abbrev xcr := @List.getElem?_replicate
abbrev xcs := @Nat.eq_zero_of_zero_dvd
abbrev xcu := @List.getElem?_cons_succ
abbrev xcv := @Option.map_eq_some_iff
abbrev xcw := @Array.toList_filterMap
abbrev xcx := @List.map_take
abbrev xcy := @Nat.gcd_dvd_left
abbrev xcz := @Nat.lt_succ_self
abbrev xc0 := @List.zipIdx_cons
abbrev xc1 := @List.filter_cons
abbrev xc2 := @List.length_replicate
abbrev xc3 := @Int.natAbs_dvd_natAbs
abbrev xc4 := @List.getElem?_zipWith
abbrev xc5 := @List.of_mem_zip
abbrev xc6 := @List.map_nil
abbrev xc7 := @Int.zero_sub
abbrev xc8 := @List.zipIdx_nil
abbrev xc9 := @List.length_zip
abbrev xda := @List.toList_toArray
abbrev xdb := @List.length_zipWith
abbrev xdc := @List.forIn_nil
abbrev xdd := @Bool.not_false
end
open PySem
section
namespace L2
open PySem.Spec PyProof.Rows
abbrev Key := Sum Int Str
def zta : Key -> Value -> Bool
 | .inl k, v => Value.isInt k v
 | .inr x, v => Value.isStrOf x v
def keyH (w : World) : Key -> Int
 | .inl k => hashInt k
 | .inr x => hashStr w x
theorem zaY : ∀ {k : Key} {v : Value}, zta k v = true -> (∃ i t, k = Sum.inl i /\ v = Value.int i t) \/ (∃ x t, k = Sum.inr x /\ v = Value.str x t)
 | .inl i, v, h => by
  obtain ⟨t, e⟩ := Value.isInt_shape (k := i) (v := v) h
  exact .inl ⟨i, t, rfl, e⟩
 | .inr x, v, h => by
  obtain ⟨t, e⟩ := Value.isStrOf_shape (x := x) (v := v) h
  exact .inr ⟨x, t, rfl, e⟩
theorem ztb (a b : Int) : decide ((Sum.inl a : Key) = Sum.inl b) = (a == b) := by
 by_cases e : a = b
 ·subst e; simp
 ·have h : ¬ (Sum.inl a : Key) = Sum.inl b := fun q => e (Sum.inl.inj q)
  rw [decide_eq_false h]
  exact (beq_eq_false_iff_ne.mpr e).symm
theorem ztc (a b : Str) : decide ((Sum.inr a : Key) = Sum.inr b) = decide (a = b) := by
 by_cases e : a = b
 ·subst e; simp
 ·have h : ¬ (Sum.inr a : Key) = Sum.inr b := fun q => e (Sum.inr.inj q)
  rw [decide_eq_false h, decide_eq_false e]
theorem ztd (a : Int) (b : Str) : decide ((Sum.inl a : Key) = Sum.inr b) = false := decide_eq_false (fun q => nomatch q)
theorem zte (a : Str) (b : Int) : decide ((Sum.inr a : Key) = Sum.inl b) = false := decide_eq_false (fun q => nomatch q)
def zmf (prog : Program) (w : World) : PySem.KeyKind prog w Key where
 is := zta
 hash := keyH w
 inj := fun v a b ha hb => by
  rcases zaY ha with ⟨i, t, rfl, rfl⟩ | ⟨x, t, rfl, rfl⟩
  ·rcases zaY hb with ⟨j, u, rfl, e⟩ | ⟨y, u, rfl, e⟩
   ·injection e with e1 _; rw [e1]
   ·exact nomatch e
  ·rcases zaY hb with ⟨j, u, rfl, e⟩ | ⟨y, u, rfl, e⟩
   ·exact nomatch e
   ·injection e with e1 _; rw [e1]
 byValue := fun k v h => by
  rcases zaY h with ⟨i, t, rfl, rfl⟩ | ⟨x, t, rfl, rfl⟩ <;> rfl
 pyHash := fun hv h => by
  rcases zaY hv with ⟨i, t, rfl, rfl⟩ | ⟨x, t, rfl, rfl⟩
  ·exact wpAny_pyHash_int h
  ·exact wpAny_pyHash_str h
 eqBool := fun hu hv h => by
  rcases zaY hu with ⟨i, t, rfl, rfl⟩ | ⟨x, t, rfl, rfl⟩
  ·rcases zaY hv with ⟨j, u, rfl, rfl⟩ | ⟨y, u, rfl, rfl⟩
   ·rw [ztb] at h; exact wpAny_eqBool_int h
   ·rw [ztd] at h; exact SeqAt.EqAt.int_str i t y u _ _ _ _ h
  ·rcases zaY hv with ⟨j, u, rfl, rfl⟩ | ⟨y, u, rfl, rfl⟩
   ·rw [zte] at h; exact SeqAt.EqAt.str_int x t j u _ _ _ _ h
   ·rw [ztc] at h; exact wpAny_eqBool_str h
 «strs» := fun k x t v h => by
  rcases zaY h with ⟨i, u, rfl, e⟩ | ⟨y, u, rfl, e⟩
  ·exact nomatch e
  ·injection e with e1 _
   subst e1
   cases v <;> rfl
end L2
namespace L2
open PySem.Spec PyProof.Rows
inductive V where
 | non | bl (b : Bool) | int (i : Int) | str (x : Str) | byt (b : Array UInt8) | flt (b : UInt64) | ref (a : Addr) | ty (n : String)
 deriving DecidableEq
def zbf : V -> Value -> Prop
 | .non, u => u = Value.none
 | .bl b, u => u = Value.bool b
 | .int i, u => ∃ t, u = Value.int i t
 | .str x, u => ∃ t, u = Value.str x t
 | .byt b, u => ∃ t, u = Value.bytes b t
 | .flt b, u => ∃ t, u = Value.float b t
 | .ref a, u => u = Value.ref a
 | .ty n, u => u = Value.type n
abbrev zbg : List V -> List Value -> Prop := Paired zbf
theorem zbg.length {xs : List V} {us : List Value} (r : zbg xs us) : xs.length = us.length := Paired.length r
theorem zbg.get : ∀ {xs : List V} {us : List Value} {i : Nat} {x : V}, zbg xs us -> xs[i]? = some x -> ∃ u, us[i]? = some u /\ zbf x u
 | _, _, _, _, .nil, e => by simp at e
 | _, _, 0, _, .cons r _, e => by simp at e; subst e; exact ⟨_, rfl, r⟩
 | _, _, i + 1, x, .cons _ t, e => by
  obtain ⟨u, h1, h2⟩ := zbg.get (i := i) (x := x) t (by simpa using e)
  exact ⟨u, by simpa using h1, h2⟩
theorem zbg.set {x : V} {u : Value} (r : zbf x u) : ∀ {xs : List V} {us : List Value} (i : Nat), zbg xs us -> zbg (xs.set i x) (us.set i u)
 | _, _, _, .nil => .nil
 | _, _, 0, .cons _ t => .cons r t
 | _, _, i + 1, .cons q t => .cons q (zbg.set r i t)
theorem zbg.append : ∀ {xs ys : List V} {us ws : List Value}, zbg xs us -> zbg ys ws -> zbg (xs ++ ys) (us ++ ws)
 | _, _, _, _, .nil, s => s
 | _, _, _, _, .cons r t, s => .cons r (zbg.append t s)
theorem zbg.take : ∀ {xs : List V} {us : List Value} (n : Nat), zbg xs us -> zbg (xs.take n) (us.take n)
 | _, _, 0, _ => .nil
 | _, _, _ + 1, .nil => .nil
 | _, _, n + 1, .cons r t => .cons r (zbg.take n t)
theorem zbg.drop : ∀ {xs : List V} {us : List Value} (n : Nat), zbg xs us -> zbg (xs.drop n) (us.drop n)
 | _, _, 0, r => r
 | _, _, _ + 1, .nil => .nil
 | _, _, n + 1, .cons _ t => zbg.drop n t
def RelO : Option V -> Option Value -> Prop
 | some v, some u => zbf v u
 | none, none => True
 | _, _ => False
def KV {κ : Type} : List (κ × V) -> List (κ × Value) -> Prop := Paired fun (p : κ × V) (q : κ × Value) => p.1 = q.1 /\ zbf p.2 q.2
def kV : Key -> V
 | .inl i => .int i
 | .inr x => .str x
inductive HO where
 | lst (xs : List V)
 | tup (xs : List V)
 | dK (kvs : List (Key × V)) | dT (kvs : List (List Key × V))
 | set (S : Int -> Bool) (n : Nat)
 | ins (C dx : Addr) (fs : List (Str × V))
 | own (x : Addr)
 | xd (fs : List (Str × V))
 | met (f x : Addr)
 | rng (lo hi : Int)
 | frz (o : Obj) (u : HO)
 | tbl (ps : Array Value)
 | ext (φ : Heap -> Prop)
abbrev Hp := Addr -> Option HO
def upd (H : Hp) (a : Addr) (o : HO) : Hp := fun b => if b = a then some o else H b
theorem zap {H : Hp} {a : Addr} {o : HO} : upd H a o a = some o := by unfold upd; rw [if_pos rfl]
theorem zam {H : Hp} {a b : Addr} {o : HO} (h : b ≠ a) : upd H a o b = H b := by unfold upd; rw [if_neg h]
theorem zai {H : Hp} {a b : Addr} {o : HO} (h : H a = some o) (h' : H b = none) : a ≠ b := by
 intro e; subst e; rw [h] at h'; cases h'
section
variable (P : Program) (w : World)
def zdf (H : Hp) (h : Heap) (a : Addr) : HO -> Prop
 | .lst xs => xs.length <= sizeLine /\ ∃ (its : List Value) (n : Nat), zbg xs its /\ h.get? a = some { cls := .type "list", data := .seq its.toArray n }
 | .tup xs => xs.length <= sizeLine /\ ∃ its : List Value, zbg xs its /\ IsTup h a its.toArray
 | .dK kvs => kvs.length <= sizeLine /\ (a == sysModules) = false /\ ∃ vs, KV kvs vs /\ h.DictOf (zmf P w) a vs
 | .dT kvs => kvs.length <= sizeLine /\ (a == sysModules) = false /\ ∃ xs : List (List Key × Addr × Value),
   Paired (fun (p : List Key × V) (q : List Key × Addr × Value) => p.1 = q.1 /\ H q.2.1 = some (.tup (p.1.map kV)) /\ zbf p.2 q.2.2) kvs xs /\
   ∃ o es ep, h.get? a = some o /\ o.ExactDict /\ o.data = .dict es ep /\ es.toList = xs.map (entryOfKey (tupleKind (zmf P w))) /\ (xs.map (·.1)).Nodup
 | .set S n => h.SetOf (intKind P w) a S n
 | .ins C dx fs => H dx = some (.own a) /\ fs.length <= 1000 /\ dx ≠ a /\ h.get? a = some (PySem.W.instObj C dx) /\
   ∃ mA, h.Ns1 dx mA /\ (∀ f, RelO (fs.lookup f) (mA f)) /\ PySem.Within mA (fs.map (·.1))
 | .own _ => ∃ o, h.get? a = some o
 | .xd fs => ∃ mA, h.Ns1 a mA /\ ∀ f, RelO (fs.lookup f) (mA f)
 | .rng lo hi => ∃ t u v, h.get? a = some { cls := .type "range", data := .fields #[.int lo t, .int hi u, .int 1 v] }
 | .frz o u => h.get? a = some o /\ zdf H h a u
 | .tbl ps => h.get? a = some { cls := .none, data := .fields ps }
 | .met f x => h.get? a = some (PySem.W.methodObj (.ref f) (.ref x))
 | .ext φ => φ h /\ (∃ o, h.get? a = some o) /\ ∀ h1 h2 : Heap, φ h1 -> (∀ o, h1.get? a = some o -> h2.get? a = some o) -> φ h2
def HOk (H : Hp) (h : Heap) : Prop := ∀ a o, H a = some o -> zdf P w H h a o
end
section
variable {P : Program} {w : World} {H H' : Hp} {h h' : Heap} {a : Addr} {o : HO}
theorem zdf.lt (x : zdf P w H h a o) : a < h.objs.size := by
 cases o with
 | lst xs => obtain ⟨_, _, _, _, e⟩ := x; exact xab e
 | tup xs => obtain ⟨_, _, _, p⟩ := x; exact p.lt
 | dK kvs => obtain ⟨_, _, _, _, o, _, _, e, _⟩ := x; exact xab e
 | dT kvs => obtain ⟨_, _, _, _, o, _, _, e, _⟩ := x; exact xab e
 | set S n => obtain ⟨o, _, _, _, e, _⟩ := x; exact xab e
 | ins C dx fs => obtain ⟨_, _, _, e, _⟩ := x; exact xab e
 | own y => obtain ⟨_, e⟩ := x; exact xab e
 | xd fs => obtain ⟨_, ⟨_, _, _, e, _⟩, _⟩ := x; exact xab e
 | rng lo hi => obtain ⟨_, _, _, e⟩ := x; exact xab e
 | frz ob u => obtain ⟨e, _⟩ := x; exact xab e
 | tbl ps => exact xab (show h.get? a = some _ from x)
 | met f y => exact xab (show h.get? a = some _ from x)
 | ext φ => obtain ⟨_, ⟨_, e⟩, _⟩ := x; exact xab e
theorem Paired.mapP {α β : Type} {F G : α -> β -> Prop} : ∀ {l₁ : List α} {l₂ : List β}, Paired F l₁ l₂ -> (∀ a b, F a b -> G a b) -> Paired G l₁ l₂
 | _, _, .nil, _ => .nil
 | _, _, .cons r t, f => .cons (f _ _ r) (Paired.mapP t f)
theorem zdf.stay (x : zdf P w H h a o) (k : ∀ b u, (b = a \/ H b = some (.own a)) -> h.get? b = some u -> h'.get? b = some u)
  (ho : ∀ b, H b = some (.own a) -> H' b = some (.own a)) (ht : ∀ b xs, H b = some (.tup xs) -> H' b = some (.tup xs)) : zdf P w H' h' a o := by
 induction o with
 | lst xs => obtain ⟨z, its, n, r, e⟩ := x; exact ⟨z, its, n, r, k _ _ (.inl rfl) e⟩
 | tup xs => obtain ⟨z, its, r, ob, e, c⟩ := x; exact ⟨z, its, r, ob, k _ _ (.inl rfl) e, c⟩
 | dK kvs => obtain ⟨z, y, vs, r, ob, es, ep, e, c⟩ := x; exact ⟨z, y, vs, r, ob, es, ep, k _ _ (.inl rfl) e, c⟩
 | dT kvs =>
  obtain ⟨z, y, xs, r, ob, es, ep, e, c⟩ := x
  exact ⟨z, y, xs, Paired.mapP r fun p q z => ⟨z.1, ht _ _ z.2.1, z.2.2⟩, ob, es, ep, k _ _ (.inl rfl) e, c⟩
 | set S n => obtain ⟨ob, es, ep, t, e, c⟩ := x; exact ⟨ob, es, ep, t, k _ _ (.inl rfl) e, c⟩
 | ins C dx fs =>
  obtain ⟨d, z, ne, e, mA, ⟨od, es, ep, e2, c⟩, r⟩ := x
  exact ⟨ho _ d, z, ne, k _ _ (.inl rfl) e, mA, ⟨od, es, ep, k _ _ (.inr d) e2, c⟩, r⟩
 | own y => obtain ⟨ob, e⟩ := x; exact ⟨ob, k _ _ (.inl rfl) e⟩
 | xd fs => obtain ⟨mA, ⟨od, es, ep, e, c⟩, r⟩ := x; exact ⟨mA, ⟨od, es, ep, k _ _ (.inl rfl) e, c⟩, r⟩
 | rng lo hi => obtain ⟨t, u, v, e⟩ := x; exact ⟨t, u, v, k _ _ (.inl rfl) e⟩
 | frz ob u ih => obtain ⟨e, q⟩ := x; exact ⟨k _ _ (.inl rfl) e, ih q⟩
 | tbl ps =>
  have e : h.get? a = some { cls := .none, data := .fields ps } := x
  show h'.get? a = some { cls := .none, data := .fields ps }
  exact k a _ (.inl rfl) e
 | met f y =>
  have e : h.get? a = some (PySem.W.methodObj (.ref f) (.ref y)) := x
  show h'.get? a = some (PySem.W.methodObj (.ref f) (.ref y))
  exact k a _ (.inl rfl) e
 | ext φ => obtain ⟨p, ⟨o, e⟩, st⟩ := x; exact ⟨st _ _ p fun o q => k _ _ (.inl rfl) q, ⟨o, k _ _ (.inl rfl) e⟩, st⟩
theorem HOk.lt (x : HOk P w H h) (e : H a = some o) : a < h.objs.size := (x a o e).lt
theorem HOk.fresh (x : HOk P w H h) (e : h.objs.size <= a) : H a = none := by
 cases q : H a with
 | none => rfl
 | some u => exact absurd (xak (x.lt q) e) (xbn _)
theorem HOk.kept (x : HOk P w H h) (k : ∀ b u, h.get? b = some u -> h'.get? b = some u) : HOk P w H h' := fun a o e =>
 (x a o e).stay (fun b u _ q => k b u q) (fun _ q => q) fun _ _ q => q
theorem HOk.laid (x : HOk P w H h) (k : ∀ b u, h.get? b = some u -> h'.get? b = some u) (hp : h.objs.size <= a) (new : zdf P w (upd H a o) h' a o) : HOk P w (upd H a o) h' := fun b u e => by
 have hn := x.fresh hp
 by_cases hb : b = a
 ·subst hb; rw [zap] at e; cases e; exact new
 ·rw [zam hb] at e
  exact (x b u e).stay (fun c v _ q => k c v q) (fun c q => by rw [zam (zai q hn)]; exact q) fun c xs q => by rw [zam (zai q hn)]; exact q
end
def Rd (H : Hp) (a : Addr) (u : HO) : Prop := H a = some u \/ ∃ o, H a = some (.frz o u)
theorem Rd.ok {P : Program} {w : World} {H : Hp} {h : Heap} {a : Addr} {u : HO} (r : Rd H a u) (x : HOk P w H h) : zdf P w H h a u := by
 rcases r with r | ⟨o, r⟩
 ·exact x a u r
 ·obtain ⟨_, q⟩ := x a _ r
  exact q
def Mut : Option HO -> Prop
 | some (.lst _) => True
 | some (.dK _) => True
 | some (.dT _) => True
 | some (.set _ _) => True
 | some (.ins _ _ _) => True
 | some (.ext _) => True
 | _ => False
section
variable {P : Program} {w : World} {H : Hp} {h h' : Heap} {x e : Addr} {o' : HO}
theorem HOk.write (ok : HOk P w H h) (mu : Mut (H x)) (he : e = x \/ H e = some (.own x)) (k : ∀ b u, b ≠ e -> h.get? b = some u -> h'.get? b = some u) (heo : ∃ u, h'.get? e = some u)
  (new : zdf P w (upd H x o') h' x o') : HOk P w (upd H x o') h' := fun b u q => by
 have nown : ∀ c y, H c = some (.own y) -> c ≠ x := fun c y r z => by subst z; rw [r] at mu; exact mu
 have ntup : ∀ c xs, H c = some (.tup xs) -> c ≠ x := fun c xs r z => by subst z; rw [r] at mu; exact mu
 by_cases hb : b = x
 ·subst hb; rw [zap] at q; cases q; exact new
 ·rw [zam hb] at q
  by_cases hbe : b = e
  ·have q' : H b = some (.own x) := by
    rcases he with z | z
    ·exact absurd (hbe.trans z) hb
    ·rw [hbe]; exact z
   rw [q] at q'; cases q'
   obtain ⟨v, hv⟩ := heo
   exact ⟨v, by rw [hbe]; exact hv⟩
  ·refine (ok b u q).stay (fun c v hc r => k c v ?_ r) (fun c r => by rw [zam (nown c b r)]; exact r) fun c xs r => by rw [zam (ntup c xs r)]; exact r
   rcases hc with rfl | hc
   ·exact hbe
   ·rintro rfl
    rcases he with z | z
    ·exact nown c b hc z
    ·rw [hc] at z; cases z; exact hb rfl
end
structure Un (fs ex : List Addr) (H H' : Hp) (h h' : Heap) : Prop where
 keep : ∀ b o, h.get? b = some o -> H b = none -> b ∉ fs -> b ∉ ex -> h'.get? b = some o
 slot : ∀ b o, h.get? b = some o -> H b = none -> b ∈ fs -> b ∉ ex -> ∃ sl, h'.get? b = some { o with slots := sl }
 free : ∀ b o, h.get? b = some o -> H b = none -> b ∉ ex -> H' b = none
 there : ∀ b o, h.get? b = some o -> b ∉ ex -> ∃ o', h'.get? b = some o'
 tups : ∀ b xs, H b = some (.tup xs) -> H' b = some (.tup xs)
 frzs : ∀ b o u, H b = some (.frz o u) -> H' b = some (.frz o u)
 tbls : ∀ b ps, H b = some (.tbl ps) -> ∃ more, H' b = some (.tbl (ps ++ more))
section
variable {fs fs' ex ex' : List Addr} {H H1 H2 : Hp} {h h1 h2 h' : Heap} {a x e : Addr} {o : HO}
theorem Un.any (u : Un fs ex H H1 h h1) {b : Addr} {ob : Obj} (q : h.get? b = some ob) (n : H b = none) (hx : b ∉ ex) : ∃ sl, h1.get? b = some { ob with slots := sl } := by
 by_cases hb : b ∈ fs
 ·exact u.slot b ob q n hb hx
 ·exact ⟨ob.slots, u.keep b ob q n hb hx⟩
theorem Un.kept (k : ∀ b u, h.get? b = some u -> h'.get? b = some u) : Un fs ex H H h h' :=
 ⟨fun b ob q _ _ _ => k b ob q, fun b ob q _ _ _ => ⟨ob.slots, k b ob q⟩, fun _ _ _ n _ => n, fun b ob q _ => ⟨ob, k b ob q⟩, fun _ _ q => q, fun _ _ _ q => q, fun _ ps q => ⟨#[], by rw [q]; simp⟩⟩
theorem Un.refl : Un fs ex H H h h := Un.kept fun _ _ q => q
theorem Un.laid (k : ∀ b u, h.get? b = some u -> h'.get? b = some u) (hp : h.objs.size <= a) (hn : H a = none) : Un fs ex H (upd H a o) h h' where
 keep := fun b u q _ _ _ => k b u q
 slot := fun b u q _ _ _ => ⟨u.slots, k b u q⟩
 free := fun b u q n _ => by rw [zam (xam (xak (xab q) hp))]; exact n
 there := fun b u q _ => ⟨u, k b u q⟩
 tups := fun b xs q => by rw [zam (zai q hn)]; exact q
 frzs := fun b u xs q => by rw [zam (zai q hn)]; exact q
 tbls := fun b ps q => ⟨#[], by rw [zam (zai q hn), q]; simp⟩
theorem Un.write (mu : Mut (H x)) (he : e = x \/ H e = some (.own x)) (k : ∀ b u, b ≠ e -> h.get? b = some u -> h'.get? b = some u) (heo : ∃ u, h'.get? e = some u) : Un fs ex H (upd H x o) h h' := by
 have hx : ∀ b, H b = none -> b ≠ x := fun b n z => by subst z; rw [n] at mu; exact mu
 have hb : ∀ b, H b = none -> b ≠ e := fun b n z => by
  subst z
  rcases he with r | r
  ·exact hx b n r
  ·rw [n] at r; cases r
 have hm : ∀ b u, H b = some u -> ¬ Mut (some u) -> b ≠ x := fun b u q nm z => by subst z; rw [q] at mu; exact nm mu
 refine ⟨fun b u q n _ _ => k b u (hb b n) q, fun b u q n _ _ => ⟨u.slots, k b u (hb b n) q⟩, fun b u q n _ => by rw [zam (hx b n)]; exact n, fun b u q _ => ?_,
  fun b xs q => by rw [zam (hm b _ q fun z => z)]; exact q, fun b u xs q => by rw [zam (hm b _ q fun z => z)]; exact q, fun b ps q => ⟨#[], by rw [zam (hm b _ q fun z => z), q]; simp⟩⟩
 by_cases hbe : b = e
 ·subst hbe; exact heo
 ·exact ⟨u, k b u hbe q⟩
end
def trk (h : Heap) (H : Hp) : List Addr := (List.range h.objs.size).filter fun a => (H a).isSome
def zoP (h : Heap) (H : Hp) : Heap := PySem.W.hideAll h (trk h H)
theorem zmg (h : Heap) (H : Hp) : (zoP h H).objs.size = h.objs.size := PySem.W.hideAll_size _ _
theorem zoQ {h : Heap} {H : Hp} {b : Addr} {o : Obj} (e : h.get? b = some o) (n : H b = none) : (zoP h H).get? b = some o :=
 PySem.W.hideAll_get _ e fun hm => by
  have q : (H b).isSome = true := (xbr.mp hm).2
  rw [n] at q; simp at q
theorem zrq {h : Heap} {H : Hp} {b : Addr} {o : Obj} (e : (zoP h H).get? b = some o) : h.get? b = some o /\ H b = none := by
 have e' : h.get? b = some o := PySem.W.of_hideAll (trk h H) e
 refine ⟨e', ?_⟩
 cases q : H b with
 | none => rfl
 | some x =>
  have hm : b ∈ trk h H := xbr.mpr ⟨xa3.mpr (xab e'), by simp [q]⟩
  have z : (zoP h H).get? b = none := PySem.W.hideAll_none (trk h H) hm
  rw [z] at e; cases e
def zrr (g h : Heap) (L : Addr) : List (Addr × Obj) := (List.range h.objs.size).filterMap fun a => if a = L \/ (g.get? a).isSome = true then none else (h.get? a).map fun o => (a, o)
def zce (g h : Heap) (L d : Addr) : List (Addr × Obj) := (zrr g h L).filter fun p => decide (p.1 ≠ d)
end L2
namespace L2
open PySem.Spec PyProof.Rows
structure Mod (K : xFg) (mg : Str -> Option Value) (base : Heap) : Prop where
 kin : K.In base
 glob : base.Ns mainGlobals mg
 blt : ∃ mb, base.Ns builtinsNs mb /\ ∀ x : Str, x ≠ "__name__" -> mb x = bootBuiltins x
 nolimit : base.NoLimit
structure Cx where
 prog : Program
 w : World
 K : xFg
 mg : Str -> Option Value
 base : Heap
 A : Around
 N : List Str
 s₀ : Shared
 H₀ : Hp
 env : Env
 outer : List Env
 stack : List Env
 ex : List Addr
 fn : Str -> Bool
 calm : Bool
 pn : List (Addr × Obj)
 xe : Value -> Shared -> Prop
def frs (l : List Env) : List Addr := l.filterMap (·.frame)
abbrev Cx.fs (X : Cx) : List Addr := frs X.outer
def Vis (sc : Scope) (x : Str) : Prop := sc.names.lookup x = some .local \/ sc.names.lookup x = some .cell \/ sc.names.lookup x = some .free
def Loc (sc : Scope) (x : Str) : Prop := sc.names.lookup x = some .local \/ sc.names.lookup x = some .cell
def Look (env : Env) (h : Heap) (m : Str -> Option Value) (x : Str) (u : Value) : Prop :=
 (env.kindOf x = some .local /\ m x = some u) \/ ((env.kindOf x = some .cell \/ env.kindOf x = some .free) /\ ∃ c, env.cells.lookup x = some c /\ h.IsCell c (some u))
structure Cx.Ok (X : Cx) : Prop where
 mod : Mod X.K X.mg X.base
 kind : X.env.scope.kind = .function
 glob : X.env.globals = mainGlobals
 blt : X.env.builtins = builtinsNs
 above : X.s₀.heap.objs.size <= X.env.locals
 inj : ∀ x y c, X.env.cells.lookup x = some c -> X.env.cells.lookup y = some c -> x = y
 has : ∀ x, (X.env.kindOf x = some .cell \/ X.env.kindOf x = some .free) -> ∃ c, X.env.cells.lookup x = some c
 cab : ∀ x c, X.fn x = true -> X.env.cells.lookup x = some c -> X.s₀.heap.objs.size <= c
 hd : X.calm = true -> X.A.handled = none
 frames : X.A.frames = some X.stack
 stk : X.stack = X.outer \/ (X.stack = X.env :: X.outer /\ X.env.frame = some X.env.locals)
 exf : ∀ b ∈ X.ex, b ≠ X.env.locals /\ ∀ x c, X.env.cells.lookup x = some c -> c ≠ b
 bs : ∀ b o, X.base.get? b = some o -> X.s₀.heap.get? b = some o /\ X.H₀ b = none
 bsz : X.base.objs.size <= X.s₀.heap.objs.size
 noex : ∀ b o, X.base.get? b = some o -> b ∉ X.ex
 exfs : ∀ b ∈ X.ex, b ∉ X.fs
 funs : X.s₀.heap.FunFrames X.base X.outer
 frf : ∀ b ∈ X.fs, X.H₀ b = none
structure Inv (X : Cx) (pins : List (Addr × Obj)) (O : List (Option V)) (H : Hp) (s : Shared) : Prop where
 ok : X.Ok
 os : s.os = X.s₀.os
 bare : AllBare s.gens
 base : Un X.fs X.ex X.H₀ H X.s₀.heap s.heap
 loc : ∃ m, s.heap.Ns X.env.locals m /\ ∀ (i : Nat) (x : Str) (v : V), X.N[i]? = some x -> O[i]? = some (some v) -> Vis X.env.scope x -> ∃ u, zbf v u /\ Look X.env s.heap m x u
 cell : ∀ x c, X.env.cells.lookup x = some c -> ∃ v, s.heap.IsCell c v
 free : H X.env.locals = none
 freeC : ∀ x c, X.env.cells.lookup x = some c -> H c = none
 pin : ∀ p ∈ X.pn ++ pins, s.heap.get? p.1 = some p.2 /\ H p.1 = none /\ p.1 ≠ X.env.locals /\ p.1 ∉ X.fs /\ ∀ v, p.2.data ≠ .cell v
 hok : HOk X.prog X.w H s.heap
 len : O.length = X.N.length
section
variable {X : Cx} {pins : List (Addr × Obj)} {O : List (Option V)} {H H' : Hp} {s : Shared} {h' : Heap}
theorem Cx.Ok.nofr (ok : X.Ok) {b : Addr} {o : Obj} (e : X.base.get? b = some o) : b ∉ X.fs := fun hb => by
 have := (ok.funs.mem hb).1
 rw [e] at this; cases this
theorem Inv.bs (I : Inv X pins O H s) : ∀ b o, X.base.get? b = some o -> s.heap.get? b = some o /\ H b = none := fun b o e =>
 ⟨I.base.keep b o (I.ok.bs b o e).1 (I.ok.bs b o e).2 (I.ok.nofr e) (I.ok.noex b o e), I.base.free b o (I.ok.bs b o e).1 (I.ok.bs b o e).2 (I.ok.noex b o e)⟩
theorem Inv.bk (I : Inv X pins O H s) : ∀ b o, X.base.get? b = some o -> s.heap.get? b = some o := fun b o e => (I.bs b o e).1
theorem Inv.mod (I : Inv X pins O H s) : Mod X.K X.mg X.base := I.ok.mod
theorem Inv.kIn (I : Inv X pins O H s) : X.K.In s.heap := I.ok.mod.kin.keeps I.bk
theorem Inv.fr (I : Inv X pins O H s) : ∃ m, Fr X.base X.env.locals s.heap m :=
 let ⟨m, hn, _⟩ := I.loc
 ⟨m, hn, I.bk, xa6 I.ok.bsz I.ok.above⟩
theorem Inv.lt (I : Inv X pins O H s) : X.env.locals < s.heap.objs.size := let ⟨_, hn, _⟩ := I.loc; hn.lt
theorem Inv.sz (I : Inv X pins O H s) : X.s₀.heap.objs.size <= s.heap.objs.size := xa6 I.ok.above (xco I.lt)
theorem Inv.nofs (I : Inv X pins O H s) {a : Addr} (h : s.heap.objs.size <= a) : a ∉ X.fs := fun hb => by
 obtain ⟨_, o, ho, _⟩ := I.ok.funs.mem hb
 exact absurd (xak (xab ho) (xa6 I.sz h)) (xbn _)
theorem Inv.cne (I : Inv X pins O H s) : ∀ x c, X.env.cells.lookup x = some c -> c ≠ X.env.locals := fun x c e z => by
 obtain ⟨v, o, ho, hd⟩ := I.cell x c e
 obtain ⟨m, ⟨o', es, ep, ho', hd', _⟩, _⟩ := I.loc
 rw [z, ho'] at ho; cases ho; rw [hd'] at hd; cases hd
theorem Inv.funs (I : Inv X pins O H s) : s.heap.FunFrames X.base X.outer := by
 have all : ∀ (l : List Env), (∀ b ∈ frs l, b ∈ X.fs) -> X.s₀.heap.FunFrames X.base l -> s.heap.FunFrames X.base l := by
  intro l
  induction l with
  | nil => intro _ _; trivial
  | cons env r ih =>
   intro hs hl
   obtain ⟨hk, ⟨L, o, hf, hn, ho, hd⟩, hr⟩ := hl
   have hL : L ∈ X.fs := hs L (by unfold frs; rw [xci, hf]; exact xan)
   obtain ⟨sl, e⟩ := I.base.slot L o ho (I.ok.frf L hL) hL fun z => I.ok.exfs L z hL
   exact ⟨hk, ⟨L, _, hf, hn, e, hd⟩, ih (fun b hb => hs b (by unfold frs; rw [xci, hf]; exact xae _ hb)) hr⟩
 exact all X.outer (fun _ hb => hb) I.ok.funs
theorem Inv.stack (I : Inv X pins O H s) : s.heap.FunFrames X.base X.stack := by
 rcases I.ok.stk with e | ⟨e, hf⟩
 ·rw [e]; exact I.funs
 ·rw [e]
  obtain ⟨m, hn, _⟩ := I.loc
  refine .cons (by rw [I.ok.kind]; decide) hf hn ?_ I.funs
  exact Heap.get?_none_of_le (xa6 I.ok.bsz I.ok.above)
theorem Inv.stkSub (I : Inv X pins O H s) : ∀ b ∈ frs X.stack, b ∈ X.env.locals :: X.fs := fun b hb => by
 rcases I.ok.stk with e | ⟨e, hf⟩
 ·rw [e] at hb; exact xae _ hb
 ·rw [e] at hb
  unfold frs at hb
  rw [xci, hf] at hb
  exact hb
theorem Inv.stkFree (I : Inv X pins O H s) : ∀ b ∈ frs X.stack, H b = none := fun b hb => by
 rcases xaf.mp (I.stkSub b hb) with e | hb
 ·rw [e]; exact I.free
 ·obtain ⟨_, o, ho, _⟩ := I.ok.funs.mem hb
  exact I.base.free b o ho (I.ok.frf b hb) fun z => I.ok.exfs b z hb
theorem Inv.step {g' : Array GenState} {t' : Nat} {d' : Drawn} {ch : List Addr} (I : Inv X pins O H s)
  (hch : ∀ b ∈ ch, (b ∈ X.ex \/ X.s₀.heap.objs.size <= b) /\ b ≠ X.env.locals /\ (∀ x c, X.env.cells.lookup x = some c -> c ≠ b) /\ ∀ p ∈ X.pn ++ pins, p.1 ≠ b)
  (keep : ∀ b o, b ≠ X.env.locals -> b ∉ X.fs -> b ∉ ch -> s.heap.get? b = some o -> H b = none -> h'.get? b = some o)
  (slot : ∀ b o, b ≠ X.env.locals -> b ∈ X.fs -> b ∉ ch -> s.heap.get? b = some o -> H b = none -> ∃ sl, h'.get? b = some { o with slots := sl }) (free : ∀ b o, b ∉ ch -> s.heap.get? b = some o -> H b = none -> H' b = none)
  (there : ∀ b o, b ∉ ch -> s.heap.get? b = some o -> ∃ o', h'.get? b = some o')
  (tups : ∀ b xs, H b = some (.tup xs) -> H' b = some (.tup xs)) (frzs : ∀ b o u, H b = some (.frz o u) -> H' b = some (.frz o u)) (tbls : ∀ b ps, H b = some (.tbl ps) -> ∃ more, H' b = some (.tbl (ps ++ more)))
  (ns : ∀ m, s.heap.Ns X.env.locals m -> h'.Ns X.env.locals m) (hok : HOk X.prog X.w H' h') (hg : AllBare g') :
  Inv X pins O H' { s with heap := h', gens := g', drawn := d', toks := t' } := by
 have neL : ∀ b o, X.s₀.heap.get? b = some o -> b ≠ X.env.locals := fun b o e => xam (xak (xab e) I.ok.above)
 have neC : ∀ b o, X.s₀.heap.get? b = some o -> b ∉ X.ex -> b ∉ ch := fun b o e hx hb => by
  rcases (hch b hb).1 with z | z
  ·exact hx z
  ·exact absurd (xak (xab e) z) (xbn _)
 have cellK : ∀ x c, X.env.cells.lookup x = some c -> ∀ v, s.heap.IsCell c v -> h'.IsCell c v := fun x c e v ⟨o, ho, hd⟩ => by
  have nch : c ∉ ch := fun z => (hch c z).2.2.1 x c e rfl
  by_cases hc : c ∈ X.fs
  ·obtain ⟨sl, q⟩ := slot c o (I.cne x c e) hc nch ho (I.freeC x c e)
   exact ⟨_, q, hd⟩
  ·exact ⟨o, keep c o (I.cne x c e) hc nch ho (I.freeC x c e), hd⟩
 refine ⟨I.ok, I.os, hg, ⟨fun b o e n hb hx => ?_, fun b o e n hb hx => ?_, fun b o e n hx => ?_, fun b o e hx => ?_, fun b xs e => tups b xs (I.base.tups b xs e), fun b o xs e => frzs b o xs (I.base.frzs b o xs e), fun b ps e => ?_⟩, ?_, fun x c e => ?_, ?_, fun x c e => ?_, fun p hp => ?_, hok, I.len⟩
 ·exact keep b o (neL b o e) hb (neC b o e hx) (I.base.keep b o e n hb hx) (I.base.free b o e n hx)
 ·obtain ⟨sl, e1⟩ := I.base.slot b o e n hb hx
  obtain ⟨sl', e2⟩ := slot b _ (neL b o e) hb (neC b o e hx) e1 (I.base.free b o e n hx)
  exact ⟨sl', e2⟩
 ·obtain ⟨o', e1⟩ := I.base.there b o e hx
  exact free b o' (neC b o e hx) e1 (I.base.free b o e n hx)
 ·obtain ⟨o', e1⟩ := I.base.there b o e hx
  exact there b o' (neC b o e hx) e1
 ·obtain ⟨m1, e1⟩ := I.base.tbls b ps e
  obtain ⟨m2, e2⟩ := tbls b _ e1
  exact ⟨m1 ++ m2, by rw [e2, Array.append_assoc]⟩
 ·obtain ⟨m, hn, hl⟩ := I.loc
  refine ⟨m, ns m hn, fun i x v e1 e2 e3 => ?_⟩
  obtain ⟨u, r, l⟩ := hl i x v e1 e2 e3
  refine ⟨u, r, ?_⟩
  rcases l with l | ⟨k, c, e, z⟩
  ·exact .inl l
  ·exact .inr ⟨k, c, e, cellK x c e _ z⟩
 ·obtain ⟨v, z⟩ := I.cell x c e
  exact ⟨v, cellK x c e v z⟩
 ·obtain ⟨m, ⟨o, _, _, ho, _⟩, _⟩ := I.loc
  exact free _ o (fun z => (hch _ z).2.1 rfl) ho I.free
 ·obtain ⟨v, o, ho, hd⟩ := I.cell x c e
  exact free c o (fun z => (hch c z).2.2.1 x c e rfl) ho (I.freeC x c e)
 ·obtain ⟨e, n, ne, nf, d⟩ := I.pin p hp
  have nch : p.1 ∉ ch := fun z => (hch p.1 z).2.2.2 p hp rfl
  exact ⟨keep p.1 p.2 ne nf nch e n, free p.1 p.2 nch e n, ne, nf, d⟩
theorem Inv.un {t' : Nat} (I : Inv X pins O H s) (u : Un X.fs [] H H' s.heap h') (hok : HOk X.prog X.w H' h') : Inv X pins O H' { s with heap := h', toks := t' } := by
 obtain ⟨m, ⟨o, es, ep, ho, r⟩, _⟩ := id I.loc
 obtain ⟨sl, hL⟩ := u.any ho I.free (by simp)
 exact I.step (g' := s.gens) (d' := s.drawn) (ch := []) (fun _ z => nomatch z) (fun b o _ hb _ e n => u.keep b o e n hb (by simp)) (fun b o _ hb _ e n => u.slot b o e n hb (by simp)) (fun b o _ e n => u.free b o e n (by simp)) (fun b o _ e => u.there b o e (by simp)) u.tups u.frzs u.tbls (fun m' hm => by
  obtain ⟨o', es', ep', ho', r'⟩ := hm
  rw [ho] at ho'; cases ho'
  exact ⟨_, es', ep', hL, r'⟩) hok I.bare
theorem Inv.call {g' : Array GenState} {t' : Nat} {d' : Drawn} {ch : List Addr} (I : Inv X pins O H s) (u : Un (frs X.stack) ch H H' s.heap h') (hok : HOk X.prog X.w H' h') (hg : AllBare g')
  (hch : ∀ b ∈ ch, (b ∈ X.ex \/ X.s₀.heap.objs.size <= b) /\ b ≠ X.env.locals /\ (∀ x c, X.env.cells.lookup x = some c -> c ≠ b) /\ ∀ p ∈ X.pn ++ pins, p.1 ≠ b) :
  Inv X pins O H' { s with heap := h', gens := g', drawn := d', toks := t' } := by
 obtain ⟨m, ⟨o, es, ep, ho, r⟩, _⟩ := id I.loc
 obtain ⟨sl, hL⟩ := u.any ho I.free fun z => (hch _ z).2.1 rfl
 exact I.step (ch := ch) hch (fun b o hL hb hc e n => u.keep b o e n (fun z => (xaf.mp (I.stkSub b z)).elim hL hb) hc) (fun b o _ _ hc e n => u.any e n hc) (fun b o hc e n => u.free b o e n hc) (fun b o hc e => u.there b o e hc) u.tups u.frzs u.tbls (fun m' hm => by
  obtain ⟨o', es', ep', ho', r'⟩ := hm
  rw [ho] at ho'; cases ho'
  exact ⟨_, es', ep', hL, r'⟩) hok hg
theorem Inv.turned {t' : Nat} {it : Addr} (I : Inv X pins O H s) (k : ∀ b o, b ≠ it -> s.heap.get? b = some o -> h'.get? b = some o) (hn : H it = none) (hL : it ≠ X.env.locals)
  (h1 : it ∈ X.ex \/ X.s₀.heap.objs.size <= it) (h2 : ∀ x c, X.env.cells.lookup x = some c -> c ≠ it) (h3 : ∀ p ∈ X.pn ++ pins, p.1 ≠ it) : Inv X pins O H { s with heap := h', toks := t' } := by
 have nit : ∀ b u, H b = some u -> b ≠ it := fun b u e z => by rw [z, hn] at e; cases e
 refine I.step (g' := s.gens) (d' := s.drawn) (ch := [it]) (fun b hb => ?_) (fun b o _ _ hc e _ => k b o (fun z => hc (by simp [z])) e) (fun b o _ _ hc e _ => ⟨o.slots, k b o (fun z => hc (by simp [z])) e⟩) (fun _ _ _ _ n => n)
  (fun b o hc e => ⟨o, k b o (fun z => hc (by simp [z])) e⟩) (fun _ _ e => e) (fun _ _ _ e => e) (fun b ps e => ⟨#[], by rw [e]; simp⟩) (fun m hm => ?_) (fun b u e => ?_) I.bare
 ·have e : b = it := by simpa using hb
  subst e
  exact ⟨h1, hL, h2, h3⟩
 ·obtain ⟨o, es, ep, ho, r⟩ := hm
  exact ⟨o, es, ep, k _ o (xax hL) ho, r⟩
 ·refine (I.hok b u e).stay (fun c v hc q => k c v ?_ q) (fun _ q => q) fun _ _ q => q
  rcases hc with z | z
  ·rw [z]; exact nit b u e
  ·exact nit c _ z
theorem Inv.tok (I : Inv X pins O H s) (t : Nat) : Inv X pins O H { s with toks := t } := I.un (h' := s.heap) (t' := t) Un.refl I.hok
theorem Inv.kept {t' : Nat} (I : Inv X pins O H s) (k : ∀ b u, s.heap.get? b = some u -> h'.get? b = some u) : Inv X pins O H { s with heap := h', toks := t' } := I.un (Un.kept k) (I.hok.kept k)
theorem Inv.laid {a : Addr} {o : HO} {t' : Nat} (I : Inv X pins O H s) (k : ∀ b u, s.heap.get? b = some u -> h'.get? b = some u) (hp : s.heap.objs.size <= a) (new : zdf X.prog X.w (upd H a o) h' a o) :
  Inv X pins O (upd H a o) { s with heap := h', toks := t' } := I.un (Un.laid k hp (I.hok.fresh hp)) (I.hok.laid k hp new)
theorem Inv.write {x e : Addr} {o : HO} {t' : Nat} (I : Inv X pins O H s) (mu : Mut (H x)) (he : e = x \/ H e = some (.own x)) (k : ∀ b u, b ≠ e -> s.heap.get? b = some u -> h'.get? b = some u) (heo : ∃ u, h'.get? e = some u)
  (new : zdf X.prog X.w (upd H x o) h' x o) : Inv X pins O (upd H x o) { s with heap := h', toks := t' } := I.un (Un.write mu he k heo) (I.hok.write mu he k heo new)
theorem Inv.weak {O' : List (Option V)} (I : Inv X pins O H s) (hl : O'.length = O.length) (w : ∀ (i : Nat) v, O'[i]? = some (some v) -> O[i]? = some (some v)) : Inv X pins O' H s :=
 ⟨I.ok, I.os, I.bare, I.base, let ⟨m, hn, hl'⟩ := I.loc; ⟨m, hn, fun i x v e1 e2 e3 => hl' i x v e1 (w i v e2) e3⟩, I.cell, I.free, I.freeC, I.pin, I.hok, hl.trans I.len⟩
theorem Inv.pins_of {pins' : List (Addr × Obj)} (I : Inv X pins O H s) (h : ∀ p ∈ pins', s.heap.get? p.1 = some p.2 /\ H p.1 = none /\ p.1 ≠ X.env.locals /\ p.1 ∉ X.fs /\ ∀ v, p.2.data ≠ .cell v) : Inv X pins' O H s :=
 ⟨I.ok, I.os, I.bare, I.base, I.loc, I.cell, I.free, I.freeC, fun p hp => (xbd.mp hp).elim (fun z => I.pin p (xcb _ z)) (h p), I.hok, I.len⟩
theorem zhH {N : List Str} (hN : N.Nodup) {i j : Nat} {x : Str} (a : N[i]? = some x) (b : N[j]? = some x) : i = j := by
 obtain ⟨h1, e1⟩ := xaj.mp a
 obtain ⟨h2, e2⟩ := xaj.mp b
 exact (List.getElem_inj hN).mp (e1.trans e2.symm)
theorem zmh {M : Model} {A : Around} {E : Value -> Shared -> Prop} {i : Nat} {x : Str} {v : V} {u : Value} {Q : Unit -> Shared -> Prop} (I : Inv X pins O H s) (hN : X.N.Nodup) (hi : X.N[i]? = some x) (hx : Loc X.env.scope x) (r : zbf v u)
  (h : ∀ s', Inv X pins (O.set i (some v)) H s' -> (∃ a, Heap.SameBut a s.heap s'.heap /\ (a = X.env.locals \/ X.env.cells.lookup x = some a)) -> Q () s') (hf : X.fn x = true \/ X.env.scope.names.lookup x = some .local := by first | exact .inl rfl | exact .inr rfl | assumption) : wpAny M A (storeName X.env x u) Q E s := by
 obtain ⟨m, hn, hl⟩ := id I.loc
 have hcls : (X.env.scope.kind == .class || (X.env.scope.kind == .module && X.env.locals != X.env.globals)) = false := by rw [I.ok.kind]; rfl
 have hiO : i < O.length := by rw [I.len]; exact (xaj.mp hi).1
 have cne := I.cne
 have tracked : ∀ {a : Addr} {h' : Heap}, (∃ o, s.heap.get? a = some o /\ H a = none) -> Heap.SameBut a s.heap h' -> HOk X.prog X.w H h' := fun {a h'} ha hs b ob e => by
  obtain ⟨_, _, hfree⟩ := ha
  refine (I.hok b ob e).stay (fun c w' hc q => (hs.2 c ?_).trans q) (fun _ q => q) fun _ _ q => q
  rintro rfl
  rcases hc with rfl | hc
  ·rw [hfree] at e; cases e
  ·rw [hfree] at hc; cases hc
 rcases hx with hk | hk
 ·refine wpAny_storeName_local hk hn (fun h' hn' hs => ?_) hcls
  obtain ⟨oL, _, _, hoL, _⟩ := id hn
  refine h _ ⟨I.ok, I.os, I.bare, ⟨fun b o e n hb hx => ?_, fun b o e n hb hx => ?_, I.base.free, fun b o e hx => ?_, I.base.tups, I.base.frzs, I.base.tbls⟩, ⟨_, hn', fun j y v' e1 e2 e3 => ?_⟩, fun y c e => ?_, I.free, I.freeC, fun p hp => ?_, tracked ⟨oL, hoL, I.free⟩ hs, by simpa using I.len⟩ ⟨_, hs, .inl rfl⟩
  ·exact (hs.2 b (xam (xak (xab e) I.ok.above))).trans (I.base.keep b o e n hb hx)
  ·obtain ⟨sl, e1⟩ := I.base.slot b o e n hb hx
   exact ⟨sl, (hs.2 b (xam (xak (xab e) I.ok.above))).trans e1⟩
  ·obtain ⟨o', e1⟩ := I.base.there b o e hx
   exact ⟨o', (hs.2 b (xam (xak (xab e) I.ok.above))).trans e1⟩
  ·by_cases hj : j = i
   ·subst hj
    rw [hi] at e1; cases e1
    rw [xa0 hiO] at e2
    cases e2
    exact ⟨u, r, .inl ⟨hk, by simp⟩⟩
   ·rw [xal (xax hj)] at e2
    obtain ⟨u', r', q⟩ := hl j y v' e1 e2 e3
    refine ⟨u', r', ?_⟩
    rcases q with ⟨k, e⟩ | ⟨k, c, e, z⟩
    ·refine .inl ⟨k, ?_⟩
     have : y ≠ x := fun e => hj (zhH hN e1 (e ▸ hi))
     simp [this, e]
    ·exact .inr ⟨k, c, e, z.sameBut hs (cne y c e)⟩
  ·obtain ⟨w', z⟩ := I.cell y c e
   exact ⟨w', z.sameBut hs (cne y c e)⟩
  ·obtain ⟨e, n, ne, nf, d⟩ := I.pin p hp
   exact ⟨(hs.2 p.1 ne).trans e, n, ne, nf, d⟩
 ·have hfn : X.fn x = true := by
   rcases hf with z | z
   ·exact z
   ·rw [z] at hk; cases hk
  obtain ⟨c, hc⟩ := I.ok.has x (.inl hk)
  obtain ⟨w', z⟩ := I.cell x c hc
  refine wpAny_storeName_cell I.ok.kind hk hc z (fun h' hc' hs => ?_)
  obtain ⟨oc, hoc, hocd⟩ := id z
  refine h { s with heap := h' } ⟨I.ok, I.os, I.bare, ⟨fun b o e n hb hx => ?_, fun b o e n hb hx => ?_, I.base.free, fun b o e hx => ?_, I.base.tups, I.base.frzs, I.base.tbls⟩, ⟨m, hn.sameBut hs (xax (cne x c hc)), fun j y v' e1 e2 e3 => ?_⟩, fun y c' e => ?_, I.free, I.freeC, fun p hp => ?_, tracked ⟨oc, hoc, I.freeC x c hc⟩ hs, by simpa using I.len⟩ ⟨c, hs, .inr hc⟩
  ·exact (hs.2 b (xam (xak (xab e) (I.ok.cab x c hfn hc)))).trans (I.base.keep b o e n hb hx)
  ·obtain ⟨sl, e1⟩ := I.base.slot b o e n hb hx
   exact ⟨sl, (hs.2 b (xam (xak (xab e) (I.ok.cab x c hfn hc)))).trans e1⟩
  ·obtain ⟨o', e1⟩ := I.base.there b o e hx
   exact ⟨o', (hs.2 b (xam (xak (xab e) (I.ok.cab x c hfn hc)))).trans e1⟩
  ·by_cases hj : j = i
   ·subst hj
    rw [hi] at e1; cases e1
    rw [xa0 hiO] at e2
    cases e2
    exact ⟨u, r, .inr ⟨.inl hk, c, hc, hc'⟩⟩
   ·rw [xal (xax hj)] at e2
    obtain ⟨u', r', q⟩ := hl j y v' e1 e2 e3
    refine ⟨u', r', ?_⟩
    rcases q with q | ⟨k, c', e, z'⟩
    ·exact .inl q
    ·refine .inr ⟨k, c', e, z'.sameBut hs ?_⟩
     rintro rfl
     exact hj (zhH hN e1 (I.ok.inj _ _ _ e hc ▸ hi))
  ·by_cases hcc : c' = c
   ·subst hcc; exact ⟨_, hc'⟩
   ·obtain ⟨w2, z2⟩ := I.cell y c' e
    exact ⟨w2, z2.sameBut hs hcc⟩
  ·obtain ⟨e, n, ne, nf, d⟩ := I.pin p hp
   refine ⟨(hs.2 p.1 ?_).trans e, n, ne, nf, d⟩
   intro q
   rw [q, hoc] at e
   have q' : oc = p.2 := Option.some.inj e
   exact d w' (by rw [<- q']; exact hocd)
theorem zdX {M : Model} {A : Around} {E : Value -> Shared -> Prop} {i : Nat} {x : Str} {v : V} {u : Value} {Q : Unit -> Shared -> Prop} (I : Inv X pins O H s) (hN : X.N.Nodup) (hi : X.N[i]? = some x) (hx : Loc X.env.scope x) (r : zbf v u)
  (h : ∀ s', Inv X pins (O.set i (some v)) H s' -> Q () s') (hf : X.fn x = true \/ X.env.scope.names.lookup x = some .local := by first | exact .inl rfl | exact .inr rfl | assumption) : wpAny M A (storeName X.env x u) Q E s :=
 zmh I hN hi hx r (fun s' I' _ => h s' I') hf
theorem Inv.call' {s' : Shared} {ch : List Addr} (I : Inv X pins O H s) (ho : s'.os = s.os) (u : Un (frs X.stack) ch H H' s.heap s'.heap) (hok : HOk X.prog X.w H' s'.heap) (hg : AllBare s'.gens)
  (hch : ∀ b ∈ ch, (b ∈ X.ex \/ X.s₀.heap.objs.size <= b) /\ b ≠ X.env.locals /\ (∀ x c, X.env.cells.lookup x = some c -> c ≠ b) /\ ∀ p ∈ X.pn ++ pins, p.1 ≠ b) : Inv X pins O H' s' := by
 obtain ⟨h', g', d', t', o'⟩ := s'
 have e : o' = s.os := ho
 subst e
 exact I.call (g' := g') (t' := t') (d' := d') u hok hg hch
end
abbrev XK := Value -> Option Addr -> Hp -> Prop
abbrev St := List (Option V)
abbrev VK := V -> Hp -> Prop
abbrev TE := St -> Hp -> VK -> Prop
abbrev TT := St -> Hp -> (Bool -> Hp -> Prop) -> Prop
abbrev TA := St -> Hp -> (List V -> Hp -> Prop) -> Prop
structure zmc where
 nx : St -> Hp -> Prop
 rt : VK
 bk : St -> Hp -> Prop := fun _ _ => False
 ct : St -> Hp -> Prop := fun _ _ => False
abbrev TS := zmc -> St -> Hp -> Prop
def EP (X : Cx) (pins : List (Addr × Obj)) (O : St) (Q : VK) (u : Value) (s' : Shared) : Prop := ∃ v H', Inv X pins O H' s' /\ zbf v u /\ Q v H'
def TP (X : Cx) (pins : List (Addr × Obj)) (O : St) (Q : Bool -> Hp -> Prop) (b : Bool) (s' : Shared) : Prop := ∃ H', Inv X pins O H' s' /\ Q b H'
def AP (X : Cx) (pins : List (Addr × Obj)) (O : St) (Q : List V -> Hp -> Prop) (us : List Value) (s' : Shared) : Prop := ∃ vs H', Inv X pins O H' s' /\ zbg vs us /\ Q vs H'
def SP (X : Cx) (pins : List (Addr × Obj)) (D : zmc) (f : Flow) (s' : Shared) : Prop :=
 match f with
 | .next => ∃ O' H', Inv X pins O' H' s' /\ D.nx O' H'
 | .brk => ∃ O' H', Inv X pins O' H' s' /\ D.bk O' H'
 | .cont => ∃ O' H', Inv X pins O' H' s' /\ D.ct O' H'
 | .ret u => ∃ v O' H', Inv X pins O' H' s' /\ zbf v u /\ D.rt v H'
def PE (X : Cx) (e : Expr) (t : TE) : Prop :=
 ∀ (pins : List (Addr × Obj)) (s : Shared) (O : St) (H : Hp) (Q : VK), Inv X pins O H s -> t O H Q -> wpAny (model X.prog X.w) X.A (eval e X.env) (EP X pins O Q) X.xe s
def PT (X : Cx) (e : Expr) (t : TT) : Prop :=
 ∀ (pins : List (Addr × Obj)) (s : Shared) (O : St) (H : Hp) (Q : Bool -> Hp -> Prop), Inv X pins O H s -> t O H Q -> wpAny (model X.prog X.w) X.A (isTrue e X.env (eval e X.env)) (TP X pins O Q) X.xe s
def PW (X : Cx) (e : Expr) (t : TT) : Prop :=
 ∀ (whole : Sem Value) (pins : List (Addr × Obj)) (s : Shared) (O : St) (H : Hp) (Q : Bool -> Hp -> Prop), Inv X pins O H s -> t O H Q -> wpAny (model X.prog X.w) X.A (isTrue e X.env whole) (TP X pins O Q) X.xe s
def PA (X : Cx) (es : List Expr) (t : TA) : Prop :=
 ∀ (pos : Pos) (pins : List (Addr × Obj)) (s : Shared) (O : St) (H : Hp) (Q : List V -> Hp -> Prop), Inv X pins O H s -> t O H Q -> wpAny (model X.prog X.w) X.A (spliced (backTo pos (starEach es X.env))) (AP X pins O Q) X.xe s
def PS (X : Cx) (st : Stmt) (t : TS) : Prop :=
 ∀ (pins : List (Addr × Obj)) (s : Shared) (O : St) (H : Hp) (D : zmc), Inv X pins O H s -> t D O H -> wpAny (model X.prog X.w) X.A (exec st X.env) (SP X pins D) X.xe s
def PSs (X : Cx) (st : List Stmt) (t : TS) : Prop :=
 ∀ (pins : List (Addr × Obj)) (s : Shared) (O : St) (H : Hp) (D : zmc), Inv X pins O H s -> t D O H -> wpAny (model X.prog X.w) X.A (execs st X.env) (SP X pins D) X.xe s
theorem thn {α : Type} {t : Sem α} {Q Q' : α -> Shared -> Prop} {M : Model} {A : Around} {E : Value -> Shared -> Prop} {s : Shared} (h : wpAny M A t Q E s) (hQ : ∀ a s, Q a s -> Q' a s) : wpAny M A t Q' E s := wpAny_mono h hQ fun _ _ x => x
end L2
namespace L2
open PySem.Spec PyProof.Rows
section
variable {X : Cx}
theorem bin {a b : Expr} {ta tb : TE} (ha : PE X a ta) (hb : PE X b tb) {pins : List (Addr × Obj)} {s : Shared} {O : St} {H : Hp} {R : V -> V -> Hp -> Prop} (I : Inv X pins O H s) (h : ta O H fun x H1 => tb O H1 fun y H2 => R x y H2)
  {α : Type} {Q : α -> Shared -> Prop} {f : Value -> Value -> Sem α}
  (hf : ∀ v u s2 x y H2, Inv X pins O H2 s2 -> zbf x v -> zbf y u -> R x y H2 -> wpAny (model X.prog X.w) X.A (f v u) Q X.xe s2) :
  wpAny (model X.prog X.w) X.A (eval a X.env) (fun v s₁ => wpAny (model X.prog X.w) X.A (eval b X.env) (fun u s₂ => wpAny (model X.prog X.w) X.A (f v u) Q X.xe s₂) X.xe s₁) X.xe s := by
 refine thn (ha pins s O H _ I h) fun v s1 ⟨x, H1, I1, r1, q1⟩ => ?_
 refine thn (hb pins s1 O H1 _ I1 q1) fun u s2 ⟨y, H2, I2, r2, q2⟩ => ?_
 exact hf v u s2 x y H2 I2 r1 r2 q2
def tVar (i : Nat) : TE := fun O H Q => ∃ v, O[i]? = some (some v) /\ Q v H
def tC (v : V) : TE := fun _ H Q => Q v H
theorem ztf {i : Nat} {x : Str} {pos : Pos} (hN : X.N[i]? = some x) (hv : Vis X.env.scope x) (hd : (x == ("__debug__" : Str)) = false := by decide) (hcd : (x == ("__classdict__" : Str)) = false := by decide) : PE X (.Name x pos) (tVar i) := by
 intro pins s O H Q I h
 obtain ⟨v, e, h⟩ := h
 obtain ⟨m, hn, hl⟩ := I.loc
 obtain ⟨u, r, l⟩ := hl i x v hN e hv
 have fin : EP X pins O Q u s := ⟨v, H, I, r, h⟩
 rcases l with ⟨hk, hm⟩ | ⟨hk, c, hc, hcell⟩
 ·exact wpAny_Name (wpAny_loadName_local I.ok.kind hk hn hm fin) hd
 ·rcases hk with hk | hk
  ·exact wpAny_Name (wpAny_loadName_cell I.ok.kind hk hc hcell fin) hd
  ·exact wpAny_Name (wpAny_loadName_free I.ok.kind hk hc hcell fin hcd) hd
theorem ztg {i j pos} : PE X (.Constant (.int i) j pos) (tC (.int i)) := fun _ _ _ H _ I h => wpAny_Constant_int ⟨.int i, H, I.tok _, ⟨_, rfl⟩, h⟩
theorem zvN {b j pos} : PE X (.Constant (.bool b) j pos) (tC (.bl b)) := fun _ _ _ H _ I h => Constant_bool ⟨.bl b, H, I, rfl, h⟩
theorem zth {j pos} : PE X (.Constant .none j pos) (tC .non) := fun _ _ _ H _ I h => Constant_none ⟨.non, H, I, rfl, h⟩
theorem ztj {x j pos} : PE X (.Constant (.str x) j pos) (tC (.str x)) := fun _ _ _ H _ I h => Calls.Constant_str ⟨.str x, H, I.tok _, ⟨_, rfl⟩, h⟩
def Gl (X : Cx) (x : Str) : Prop := X.env.kindOf x = some .globalImplicit
theorem zfV {E : Value -> Shared -> Prop} {pins : List (Addr × Obj)} {s : Shared} {O : St} {H : Hp} {x : Str} {u : Value} {pos : Pos} {Q : Value -> Shared -> Prop} (I : Inv X pins O H s) (hg : Gl X x) (hm : X.mg x = some u) (h : Q u s)
  (hd : (x == ("__debug__" : Str)) = false := by decide) : wpAny (model X.prog X.w) X.A (eval (.Name x pos) X.env) Q E s :=
 Calls.Name_function_global I.ok.kind hg (Calls.loadGlobal_global (by rw [I.ok.glob]; exact I.mod.glob.keeps I.bk) hm h) hd
theorem zfW {E : Value -> Shared -> Prop} {pins : List (Addr × Obj)} {s : Shared} {O : St} {H : Hp} {x : Str} {u : Value} {pos : Pos} {Q : Value -> Shared -> Prop} (I : Inv X pins O H s) (hg : Gl X x) (hm : X.mg x = none) (hv : bootBuiltins x = some u) (h : Q u s)
  (hn : x ≠ "__name__" := by decide) (hd : (x == ("__debug__" : Str)) = false := by decide) : wpAny (model X.prog X.w) X.A (eval (.Name x pos) X.env) Q E s := by
 obtain ⟨mb, h1, h2⟩ := I.mod.blt
 exact Calls.Name_function_global I.ok.kind hg (Calls.loadGlobal_builtin (by rw [I.ok.glob]; exact I.mod.glob.keeps I.bk) hm (by rw [I.ok.blt]; exact h1.keeps I.bk) ((h2 x hn).trans hv) h) hd
theorem zrs {x : Str} {v : V} {u : Value} {pos : Pos} (hg : Gl X x) (hm : X.mg x = some u) (r : zbf v u) (hd : (x == ("__debug__" : Str)) = false := by decide) : PE X (.Name x pos) (tC v) :=
 fun _ _ _ H _ I h => zfV I hg hm ⟨v, H, I, r, h⟩ hd
theorem zrt {x : Str} {v : V} {u : Value} {pos : Pos} (hg : Gl X x) (hm : X.mg x = none) (hv : bootBuiltins x = some u) (r : zbf v u) (hn : x ≠ "__name__" := by decide) (hd : (x == ("__debug__" : Str)) = false := by decide) : PE X (.Name x pos) (tC v) :=
 fun _ _ _ H _ I h => zfW I hg hm hv ⟨v, H, I, r, h⟩ hn hd
variable {a b : Expr} {ta tb : TE} {pos : Pos}
def PC (X : Cx) (op : CmpOp) (a b : Expr) (t : TE) : Prop :=
 ∀ (pins : List (Addr × Obj)) (s : Shared) (O : St) (H : Hp) (Q : VK), Inv X pins O H s -> t O H Q ->
  wpAny (model X.prog X.w) X.A (eval a X.env) (fun v s₁ => wpAny (model X.prog X.w) X.A (eval b X.env) (fun u s₂ => wpAny (model X.prog X.w) X.A (compareOp op v u) (EP X pins O Q) X.xe s₂) X.xe s₁) X.xe s
theorem zaZ (b : Expr) {op : CmpOp} (h : op ≠ .In) (h2 : op ≠ .NotIn) : behindInMarks op b = false := by
 have e1 : (op == CmpOp.In) = false := by cases op <;> first | rfl | exact absurd rfl h
 have e2 : (op == CmpOp.NotIn) = false := by cases op <;> first | rfl | exact absurd rfl h2
 cases b <;> simp [behindInMarks, e1, e2]
def tB (t : TE) : TT := fun O H Q => t O H fun x H1 => ∃ c, x = .bl c /\ Q c H1
theorem pt_cmp {op : CmpOp} {t : TE} (h : PC X op a b t) (h1 : behindInMarks op b = false := by first | exact zaZ _ (by decide) (by decide) | rfl) : PT X (.Compare a [op] [b] pos) (tB t) := by
 intro pins s O H Q I hw
 refine wpAny_isTrue_Compare1 (thn (h pins s O H _ I hw) fun v s1 h1 => thn h1 fun u s2 h2 => thn h2 fun c s3 ⟨x, H1, I1, r1, q1⟩ => ?_) h1
 obtain ⟨d, rfl, q⟩ := q1
 cases r1
 exact wpAny_truthy_bool ⟨H1, I1, q⟩
theorem ztk {e : Expr} {t : TE} (h : PE X e t) (he : ∀ whole, isTrue e X.env whole = (do let v <- whole; standAt e.pos; holding [v] (truthy v)) := by intro _; rfl) : PT X e (tB t) := by
 intro pins s O H Q I hw
 refine isTrue_plain (thn (h pins s O H _ I hw) fun v s1 ⟨x, H1, I1, r1, q1⟩ => ?_) (he _)
 obtain ⟨d, rfl, q⟩ := q1
 cases r1
 exact wpAny_truthy_bool ⟨H1, I1, q⟩
variable {tA tB' : TT} {zce : List Expr}
def tAnd (t u : TT) : TT := fun O H Q => t O H fun c H1 => if c = true then u O H1 Q else Q false H1
def tOr (t u : TT) : TT := fun O H Q => t O H fun c H1 => if c = true then Q true H1 else u O H1 Q
def tNot (t : TT) : TT := fun O H Q => t O H fun c H1 => Q (!c) H1
theorem zru (ha : PT X a tA) : PW X (.BoolOp .And [a] pos) tA := by
 intro wh pins s O H Q I h
 refine isTrue_and (thn (ha pins s O H Q I h) fun c s1 e => ?_)
 cases c with
 | true => exact isTrue_and_nil e
 | false => exact e
theorem ztl (ha : PT X a tA) : PW X (.BoolOp .Or [a] pos) tA := by
 intro wh pins s O H Q I h
 refine isTrue_or (thn (ha pins s O H Q I h) fun c s1 e => ?_)
 cases c with
 | false => exact isTrue_or_nil e
 | true => exact e
theorem ztm (ha : PT X a tA) (hb : PW X (.BoolOp .And (b :: zce) pos) tB') : PW X (.BoolOp .And (a :: b :: zce) pos) (tAnd tA tB') := by
 intro wh pins s O H Q I h
 refine isTrue_and (thn (ha pins s O H _ I h) fun c s1 ⟨H1, I1, q1⟩ => ?_)
 cases c with
 | true => exact hb wh pins s1 O H1 Q I1 q1
 | false => exact ⟨H1, I1, q1⟩
theorem zvO (ha : PT X a tA) (hb : PW X (.BoolOp .Or (b :: zce) pos) tB') : PW X (.BoolOp .Or (a :: b :: zce) pos) (tOr tA tB') := by
 intro wh pins s O H Q I h
 refine isTrue_or (thn (ha pins s O H _ I h) fun c s1 ⟨H1, I1, q1⟩ => ?_)
 cases c with
 | true => exact ⟨H1, I1, q1⟩
 | false => exact hb wh pins s1 O H1 Q I1 q1
theorem ztn (ha : PT X a tA) : PT X (.UnaryOp .Not a pos) (tNot tA) := by
 intro pins s O H Q I h
 exact isTrue_not (ha pins s O H (fun c H1 => Q (!c) H1) I h)
def zvP (ta tb : TE) : TE := fun O H Q => ta O H fun x H1 => ∃ c, x = .bl c /\ if c = true then tb O H1 Q else Q (.bl false) H1
def zvQ (ta : TE) : TE := fun O H Q => ta O H fun x H1 => ∃ c, x = .bl c /\ Q (.bl (!c)) H1
theorem ztp {op} {t : TE} (h : PE X a t) : PE X (.BoolOp op [a] pos) t := fun pins s O H Q I hw => BoolOp_one (h pins s O H Q I hw)
theorem ztq (ha : PE X a ta) (hb : PE X (.BoolOp .And (b :: zce) pos) tb) : PE X (.BoolOp .And (a :: b :: zce) pos) (zvP ta tb) := by
 intro pins s O H Q I h
 refine BoolOp_and (thn (ha pins s O H _ I h) fun v s1 ⟨x, H1, I1, r1, q1⟩ => ?_)
 obtain ⟨c, rfl, q1⟩ := q1
 cases r1
 refine wpAny_truthy_bool ?_
 cases c with
 | true => exact hb pins s1 O H1 Q I1 q1
 | false => exact ⟨.bl false, H1, I1, rfl, q1⟩
theorem ztr (ha : PE X a ta) : PE X (.UnaryOp .Not a pos) (zvQ ta) := by
 intro pins s O H Q I h
 refine UnaryOp_ (thn (ha pins s O H _ I h) fun v s1 ⟨x, H1, I1, r1, q1⟩ => ?_)
 obtain ⟨c, rfl, q1⟩ := q1
 cases r1
 exact not_of (wpAny_truthy_bool ⟨.bl (!c), H1, I1, rfl, q1⟩)
end
end L2
namespace L2
open PySem.Spec PyProof.Rows
def SqL (K : xFg) (H : Hp) (a : Addr) (xs : List V) : Prop :=
 Rd H a (.lst xs) \/
  ∃ (o : Obj) (its : Array Value) (n : Nat), K.lookup a = some o /\ o.cls = .type "list" /\ o.dict = none /\ o.data = .seq its n /\ its.size <= sizeLine /\ zbg xs its.toList
def SqT (K : xFg) (H : Hp) (a : Addr) (xs : List V) : Prop :=
 Rd H a (.tup xs) \/
  ∃ (o : Obj) (its : Array Value) (n : Nat), K.lookup a = some o /\ o.cls = .type "tuple" /\ o.data = .seq its n /\ its.size <= sizeLine /\ zbg xs its.toList
def absV : Value -> Option V
 | .none => some .non
 | .bool b => some (.bl b)
 | .int i _ => some (.int i)
 | .str x _ => some (.str x)
 | .bytes b _ => some (.byt b)
 | .float b _ => some (.flt b)
 | .ref a => some (.ref a)
 | .type n => some (.ty n)
 | _ => none
theorem zbf.abs {x : V} {u : Value} (r : zbf x u) : absV u = some x := by
 cases x with
 | non => cases r; rfl
 | bl _ => cases r; rfl
 | int _ => obtain ⟨t, rfl⟩ := r; rfl
 | str _ => obtain ⟨t, rfl⟩ := r; rfl
 | byt _ => obtain ⟨t, rfl⟩ := r; rfl
 | flt _ => obtain ⟨t, rfl⟩ := r; rfl
 | ref _ => cases r; rfl
 | ty _ => cases r; rfl
theorem zbf.inj {x y : V} {u : Value} (r : zbf x u) (q : zbf y u) : x = y := Option.some.inj (r.abs.symm.trans q.abs)
theorem zbg.inj : ∀ {xs ys : List V} {us : List Value}, zbg xs us -> zbg ys us -> xs = ys
 | _, _, _, .nil, .nil => rfl
 | _, _, _, .cons r t, .cons r' t' => by rw [r.inj r', zbg.inj t t']
section
variable {X : Cx} {pins : List (Addr × Obj)} {O : St} {H : Hp} {s : Shared} {a : Addr} {xs ys : List V}
theorem SqL.of {K : xFg} (h : H a = some (.lst xs)) : SqL K H a xs := .inl (.inl h)
theorem SqT.of {K : xFg} (h : H a = some (.tup xs)) : SqT K H a xs := .inl (.inl h)
theorem Inv.list (I : Inv X pins O H s) (h : SqL X.K H a xs) : ∃ its : List Value, zbg xs its /\ PlainL s.heap a its.toArray /\ xs.length <= sizeLine := by
 rcases h with h | ⟨o, its, n, hk, hc, hd, hs, hz, r⟩
 ·obtain ⟨z, its, n, r, e⟩ := h.ok I.hok
  exact ⟨its, r, ⟨_, n, e, rfl, rfl, rfl⟩, z⟩
 ·refine ⟨its.toList, r, ⟨o, n, I.kIn a o hk, hc, hd, by simpa using hs⟩, ?_⟩
  have e := r.length
  simp only [xat] at e
  omega
theorem Inv.tuple (I : Inv X pins O H s) (h : SqT X.K H a xs) : ∃ its : List Value, zbg xs its /\ IsTup s.heap a its.toArray /\ xs.length <= sizeLine := by
 rcases h with h | ⟨o, its, n, hk, hc, hs, hz, r⟩
 ·obtain ⟨z, its, r, p⟩ := h.ok I.hok
  exact ⟨its, r, p, z⟩
 ·refine ⟨its.toList, r, ⟨o, I.kIn a o hk, hc, n, by simpa using hs⟩, ?_⟩
  have e := r.length
  simp only [xat] at e
  omega
theorem Inv.list_inj (I : Inv X pins O H s) (h : SqL X.K H a xs) (h' : SqL X.K H a ys) : xs = ys := by
 obtain ⟨its, r, ⟨o, n, e, _, _, d⟩, _⟩ := I.list h
 obtain ⟨its', r', ⟨o', n', e', _, _, d'⟩, _⟩ := I.list h'
 rw [e] at e'; cases e'
 rw [d] at d'
 injection d' with d1 _
 have : its = its' := by simpa using congrArg Array.toList d1
 subst this
 exact r.inj r'
theorem Inv.tuple_inj (I : Inv X pins O H s) (h : SqT X.K H a xs) (h' : SqT X.K H a ys) : xs = ys := by
 obtain ⟨its, r, ⟨o, e, _, n, d⟩, _⟩ := I.tuple h
 obtain ⟨its', r', ⟨o', e', _, n', d'⟩, _⟩ := I.tuple h'
 rw [e] at e'; cases e'
 rw [d] at d'
 injection d' with d1 _
 have : its = its' := by simpa using congrArg Array.toList d1
 subst this
 exact r.inj r'
end
abbrev Cx.wish (X : Cx) (E : Value -> Shared -> Prop) : Cx := { X with xe := E }
abbrev Cx.nox (X : Cx) : Cx := X.wish fun _ _ => False
theorem Cx.Ok.wish {X : Cx} (ok : X.Ok) (E : Value -> Shared -> Prop) : (X.wish E).Ok :=
 ⟨ok.mod, ok.kind, ok.glob, ok.blt, ok.above, ok.inj, ok.has, ok.cab, ok.hd, ok.frames, ok.stk, ok.exf, ok.bs, ok.bsz, ok.noex, ok.exfs, ok.funs, ok.frf⟩
theorem Cx.Ok.unwish {X : Cx} {E : Value -> Shared -> Prop} (ok : (X.wish E).Ok) : X.Ok :=
 ⟨ok.mod, ok.kind, ok.glob, ok.blt, ok.above, ok.inj, ok.has, ok.cab, ok.hd, ok.frames, ok.stk, ok.exf, ok.bs, ok.bsz, ok.noex, ok.exfs, ok.funs, ok.frf⟩
section
variable {X : Cx} {pins : List (Addr × Obj)} {O : St} {H : Hp} {s : Shared} {E : Value -> Shared -> Prop}
theorem Inv.wish (I : Inv X pins O H s) (E : Value -> Shared -> Prop) : Inv (X.wish E) pins O H s := ⟨I.ok.wish E, I.os, I.bare, I.base, I.loc, I.cell, I.free, I.freeC, I.pin, I.hok, I.len⟩
theorem Inv.unwish (I : Inv (X.wish E) pins O H s) : Inv X pins O H s := ⟨I.ok.unwish, I.os, I.bare, I.base, I.loc, I.cell, I.free, I.freeC, I.pin, I.hok, I.len⟩
end
section
variable {X : Cx} {st : Stmt} {zce : List Stmt} {t u : TS} {e : Expr} {te : TE} {pos : Pos}
def zvR : TS := fun D O H => D.nx O H
def tSeq (t u : TS) : TS := fun D O H => t { D with nx := u D } O H
theorem zrv : PSs X [] zvR := fun _ _ O H _ I h => wpAny_execs_nil ⟨O, H, I, h⟩
theorem zoR (h1 : PS X st t) (h2 : PSs X zce u) : PSs X (st :: zce) (tSeq t u) := by
 intro pins s O H D I h
 refine wpAny_execs_cons (thn (h1 pins s O H { D with nx := u D } I h) fun f s1 q => ?_)
 cases f with
 | next =>
  obtain ⟨O', H', I', q⟩ := q
  exact h2 pins s1 O' H' D I' q
 | ret v => exact q
 | brk => exact q
 | cont => exact q
theorem zrw (h1 : PS X st t) : PSs X [st] t := by
 intro pins s O H D I h
 refine wpAny_execs_cons (thn (h1 pins s O H D I h) fun f s1 q => ?_)
 cases f with
 | next => exact wpAny_execs_nil q
 | ret v => exact q
 | brk => exact q
 | cont => exact q
theorem Inv.quiet {pins : List (Addr × Obj)} {O : St} {H : Hp} {s : Shared} (I : Inv X pins O H s) : interactive X.env = false := by simp [interactive, I.ok.kind]
def zvS (te : TE) : TS := fun D O H => te O H fun _ H1 => D.nx O H1
theorem zmi (he : PE X e te) (hs : swapsWith e none pos.line X.env = pure false := by rfl) : PS X (.Expr e pos) (zvS te) := by
 intro pins s O H D I h
 exact wpAny_Expr_any (thn (he pins s O H _ I h) fun v s1 ⟨x, H1, I1, r1, q1⟩ => ⟨O, H1, I1, q1⟩) I.quiet hs
def tRet (te : TE) : TS := fun D O H => te O H D.rt
theorem zqa (he : PE X e te) : PS X (.Return (some e) pos) (tRet te) := by
 intro pins s O H D I h
 exact wpAny_Return_some (thn (he pins s O H _ I h) fun v s1 ⟨x, H1, I1, r1, q1⟩ => ⟨x, O, H1, I1, r1, q1⟩)
def tIfS (c : TT) (t u : TS) : TS := fun D O H => c O H fun b H1 => if b = true then t D O H1 else u D O H1
theorem zvT {c : Expr} {a b : List Stmt} {tc : TT} (hc : PT X c tc) (ha : PSs X a t) (hb : PSs X b u) : PS X (.If c a b pos) (tIfS tc t u) := by
 intro pins s O H D I h
 refine wpAny_If (thn (hc pins s O H _ I h) fun d s1 ⟨H1, I1, q1⟩ => ?_)
 cases d with
 | true => exact ha pins s1 O H1 D I1 q1
 | false => exact hb pins s1 O H1 D I1 q1
def zts : TS := fun _ _ _ => False
theorem zoS : PS X st zts := fun _ _ _ _ _ _ h => h.elim
end
abbrev TG := V -> St -> Hp -> (St -> Hp -> Prop) -> Prop
abbrev TGs := List V -> St -> Hp -> (St -> Hp -> Prop) -> Prop
def PG (X : Cx) (target : Expr) (t : TG) : Prop :=
 ∀ (pins : List (Addr × Obj)) (s : Shared) (O : St) (H : Hp) (v : V) (u : Value) (Q : St -> Hp -> Prop), Inv X pins O H s -> zbf v u -> t v O H Q ->
  wpAny (model X.prog X.w) X.A (assign target X.env u) (fun _ s' => ∃ O' H', Inv X pins O' H' s' /\ Q O' H') X.xe s
def PGs (X : Cx) (ts : List Expr) (t : TGs) : Prop :=
 ∀ (pins : List (Addr × Obj)) (s : Shared) (O : St) (H : Hp) (vs : List V) (us : List Value) (Q : St -> Hp -> Prop), Inv X pins O H s -> zbg vs us -> t vs O H Q ->
  wpAny (model X.prog X.w) X.A (assignInOrder ((assignEach ts X.env).map (·.2)) us) (fun _ s' => ∃ O' H', Inv X pins O' H' s' /\ Q O' H') X.xe s
abbrev TSet := V -> V -> V -> Hp -> (Hp -> Prop) -> Prop
def PSet (X : Cx) (t : TSet) : Prop :=
 ∀ (pins : List (Addr × Obj)) (s : Shared) (O : St) (H : Hp) (o i v : V) (ov iv u : Value) (Q : Hp -> Prop), Inv X pins O H s -> zbf o ov -> zbf i iv -> zbf v u -> t o i v H Q ->
  wpAny (model X.prog X.w) X.A (setItem ov iv u) (fun _ s' => ∃ H', Inv X pins O H' s' /\ Q H') X.xe s
section
variable {X : Cx} {pos : Pos}
def zie (i : Nat) : TG := fun v O H Q => Q (O.set i (some v)) H
theorem zmj {i : Nat} {x : Str} (hN : X.N.Nodup) (hi : X.N[i]? = some x) (hx : Loc X.env.scope x) (hf : X.fn x = true \/ X.env.scope.names.lookup x = some .local := by first | exact .inl rfl | exact .inr rfl | assumption) : PG X (.Name x pos) (zie i) := by
 intro pins s O H v u Q I r h
 exact wpAny_assign_Name (zdX I hN hi hx r (fun s' I' => ⟨_, H, I', h⟩) hf)
def gNil : TGs := fun vs O H Q => vs = [] /\ Q O H
def ztt (t : TG) (u : TGs) : TGs := fun vs O H Q => ∃ v r, vs = v :: r /\ t v O H fun O' H' => u r O' H' Q
theorem zrx : PGs X [] gNil := by
 intro pins s O H vs us Q I r h
 obtain ⟨e, h⟩ := h
 subst e
 cases r
 exact assignInOrder_nil ⟨O, H, I, h⟩
theorem zoT {e : Expr} {es : List Expr} {t : TG} {u : TGs} (h1 : PG X e t) (h2 : PGs X es u)
  (hs : (assignEach (e :: es) X.env).map (·.2) = assign e X.env :: (assignEach es X.env).map (·.2) := by rfl) : PGs X (e :: es) (ztt t u) := by
 intro pins s O H vs us Q I r h
 obtain ⟨v, vr, e1, h⟩ := h
 subst e1
 cases r with
 | cons r rr =>
  rw [hs]
  refine assignInOrder_cons (thn (h1 pins s O H _ _ _ I r h) fun _ s1 ⟨O1, H1, I1, q1⟩ => ?_)
  exact h2 pins s1 O1 H1 _ _ Q I1 rr q1
def gTup (K : xFg) (n : Nat) (t : TGs) : TG := fun v O H Q => ∃ a xs, v = .ref a /\ SqT K H a xs /\ xs.length = n /\ t xs O H Q
theorem ztu {es : List Expr} {k : Nat} {t : TGs} {n : Nat} (hc : X.calm = true) (h : PGs X es t)
  (hn : (assignEach es X.env).length = n := by rfl) (hst : (assignEach es X.env).findIdx? (·.1) = none := by rfl) : PG X (.Tuple es k pos) (gTup X.K n t) := by
 intro pins s O H v u Q I r hw
 obtain ⟨a, xs, e1, hq, hl, hw⟩ := hw
 subst e1
 cases r
 obtain ⟨its, rv, ht, hz⟩ := I.tuple hq
 refine assign_Tuple_tuple (I.ok.hd hc) ht (by simp [hn, <- hl, rv.length]) hst fun h' hx => ?_
 have I1 : Inv X pins O H { s with heap := h' } := I.kept (t' := s.toks) fun b o e => hx b o (xam (xab e)) e
 exact h pins _ O H xs _ Q I1 (by simpa using rv) hw
def gSub (to ti : TE) (t : TSet) : TG := fun v O H Q => to O H fun o H1 => ti O H1 fun i H2 => t o i v H2 fun H3 => Q O H3
theorem zqb {o i : Expr} {to ti : TE} {t : TSet} (ho : PE X o to) (hi : PE X i ti) (hs : PSet X t)
  (ha : ∀ v, assign (.Subscript o i pos) X.env v = (do
   let ov <- holding [v] (eval o X.env)
   let iv <- holding [v, ov] (eval i X.env)
   standAt pos
   holding [v, ov, iv] (setItem ov iv v)
   release [v, ov, iv] []) := by intro _; rfl) : PG X (.Subscript o i pos) (gSub to ti t) := by
 intro pins s O H v u Q I r h
 rw [ha]
 refine wpAny_bind (wpAny_holding (thn (ho pins s O H _ I h) fun ov s1 ⟨x, H1, I1, r1, q1⟩ => ?_))
 refine wpAny_bind (wpAny_holding (thn (hi pins s1 O H1 _ I1 q1) fun iv s2 ⟨y, H2, I2, r2, q2⟩ => ?_))
 refine wpAny_bind (wpAny_standAt (wpAny_bind (wpAny_holding (thn (hs pins s2 O H2 x y v ov iv u _ I2 r1 r2 r q2) fun _ s3 ⟨H3, I3, q3⟩ => ?_))))
 exact wpAny_release ⟨O, H3, I3, q3⟩
def zry (te : TE) (g : TG) : TS := fun D O H => te O H fun x H1 => g x O H1 D.nx
theorem zmk {tg e : Expr} {te : TE} {g : TG} (he : PE X e te) (hg : PG X tg g) (hs : swapsWithSole [tg] e pos.line X.env = pure false := by rfl) (hw : swappedStores [tg] e X.env = pure none := by rfl)
  (h1 : (assignEach [tg] X.env).map (·.2) = [assign tg X.env] := by rfl) : PS X (.Assign [tg] e pos) (zry te g) := by
 intro pins s O H D I h
 refine wpAny_Assign_stores (thn (he pins s O H _ I h) fun v s1 ⟨x, H1, I1, r1, q1⟩ => ?_) hs hw
 rw [h1]
 exact thn (hg pins s1 O H1 x v _ I1 r1 q1) fun _ s2 q => q
theorem zkd {i : Nat} {x : Str} {e : Expr} {te : TE} {pos' : Pos} (hN : X.N.Nodup) (hi : X.N[i]? = some x) (hx : Loc X.env.scope x) (he : PE X e te) (hs : swapsWith e (some (.Name x pos')) pos.line X.env = pure false := by rfl) (hf : X.fn x = true \/ X.env.scope.names.lookup x = some .local := by first | exact .inl rfl | exact .inr rfl | assumption) :
  PS X (.Assign [.Name x pos'] e pos) (zry te (zie i)) := by
 intro pins s O H D I h
 refine wpAny_Assign_Name (thn (he pins s O H _ I h) fun v s1 ⟨y, H1, I1, r1, q1⟩ => ?_) hs
 exact zdX I1 hN hi hx r1 (fun s2 I2 => ⟨_, H1, I2, q1⟩) hf
def tPar (i j : Nat) (ta : TA) : TS := fun D O H => ta O H fun vs H1 => ∃ v w, vs = [v, w] /\ D.nx ((O.set i (some v)).set j (some w)) H1
theorem ztv {i j : Nat} {x y : Str} {a b : Expr} {ta : TA} {px py pt : Pos} {kt k2 pt2} (hc : X.calm = true) (hN : X.N.Nodup) (hi : X.N[i]? = some x) (hj : X.N[j]? = some y) (hij : i ≠ j)
  (hx : X.env.scope.names.lookup x = some .local) (hy : X.env.scope.names.lookup y = some .local) (ha : PA X [a, b] ta)
  (hw : swappedStores [.Tuple [.Name x px, .Name y py] kt pt] (.Tuple [a, b] k2 pt2) X.env = pure (some [x, y]))
  (hs : swapsWithSole [.Tuple [.Name x px, .Name y py] kt pt] (.Tuple [a, b] k2 pt2) pos.line X.env = pure false := by rfl) :
  PS X (.Assign [.Tuple [.Name x px, .Name y py] kt pt] (.Tuple [a, b] k2 pt2) pos) (tPar i j ta) := by
 intro pins s O H D I h
 rw [exec_Assign_arm]
 refine wpAny_bind (wpAny_standAt ?_)
 rw [hs]
 refine wpAny_bind (wpAny_pure ?_)
 rw [if_neg (by decide)]
 refine wpAny_bind (Tuple_ (thn (ha _ pins s O H _ I h) fun us s1 ⟨vs, H1, I1, r1, q1⟩ => ?_))
 obtain ⟨v, w, e1, q1⟩ := q1
 subst e1
 obtain ⟨u1, u2, rfl, rv, rw'⟩ : ∃ u1 u2, us = [u1, u2] /\ zbf v u1 /\ zbf w u2 := by
  cases r1 with
  | cons p q =>
   cases q with
   | cons p' q' =>
    cases q'
    exact ⟨_, _, rfl, p, p'⟩
 refine wpAny_newObj_type ?_ (by show 2 <= sizeLine; decide)
 have I2 : Inv X pins O H1 { s1 with heap := s1.heap.push { cls := .type "tuple", data := .seq [u1, u2].toArray } } := I1.kept (t' := s1.toks) fun b o e => xaa _ e
 rw [hw]
 refine wpAny_bind (wpAny_pure ?_)
 show wpAny (model X.prog X.w) X.A (do rule "assign.swapped-stores"; let items <- unpackItems (.ref s1.heap.objs.size) 2 none; assignInOrder [fun v => bindName X.env y v, fun v => bindName X.env x v] items.reverse; pure Flow.next) _ _ _
 refine wpAny_bind (wpAny_rule (wpAny_bind (unpackItems_tuple (items := #[u1, u2]) (I.ok.hd hc) (IsTup.new s1.heap _) fun h' hx' => ?_)))
 have I3 := I2.kept (h' := h') (t' := s1.toks) fun b o e => hx' b o (xam (xab e)) e
 show wpAny _ _ (assignInOrder [fun v => bindName X.env y v, fun v => bindName X.env x v] [u2, u1] >>= fun _ => pure Flow.next) _ _ _
 refine wpAny_bind (assignInOrder_cons (wpAny_bindName (zdX I3 hN hj (.inl hy) rw' (fun s2 I4 => ?_) (.inr hy))))
 refine assignInOrder_cons (wpAny_bindName (zdX I4 hN hi (.inl hx) rv (fun s3 I5 => assignInOrder_nil (wpAny_pure ?_)) (.inr hx)))
 rw [List.set_comm _ _ (xax hij)] at I5
 exact ⟨_, H1, I5, q1⟩
end
section
variable {X : Cx} {pos : Pos}
def ztw (c : TT) (tb : TS) : TS := fun D O H => ∃ W : Nat -> St -> Hp -> Prop, (∃ m, W m O H) /\ ∀ m O H, W m O H ->
 c O H fun b H1 => if b = true then ∃ N : St -> Hp -> Prop, (∀ O' H', N O' H' -> ∃ m', m' < m /\ W m' O' H') /\ tb { D with nx := N, ct := N, bk := D.nx } O H1 else D.nx O H1
theorem zoU {c : Expr} {body : List Stmt} {tc : TT} {tb : TS} (hp : PassesOwn (model X.prog X.w) X.A X.env X.xe) (hc : PT X c tc) (hb : PSs X body tb) : PS X (.While c body [] pos) (ztw tc tb) := by
 intro pins s O H D I h
 obtain ⟨W, ⟨m0, w0⟩, turn⟩ := h
 refine wpAny_While (codeAny_whileLoop (fun n s' => ∃ O' H', Inv X pins O' H' s' /\ W n O' H') ?_ m0 ⟨O, H, I, w0⟩)
 rintro n s1 ⟨O1, H1, I1, w1⟩
 refine wpAny_passesOwn hp (thn (hc pins s1 O1 H1 _ I1 (turn n O1 H1 w1)) fun b s2 ⟨H2, I2, q2⟩ => ?_)
 cases b with
 | true =>
  obtain ⟨N, hN, q2⟩ := q2
  rw [if_pos rfl]
  refine wpAny_passesOwn hp (thn (hb pins s2 O1 H2 _ I2 q2) fun f s3 q3 => ?_)
  cases f with
  | next =>
   obtain ⟨O3, H3, I3, n3⟩ := q3
   obtain ⟨m', hm, w3⟩ := hN O3 H3 n3
   exact ⟨m', hm, O3, H3, I3, w3⟩
  | cont =>
   obtain ⟨O3, H3, I3, n3⟩ := q3
   obtain ⟨m', hm, w3⟩ := hN O3 H3 n3
   exact ⟨m', hm, O3, H3, I3, w3⟩
  | brk => exact q3
  | ret v => exact q3
 | false =>
  rw [if_neg xau]
  exact wpAny_execs_nil ⟨O1, H2, I2, q2⟩
end
structure It where
 go : Nat -> Hp -> Prop
 yld : Nat -> Hp -> V -> Hp -> Prop
 stop : Nat -> Hp -> Prop
def zke (X : Cx) (pins : List (Addr × Obj)) (H : Hp) (b : Addr) : Prop :=
 H b = none /\ b ≠ X.env.locals /\ b ∉ X.fs /\ (b ∈ X.ex \/ X.s₀.heap.objs.size <= b) /\ (∀ x c, X.env.cells.lookup x = some c -> c ≠ b) /\ ∀ p ∈ X.pn ++ pins, p.1 ≠ b
theorem Inv.fpOk {X : Cx} {pins : List (Addr × Obj)} {O : St} {H H' : Hp} {s : Shared} {b : Addr} (I : Inv X pins O H s) (hb : s.heap.objs.size <= b) (hn : H' b = none) : zke X pins H' b := by
 refine ⟨hn, xbt (xak I.lt hb), I.nofs hb, .inr (xa6 I.sz hb), fun x c e z => ?_, fun p hp z => ?_⟩
 ·obtain ⟨v, q⟩ := I.cell x c e
  exact absurd (xak q.lt (by rw [z]; exact hb)) (xbn _)
 ·exact absurd (xak (xab (I.pin p hp).1) (by rw [z]; exact hb)) (xbn _)
structure zoV (P : Program) (w : World) (K : xFg) (tg : Expr) (J : It) (fp : List Addr) (it : Addr) (tn : Nat -> Heap -> Prop) : Prop where
 mem : it ∈ fp
 obj : ∀ i h, tn i h -> ∀ b ∈ fp, ∃ o, h.get? b = some o /\ ∀ v, o.data ≠ .cell v
 keep : ∀ i h h', tn i h -> (∀ b ∈ fp, ∀ o, h.get? b = some o -> h'.get? b = some o) -> tn i h'
 item : ∀ (X : Cx), X.prog = P -> X.w = w -> X.K = K -> X.calm = true -> ∀ (i : Nat) (pins : List (Addr × Obj)) (s : Shared) (O : St) (H : Hp) (E : Value -> Shared -> Prop), Inv X pins O H s -> (∀ b ∈ fp, zke X pins H b) -> tn i s.heap -> J.go i H ->
  wpAny (model P w) X.A (pyNext (.ref it)) (fun r s1 => ∃ u, r = some u /\
   wpAny (model P w) X.A (letOwnedTupleGo tg (.ref it) u) (fun _ s2 => ∃ x H', Inv X pins O H' s2 /\ zbf x u /\ J.yld i H x H' /\ tn (i + 1) s2.heap /\ ∀ b ∈ fp, H' b = none) E s1) E s
 done : ∀ (X : Cx), X.prog = P -> X.w = w -> X.K = K -> X.calm = true -> ∀ (i : Nat) (pins : List (Addr × Obj)) (s : Shared) (O : St) (H : Hp) (E : Value -> Shared -> Prop), Inv X pins O H s -> (∀ b ∈ fp, zke X pins H b) -> tn i s.heap -> J.stop i H ->
  wpAny (model P w) X.A (pyNext (.ref it)) (fun r s1 => r = none /\ Inv X pins O H s1) E s
 self : ∀ (A : Around) (i : Nat) (s : Shared) (Q : Value -> Shared -> Prop) (E : Value -> Shared -> Prop), tn i s.heap -> Q (.ref it) s -> wpAny (model P w) A (pyIter (.ref it)) Q E s
abbrev TI := St -> Hp -> (It -> Hp -> Prop) -> Prop
def PIE (X : Cx) (pins : List (Addr × Obj)) (O : St) (tg : Expr) (R : It -> Hp -> Prop) (itv : Value) (s2 : Shared) : Prop :=
 ∃ (it : Addr) (fp : List Addr) (tn : Nat -> Heap -> Prop) (J : It) (H' : Hp), itv = .ref it /\ Inv X pins O H' s2 /\ zoV X.prog X.w X.K tg J fp it tn /\ tn 0 s2.heap /\ (∀ b ∈ fp, zke X pins H' b) /\ R J H'
def PI (X : Cx) (tg iter : Expr) (wi : TI) : Prop :=
 ∀ (pins : List (Addr × Obj)) (s : Shared) (O : St) (H : Hp) (R : It -> Hp -> Prop), Inv X pins O H s -> wi O H R ->
  wpAny (model X.prog X.w) X.A (eval iter X.env) (fun v s1 => wpAny (model X.prog X.w) X.A (pyIter v) (PIE X pins O tg R) X.xe s1) X.xe s
theorem zrz {M : Model} {A : Around} {E : Value -> Shared -> Prop} {s : Shared} {tg : Expr} {it : Addr} {u : Value} {o : Obj} {n : String} {vs : Array Value} {Q : Unit -> Shared -> Prop} (ho : s.heap.get? it = some o) (hc : o.cls = .type n) (hd : o.data = .fields vs)
  (hn : ["enumerate", "zip", "dict_itemiterator", "dict_reverseitemiterator", "odict_iterator", "itertools.zip_longest", "itertools.pairwise"].contains n = false) (hQ : Q () s) : wpAny M A (letOwnedTupleGo tg (.ref it) u) Q E s := by
 unfold letOwnedTupleGo
 cases tg <;> first
  | exact wpAny_pure hQ
  | (cases u <;> first
    | exact wpAny_pure hQ
    | (refine wpAny_bind (wpAny_load ho ?_)
       rw [hc, hd]
       show wpAny M A (if (["enumerate", "zip", "dict_itemiterator", "dict_reverseitemiterator", "odict_iterator", "itertools.zip_longest", "itertools.pairwise"].contains n && vs[0]? == some (rawInt _)) = true then _ else _) Q E s
       rw [if_neg (by intro h; rw [hn, Bool.false_and] at h; cases h)]
       exact wpAny_pure hQ))
def Itl (K : xFg) (a : Addr) : It :=
 ⟨fun i H => ∃ xs x, SqL K H a xs /\ xs[i]? = some x, fun i H x H' => H' = H /\ ∀ xs, SqL K H a xs -> xs[i]? = some x, fun i H => ∃ xs, SqL K H a xs /\ xs.length <= i⟩
def Itt (K : xFg) (a : Addr) : It :=
 ⟨fun i H => ∃ xs x, SqT K H a xs /\ xs[i]? = some x, fun i H x H' => H' = H /\ ∀ xs, SqT K H a xs -> xs[i]? = some x, fun i H => ∃ xs, SqT K H a xs /\ xs.length <= i⟩
def Itr (lo : Int) (n : Nat) : It := ⟨fun i _ => i < n, fun i H x H' => H' = H /\ x = .int (lo + i), fun i _ => n <= i⟩
theorem zml {P : Program} {w : World} {K : xFg} {tg : Expr} (a it : Addr) : zoV P w K tg (Itl K a) [it] it (fun i h => h.IsListIter it a i) where
 mem := by simp
 obj := fun i h st b hb => by
  have e : b = it := by simpa using hb
  subst e
  obtain ⟨o, e, c, d⟩ := st
  exact ⟨o, e, fun v z => by rw [d] at z; cases z⟩
 keep := fun i h h' st k => st.at fun o e => k it (by simp) o e
 item := by
  intro X hP hw hK hc i pins s O H E I hf st hg
  subst hP hw hK
  obtain ⟨xs, x, hq, hx⟩ := hg
  obtain ⟨its, rv, p, hz⟩ := I.list hq
  obtain ⟨u, hu, ru⟩ := rv.get hx
  obtain ⟨f0, f1, f2, f3, f4, f5⟩ := hf it (by simp)
  refine wpAny_pyNext_list_item st p.isList (x := u) (by simpa using hu) fun h' st' sb => ?_
  have I1 : Inv X pins O H { s with heap := h' } := I.turned (t' := s.toks) (fun b o hb e => (sb.2 b hb).trans e) f0 f1 f3 f4 f5
  obtain ⟨o, e, c, d⟩ := id st'
  exact ⟨u, rfl, zrz (s := { s with heap := h' }) e c d (by decide) ⟨x, H, I1, ru, ⟨rfl, fun ys hy => by rw [I.list_inj hy hq]; exact hx⟩, st', fun b hb => (hf b hb).1⟩⟩
 done := by
  intro X hP hw hK hc i pins s O H E I hf st hg
  subst hP hw hK
  obtain ⟨xs, hq, hx⟩ := hg
  obtain ⟨its, rv, p, hz⟩ := I.list hq
  obtain ⟨f0, f1, f2, f3, f4, f5⟩ := hf it (by simp)
  have hl := rv.length
  exact wpAny_pyNext_list_end (I.ok.hd hc) st p.isList (by simp; omega) fun h' eb => ⟨rfl, I.turned (t' := s.toks) (fun b o hb e => eb b o hb e) f0 f1 f3 f4 f5⟩
 self := fun _ _ _ _ _ st h => wpAny_pyIter_listiter st h
theorem zlC {P : Program} {w : World} {K : xFg} {tg : Expr} (a it : Addr) : zoV P w K tg (Itt K a) [it] it (fun i h => h.IsTupleIter it a i) where
 mem := by simp
 obj := fun i h st b hb => by
  have e : b = it := by simpa using hb
  subst e
  obtain ⟨o, e, c, d⟩ := st
  exact ⟨o, e, fun v z => by rw [d] at z; cases z⟩
 keep := fun i h h' st k => st.at fun o e => k it (by simp) o e
 item := by
  intro X hP hw hK hc i pins s O H E I hf st hg
  subst hP hw hK
  obtain ⟨xs, x, hq, hx⟩ := hg
  obtain ⟨its, rv, p, hz⟩ := I.tuple hq
  obtain ⟨u, hu, ru⟩ := rv.get hx
  obtain ⟨f0, f1, f2, f3, f4, f5⟩ := hf it (by simp)
  refine wpAny_pyNext_tuple_item st (show s.heap.IsTuple a its.toArray from p) (x := u) (by simpa using hu) fun h' st' sb => ?_
  have I1 : Inv X pins O H { s with heap := h' } := I.turned (t' := s.toks) (fun b o hb e => (sb.2 b hb).trans e) f0 f1 f3 f4 f5
  obtain ⟨o, e, c, d⟩ := id st'
  exact ⟨u, rfl, zrz (s := { s with heap := h' }) e c d (by decide) ⟨x, H, I1, ru, ⟨rfl, fun ys hy => by rw [I.tuple_inj hy hq]; exact hx⟩, st', fun b hb => (hf b hb).1⟩⟩
 done := by
  intro X hP hw hK hc i pins s O H E I hf st hg
  subst hP hw hK
  obtain ⟨xs, hq, hx⟩ := hg
  obtain ⟨its, rv, p, hz⟩ := I.tuple hq
  obtain ⟨f0, f1, f2, f3, f4, f5⟩ := hf it (by simp)
  have hl := rv.length
  exact wpAny_pyNext_tuple_end (I.ok.hd hc) st (show s.heap.IsTuple a its.toArray from p) (by simp; omega) fun h' eb => ⟨rfl, I.turned (t' := s.toks) (fun b o hb e => eb b o hb e) f0 f1 f3 f4 f5⟩
 self := fun _ _ _ _ _ st h => wpAny_pyIter_tupleiter st h
theorem zlD {P : Program} {w : World} {K : xFg} {tg : Expr} (it : Addr) (lo : Int) (n : Nat) : zoV P w K tg (Itr lo n) [it] it (fun i h => IsRangeIter h it (lo + (i : Nat) * 1) ((n : Int) - (i : Nat)) 1) where
 mem := by simp
 obj := fun i h st b hb => by
  have e : b = it := by simpa using hb
  subst e
  exact ⟨_, st, fun v z => by
   have z' : Data.fields _ = Data.cell v := z
   cases z'⟩
 keep := fun i h h' st k => k it (by simp) _ st
 item := by
  intro X hP hw hK hc i pins s O H E I hf st hg
  subst hP hw hK
  obtain ⟨f0, f1, f2, f3, f4, f5⟩ := hf it (by simp)
  have W := Walks.range (prog := X.prog) (w := X.w) (I.ok.hd hc) it lo 1 n
  refine W.item i s _ _ hg st fun v h' tk hv st' kk => ?_
  obtain ⟨t, rfl⟩ := hv
  have I1 : Inv X pins O H { s with heap := h', toks := tk } := I.turned (fun b o hb e => kk b o (by simpa using hb) e) f0 f1 f3 f4 f5
  refine ⟨_, rfl, zrz (s := { s with heap := h', toks := tk }) (n := "range_iterator") st' rfl rfl (by decide) ⟨.int (lo + i), H, I1, ⟨t, ?_⟩, ⟨rfl, rfl⟩, st', fun b hb => (hf b hb).1⟩⟩
  rw [Int.mul_one]
 done := by
  intro X hP hw hK hc i pins s O H E I hf st hg
  subst hP hw hK
  obtain ⟨f0, f1, f2, f3, f4, f5⟩ := hf it (by simp)
  exact wpAny_pyNext_range_end (I.ok.hd hc) st (by have : n <= i := hg; omega) fun h' eb => ⟨rfl, I.turned (t' := s.toks) (fun b o hb e => eb b o hb e) f0 f1 f3 f4 f5⟩
 self := fun _ _ _ _ _ st h => wpAny_pyIter_rangeiter st h
end L2
namespace L2
open PySem.Spec PyProof.Rows
section
variable {X : Cx} {tg : Expr}
def ztx (K : xFg) (tl : TE) : TI := fun O H R => tl O H fun x H1 => ∃ a, x = .ref a /\ (∃ xs, SqL K H1 a xs) /\ R (Itl K a) H1
def iTup (K : xFg) (tl : TE) : TI := fun O H R => tl O H fun x H1 => ∃ a, x = .ref a /\ (∃ xs, SqT K H1 a xs) /\ R (Itt K a) H1
theorem zrA {l : Expr} {tl : TE} (hl : PE X l tl) : PI X tg l (ztx X.K tl) := by
 intro pins s O H R I h
 refine thn (hl pins s O H _ I h) fun v s1 ⟨x, H1, I1, r1, q1⟩ => ?_
 obtain ⟨a, e, ⟨xs, hq⟩, q⟩ := q1
 subst e
 cases r1
 obtain ⟨its, rv, p, hz⟩ := I1.list hq
 refine wpAny_pyIter_list p.isList ?_
 refine ⟨s1.heap.objs.size, [s1.heap.objs.size], _, _, H1, rfl, I1.kept (t' := s1.toks) fun b o e => xaa _ e, zml a _, ⟨_, xar _ rfl, rfl, rfl⟩, fun b hb => ?_, q⟩
 have e : b = s1.heap.objs.size := by simpa using hb
 subst e
 exact I1.fpOk (xad _) (I1.hok.fresh (xad _))
theorem zty {l : Expr} {tl : TE} (hl : PE X l tl) : PI X tg l (iTup X.K tl) := by
 intro pins s O H R I h
 refine thn (hl pins s O H _ I h) fun v s1 ⟨x, H1, I1, r1, q1⟩ => ?_
 obtain ⟨a, e, ⟨xs, hq⟩, q⟩ := q1
 subst e
 cases r1
 obtain ⟨its, rv, p, hz⟩ := I1.tuple hq
 refine wpAny_pyIter_tuple (show s1.heap.IsTuple a its.toArray from p) ?_
 refine ⟨s1.heap.objs.size, [s1.heap.objs.size], _, _, H1, rfl, I1.kept (t' := s1.toks) fun b o e => xaa _ e, zlC a _, ⟨_, xar _ rfl, rfl, rfl⟩, fun b hb => ?_, q⟩
 have e : b = s1.heap.objs.size := by simpa using hb
 subst e
 exact I1.fpOk (xad _) (I1.hok.fresh (xad _))
theorem zoW {pins : List (Addr × Obj)} {O : St} {H : Hp} {s : Shared} {R : It -> Hp -> Prop} {E : Value -> Shared -> Prop} {lo hi : Int} {t u v : Tok} {tk : Nat} (I : Inv X pins O H s) (h1 : -(2 ^ 62) <= lo) (h2 : lo < 2 ^ 62) (h3 : -(2 ^ 62) <= hi) (h4 : hi < 2 ^ 62)
  (q : R (Itr lo (hi - lo).toNat) H) : wpAny (model X.prog X.w) X.A (pyIter (.ref s.heap.objs.size)) (PIE X pins O tg R) E { s with heap := s.heap.push { cls := .type "range", data := .fields #[.int lo t, .int hi u, .int 1 v] }, toks := tk } := by
 refine wpAny_pyIter_range (IsRange.new ..) (small_one h1 h2 h3 h4) ?_
 have I1 : Inv X pins O H { s with heap := s.heap.push { cls := .type "range", data := .fields #[.int lo t, .int hi u, .int 1 v] }, toks := tk } := I.kept fun b o e => xaa _ e
 refine ⟨(s.heap.push { cls := .type "range", data := .fields #[.int lo t, .int hi u, .int 1 v] }).objs.size, [(s.heap.push { cls := .type "range", data := .fields #[.int lo t, .int hi u, .int 1 v] }).objs.size], _, _, H, rfl,
  I1.kept (t' := tk) fun b o e => xaa _ e, zlD _ lo (hi - lo).toNat, ?_, fun b hb => ?_, q⟩
 ·have e1 : lo + ((0 : Nat) : Int) * 1 = lo := by simp
  have e2 : (((hi - lo).toNat : Nat) : Int) - ((0 : Nat) : Int) = Builtin.Range.rangeSize lo hi 1 := by rw [rangeSize_one]; split <;> omega
  show IsRangeIter _ _ (lo + ((0 : Nat) : Int) * 1) ((((hi - lo).toNat : Nat) : Int) - ((0 : Nat) : Int)) 1
  rw [e1, e2]
  exact xar _ rfl
 ·have e : b = (s.heap.push { cls := .type "range", data := .fields #[.int lo t, .int hi u, .int 1 v] }).objs.size := by simpa using hb
  subst e
  exact I1.fpOk (xad _) (I1.hok.fresh (xad _))
def zvU (ta : TA) : TI := fun O H R => ta O H fun vs H1 => ∃ j : Int, vs = [.int j] /\ -(2 ^ 62) <= j /\ j < 2 ^ 62 /\ R (Itr 0 j.toNat) H1
theorem zmm {a : Expr} {ta : TA} {p pos : Pos} (hg : Gl X "range") (hm : X.mg "range" = none) (ha : PA X [a] ta) (hs : starEach [a] X.env = [(false, eval a X.env)] := by rfl) : PI X tg (.Call (.Name "range" p) [a] [] pos) (zvU ta) := by
 intro pins s O H R I h
 refine Call_ (zfW I hg hm boot_range (PyProof.Rows.callWith_type1 (thn (ha pos pins s O H _ I h) fun us s1 ⟨vs, H1, I1, r1, q1⟩ => ?_) hs rfl))
 obtain ⟨j, e, q1, q2, q⟩ := q1
 subst e
 cases r1 with
 | cons r rr =>
  cases rr
  obtain ⟨t, rfl⟩ := r
  exact call_range_1 (zoW I1 (by omega) (by omega) q1 q2 (by simpa using q))
def tFor (wi : TI) (g : TG) (tb : TS) : TS := fun D O H => wi O H fun J H1 => ∃ W : Nat -> Nat -> St -> Hp -> Prop, (∃ m, W 0 m O H1) /\ ∀ i m O H, W i m O H ->
 (J.stop i H /\ D.nx O H) \/ (J.go i H /\ ∃ N : St -> Hp -> Prop, (∀ O' H', N O' H' -> ∃ m', m' < m /\ W (i + 1) m' O' H') /\ ∀ x H', J.yld i H x H' -> g x O H' fun O2 H2 => tb { D with nx := N, ct := N, bk := D.nx } O2 H2)
def zif (fp : List Addr) (h : Heap) : List (Addr × Obj) := fp.filterMap fun b => (h.get? b).map fun o => (b, o)
theorem zdY {fp : List Addr} {h : Heap} {b : Addr} {o : Obj} (hb : b ∈ fp) (e : h.get? b = some o) : (b, o) ∈ zif fp h := xbp.mpr ⟨b, hb, by rw [e]; rfl⟩
theorem zmn {fp : List Addr} {h : Heap} {p : Addr × Obj} (hp : p ∈ zif fp h) : p.1 ∈ fp /\ h.get? p.1 = some p.2 := by
 obtain ⟨b, hb, e⟩ := xbp.mp hp
 cases q : h.get? b with
 | none => rw [q] at e; cases e
 | some o =>
  rw [q] at e
  have e' : (b, o) = p := Option.some.inj e
  subst e'
  exact ⟨hb, q⟩
theorem Inv.pinned {pins : List (Addr × Obj)} {O : St} {H : Hp} {s : Shared} {fp : List Addr} (I : Inv X pins O H s) (hf : ∀ b ∈ fp, zke X pins H b) (ho : ∀ b ∈ fp, ∃ o, s.heap.get? b = some o /\ ∀ v, o.data ≠ .cell v) : Inv X (pins ++ zif fp s.heap) O H s :=
 I.pins_of fun p hp => (xbd.mp hp).elim (fun z => I.pin p (xa5 _ z)) fun z => by
  obtain ⟨hb, e⟩ := zmn z
  obtain ⟨f0, f1, f2, _⟩ := hf p.1 hb
  obtain ⟨o, e', d⟩ := ho p.1 hb
  rw [e] at e'; cases e'
  exact ⟨e, f0, f1, f2, d⟩
theorem Inv.unpinned {pins pl : List (Addr × Obj)} {O : St} {H : Hp} {s : Shared} (I : Inv X (pins ++ pl) O H s) : Inv X pins O H s := I.pins_of fun p hp => I.pin p (xa5 _ (xcb _ hp))
theorem ztz {iter : Expr} {body : List Stmt} {wi : TI} {g : TG} {tb : TS} {pos : Pos} (hp : PassesOwn (model X.prog X.w) X.A X.env X.xe) (hc : X.calm = true) (hi : PI X tg iter wi) (hg : PG X tg g) (hb : PSs X body tb)
  (hs : ∀ x, foldedSetIterable iter X.env x = pure x := by intro _; rfl) : PS X (.For tg iter body [] pos) (tFor wi g tb) := by
 intro pins s O H D I h
 refine wpAny_For (thn (hi pins s O H _ I h) fun v s1 h1 => thn h1 fun itv s2 h2 => ?_) hs
 obtain ⟨it, fp, tn, J, H2, e, I2, T, st2, f2, W, ⟨m0, w0⟩, turn⟩ := h2
 subst e
 have stat : ∀ {H' : Hp}, (∀ b ∈ fp, H' b = none) -> ∀ b ∈ fp, zke X pins H' b := fun hn b hb => ⟨hn b hb, (f2 b hb).2⟩
 refine codeAny_forLoop_any (fun n s' => ∃ i O' H', Inv X pins O' H' s' /\ tn i s'.heap /\ (∀ b ∈ fp, H' b = none) /\ W i n O' H') ?_ m0 ⟨0, O, H2, I2, st2, fun b hb => (f2 b hb).1, w0⟩
 rintro n s3 ⟨i, O3, H3, I3, st3, fr3, w3⟩
 rcases turn i n O3 H3 w3 with ⟨stop, qn⟩ | ⟨go, N, hN, step⟩
 ·refine wpAny_passesOwn hp (thn (T.done X rfl rfl rfl hc i pins s3 O3 H3 X.xe I3 (stat fr3) st3 stop) fun r s4 ⟨hr, I4⟩ => ?_)
  subst hr
  exact wpAny_execs_nil ⟨O3, H3, I4, qn⟩
 ·refine wpAny_passesOwn hp (thn (T.item X rfl rfl rfl hc i pins s3 O3 H3 X.xe I3 (stat fr3) st3 go) fun r s4 ⟨u, hr, h4⟩ => ?_)
  subst hr
  refine wpAny_passesOwn hp (thn h4 fun _ s5 ⟨x, H5, I5, r5, y5, st5, fr5⟩ => ?_)
  have I5' := I5.pinned (stat fr5) (T.obj _ _ st5)
  refine wpAny_passesOwn hp (thn (hg _ s5 O3 H5 x u _ I5' r5 (step x H5 y5)) fun _ s6 ⟨O6, H6, I6, q6⟩ => ?_)
  refine wpAny_passesOwn hp (thn (hb _ s6 O6 H6 _ I6 q6) fun f s7 q7 => ?_)
  have again : ∀ {O7 : St} {H7 : Hp}, Inv X (pins ++ zif fp s5.heap) O7 H7 s7 -> N O7 H7 -> ∃ m, m < n /\ ∃ i O' H', Inv X pins O' H' s7 /\ tn i s7.heap /\ (∀ b ∈ fp, H' b = none) /\ W i m O' H' := fun {O7 H7} I7 n7 => by
   obtain ⟨m', hm, w7⟩ := hN O7 H7 n7
   refine ⟨m', hm, i + 1, O7, H7, I7.unpinned, T.keep _ _ _ st5 fun b hb o e => (I7.pin (b, o) (xa5 _ (xa5 _ (zdY hb e)))).1, fun b hb => ?_, w7⟩
   obtain ⟨o, e, d⟩ := T.obj _ _ st5 b hb
   exact (I7.pin (b, o) (xa5 _ (xa5 _ (zdY hb e)))).2.1
  cases f with
  | next => obtain ⟨O7, H7, I7, n7⟩ := q7; exact again I7 n7
  | cont => obtain ⟨O7, H7, I7, n7⟩ := q7; exact again I7 n7
  | brk => obtain ⟨O7, H7, I7, q7⟩ := q7; exact ⟨O7, H7, I7.unpinned, q7⟩
  | ret v => obtain ⟨x7, O7, H7, I7, r7, q7⟩ := q7; exact ⟨x7, O7, H7, I7.unpinned, r7, q7⟩
end
end L2
namespace L2
open PySem.Spec PyProof.Rows
abbrev R2 := V -> V -> Hp -> VK -> Prop
def OpR (X : Cx) (f : Value -> Value -> Sem Value) (r : R2) : Prop :=
 ∀ (pins : List (Addr × Obj)) (s : Shared) (O : St) (H : Hp) (x y : V) (v u : Value) (Q : VK), Inv X pins O H s -> zbf x v -> zbf y u -> r x y H Q ->
  wpAny (model X.prog X.w) X.A (f v u) (EP X pins O Q) X.xe s
def UnR (X : Cx) (f : Value -> Sem Value) (r : V -> Hp -> VK -> Prop) : Prop :=
 ∀ (pins : List (Addr × Obj)) (s : Shared) (O : St) (H : Hp) (x : V) (v : Value) (Q : VK), Inv X pins O H s -> zbf x v -> r x H Q ->
  wpAny (model X.prog X.w) X.A (f v) (EP X pins O Q) X.xe s
def zc0 (X : Cx) (f : Value) (r : List V -> Hp -> VK -> Prop) : Prop :=
 ∀ (pins : List (Addr × Obj)) (s : Shared) (O : St) (H : Hp) (xs : List V) (us : List Value) (Q : VK), Inv X pins O H s -> zbg xs us -> r xs H Q ->
  wpAny (model X.prog X.w) X.A (call f us) (EP X pins O Q) X.xe s
def tOp (r : R2) (ta tb : TE) : TE := fun O H Q => ta O H fun x H1 => tb O H1 fun y H2 => r x y H2 Q
def tUn (r : V -> Hp -> VK -> Prop) (ta : TE) : TE := fun O H Q => ta O H fun x H1 => r x H1 Q
def rI (C : Int -> Int -> Prop) (g : Int -> Int -> V) : R2 := fun x y H Q => ∃ i j, x = .int i /\ y = .int j /\ C i j /\ Q (g i j) H
def rI0 (g : Int -> Int -> V) : R2 := fun x y H Q => ∃ i j, x = .int i /\ y = .int j /\ Q (g i j) H
def rU (g : Int -> V) : V -> Hp -> VK -> Prop := fun x H Q => ∃ i, x = .int i /\ Q (g i) H
section
variable {X : Cx} {a b c : Expr} {ta tb tc : TE} {pos : Pos}
theorem zvV (ha : PE X a ta) (hb : PE X b tb) {pins : List (Addr × Obj)} {s : Shared} {O : St} {H : Hp} {R : V -> V -> Hp -> Prop} (I : Inv X pins O H s)
  (h : ta O H fun x H1 => tb O H1 fun y H2 => R x y H2) {Q : Value -> Shared -> Prop} {f : Value -> Value -> Sem Value}
  (hf : ∀ v u s2 x y H2, Inv X pins O H2 s2 -> zbf x v -> zbf y u -> R x y H2 -> wpAny (model X.prog X.w) X.A (f v u) Q X.xe s2) :
  wpAny (model X.prog X.w) X.A (eval a X.env) (fun v s₁ => wpAny (model X.prog X.w) X.A (eval b X.env) (fun u s₂ => wpAny (model X.prog X.w) X.A (f v u) Q X.xe s₂) X.xe s₁) X.xe s := by
 refine thn (ha pins s O H _ I h) fun v s1 ⟨x, H1, I1, r1, q1⟩ => ?_
 refine thn (hb pins s1 O H1 _ I1 q1) fun u s2 ⟨y, H2, I2, r2, q2⟩ => ?_
 exact hf v u s2 x y H2 I2 r1 r2 q2
theorem zvW {op : Operator} {r : R2} (ho : OpR X (binaryOp op) r) (ha : PE X a ta) (hb : PE X b tb) : PE X (.BinOp a op b pos) (tOp r ta tb) := by
 intro pins s O H Q I h
 exact wpAny_BinOp (zvV ha hb I h fun v u s2 x y H2 I2 rx ry q => ho pins s2 O H2 x y v u Q I2 rx ry q)
theorem zvX {op : UnaryOp} {r : V -> Hp -> VK -> Prop} (ho : UnR X (unaryOp op) r) (ha : PE X a ta) : PE X (.UnaryOp op a pos) (tUn r ta) := by
 intro pins s O H Q I h
 exact UnaryOp_ (thn (ha pins s O H _ I h) fun v s1 ⟨x, H1, I1, r1, q1⟩ => ho pins s1 O H1 x v Q I1 r1 q1)
theorem opI {f : Value -> Value -> Sem Value} {C : Int -> Int -> Prop} {g : Int -> Int -> Int}
  (rule : ∀ (i j : Int) (t u : Tok) (s : Shared) (Q : Value -> Shared -> Prop) (E : Value -> Shared -> Prop), C i j -> Q (.int (g i j) s.toks) { s with toks := s.toks + 1 } -> wpAny (model X.prog X.w) X.A (f (.int i t) (.int j u)) Q E s) :
  OpR X f (rI C fun i j => .int (g i j)) := by
 intro pins s O H x y v u Q I rx ry h
 obtain ⟨i, j, rfl, rfl, hc, q⟩ := h
 obtain ⟨t, rfl⟩ := rx
 obtain ⟨t', rfl⟩ := ry
 exact rule i j t t' s _ _ hc ⟨.int (g i j), H, I.tok _, ⟨_, rfl⟩, q⟩
theorem opI0 {f : Value -> Value -> Sem Value} {g : Int -> Int -> Int}
  (rule : ∀ (i j : Int) (t u : Tok) (s : Shared) (Q : Value -> Shared -> Prop) (E : Value -> Shared -> Prop), Q (.int (g i j) s.toks) { s with toks := s.toks + 1 } -> wpAny (model X.prog X.w) X.A (f (.int i t) (.int j u)) Q E s) :
  OpR X f (rI0 fun i j => .int (g i j)) := by
 intro pins s O H x y v u Q I rx ry h
 obtain ⟨i, j, rfl, rfl, q⟩ := h
 obtain ⟨t, rfl⟩ := rx
 obtain ⟨t', rfl⟩ := ry
 exact rule i j t t' s _ _ ⟨.int (g i j), H, I.tok _, ⟨_, rfl⟩, q⟩
theorem zvv {f : Value -> Value -> Sem Value} {g : Int -> Int -> Bool}
  (rule : ∀ (i j : Int) (t u : Tok) (s : Shared) (Q : Value -> Shared -> Prop) (E : Value -> Shared -> Prop), Q (.bool (g i j)) s -> wpAny (model X.prog X.w) X.A (f (.int i t) (.int j u)) Q E s) :
  OpR X f (rI0 fun i j => .bl (g i j)) := by
 intro pins s O H x y v u Q I rx ry h
 obtain ⟨i, j, rfl, rfl, q⟩ := h
 obtain ⟨t, rfl⟩ := rx
 obtain ⟨t', rfl⟩ := ry
 exact rule i j t t' s _ _ ⟨.bl (g i j), H, I, rfl, q⟩
def CPow (i j : Int) : Prop := 0 <= j /\ j <= 1000000 /\ i.natAbs < 2 ^ 64
theorem ztA : OpR X (binaryOp .Add) (rI0 fun i j => .int (i + j)) := opI0 fun _ _ _ _ _ _ _ q => add_int q
theorem zrB : OpR X (binaryOp .Mod) (rI (fun _ j => j ≠ 0) fun i j => .int (i.fmod j)) := opI fun _ _ _ _ _ _ _ hc q => mod_int' hc q
theorem ztB : OpR X (binaryOp .Pow) (rI CPow fun i j => .int (i ^ j.toNat)) := opI fun _ _ _ _ _ _ _ hc q => pow_int_small hc.1 hc.2.1 hc.2.2 q
theorem unI {f : Value -> Sem Value} {g : Int -> Int}
  (rule : ∀ (i : Int) (t : Tok) (s : Shared) (Q : Value -> Shared -> Prop) (E : Value -> Shared -> Prop), Q (.int (g i) s.toks) { s with toks := s.toks + 1 } -> wpAny (model X.prog X.w) X.A (f (.int i t)) Q E s) :
  UnR X f (rU fun i => .int (g i)) := by
 intro pins s O H x v Q I rx h
 obtain ⟨i, rfl, q⟩ := h
 obtain ⟨t, rfl⟩ := rx
 exact rule i t s _ _ ⟨.int (g i), H, I.tok _, ⟨_, rfl⟩, q⟩
theorem ztC : UnR X (unaryOp .USub) (rU fun i => .int (-i)) := unI fun _ _ _ _ _ q => neg_int q
end
section
variable {X : Cx} {a b c : Expr} {ta tb tc : TE} {pos : Pos}
theorem zig {pins : List (Addr × Obj)} {O : St} {H : Hp} {s : Shared} {Q : VK} {k k' : Bool} (I : Inv X pins O H s) (q : Q (.bl k) H) (e : k = k') : EP X pins O Q (.bool k') s := by
 subst e
 exact ⟨.bl k, H, I, rfl, q⟩
theorem zvY : OpR X (compareOp .Lt) (rI0 fun i j => .bl (decide (i < j))) := zvv fun _ _ _ _ _ _ _ q => lt_int q
theorem zvZ : OpR X (compareOp .LtE) (rI0 fun i j => .bl (decide (i <= j))) := zvv fun _ _ _ _ _ _ _ q => le_int q
theorem zv0 : OpR X (compareOp .Gt) (rI0 fun i j => .bl (decide (j < i))) := zvv fun _ _ _ _ _ _ _ q => gt_int q
theorem zv1 : OpR X (compareOp .GtE) (rI0 fun i j => .bl (decide (j <= i))) := zvv fun _ _ _ _ _ _ _ q => ge_int q
theorem zmo : OpR X (compareOp .In) (fun x y H Q => ∃ i j, x = .str i /\ y = .str j /\ Q (.bl (!(Builtin.Str.occurrences j i 0 j.length 1).isEmpty)) H) := by
 intro pins s O H x y v u Q I rx ry h
 obtain ⟨i, j, rfl, rfl, q⟩ := h
 obtain ⟨t, rfl⟩ := rx
 obtain ⟨t', rfl⟩ := ry
 exact in_str (zig I q rfl)
theorem ztD : OpR X (compareOp .Is) (fun x y H Q => y = .non /\ Q (.bl (decide (x = .non))) H) := by
 intro pins s O H x y v u Q I rx ry h
 obtain ⟨rfl, q⟩ := h
 cases ry
 refine is_none_gen (zig I q ?_)
 cases x <;> first
  | (cases rx; rfl)
  | (obtain ⟨t, rfl⟩ := rx; rfl)
theorem zrC : OpR X (compareOp .IsNot) (fun x y H Q => y = .non /\ Q (.bl (!decide (x = .non))) H) := by
 intro pins s O H x y v u Q I rx ry h
 obtain ⟨rfl, q⟩ := h
 cases ry
 refine isnot_none_gen (zig I q ?_)
 cases x <;> first
  | (cases rx; rfl)
  | (obtain ⟨t, rfl⟩ := rx; rfl)
theorem OpR.or {f : Value -> Value -> Sem Value} {r r' : R2} (h : OpR X f r) (h' : OpR X f r') : OpR X f (fun x y H Q => r x y H Q \/ r' x y H Q) := by
 intro pins s O H x y v u Q I rx ry q
 rcases q with q | q
 ·exact h pins s O H x y v u Q I rx ry q
 ·exact h' pins s O H x y v u Q I rx ry q
theorem zrD {op : CmpOp} {r : R2} (ho : OpR X (compareOp op) r) (ha : PE X a ta) (hb : PE X b tb) (hm : behindInMarks op b = false) : PE X (.Compare a [op] [b] pos) (tOp r ta tb) := by
 intro pins s O H Q I h
 exact wpAny_Compare1 (zvV ha hb I h fun v u s2 x y H2 I2 rx ry q => ho pins s2 O H2 x y v u Q I2 rx ry q) hm
def zrE (t : TE) : TT := fun O H Q => t O H fun x H' => ∃ k, x = .bl k /\ Q k H'
theorem zrF {op : CmpOp} {r : R2} (ho : OpR X (compareOp op) r) (ha : PE X a ta) (hb : PE X b tb) (hm : behindInMarks op b = false) : PT X (.Compare a [op] [b] pos) (zrE (tOp r ta tb)) := by
 intro pins s O H Q I h
 refine wpAny_isTrue_Compare1 (thn (ha pins s O H _ I h) fun v s1 ⟨x, H1, I1, r1, q1⟩ => thn (hb pins s1 O H1 _ I1 q1) fun u s2 ⟨y, H2, I2, r2, q2⟩ =>
  thn (ho pins s2 O H2 x y v u _ I2 r1 r2 q2) fun c s3 ⟨z, H3, I3, r3, k, e, q3⟩ => ?_) hm
 subst e
 cases r3
 exact wpAny_truthy_bool ⟨H3, I3, q3⟩
def zqc (r r' : R2) (ta tb tc : TE) : TE := fun O H Q => ta O H fun x H1 => tb O H1 fun y H2 => r x y H2 fun z H3 => ∃ k, z = .bl k /\
 (if k = true then tc O H3 fun w' H4 => r' y w' H4 Q else Q (.bl false) H3)
theorem zoX {op op' : CmpOp} {r r' : R2} (ho : OpR X (compareOp op) r) (ho' : OpR X (compareOp op') r') (ha : PE X a ta) (hb : PE X b tb) (hc : PE X c tc)
  (hm : lastMarks [op, op'] [b, c] = false := by with_unfolding_all rfl) : PT X (.Compare a [op, op'] [b, c] pos) (zrE (zqc r r' ta tb tc)) := by
 intro pins s O H Q I h
 refine isTrue_chain (thn (ha pins s O H _ I h) fun v s1 ⟨x, H1, I1, r1, q1⟩ => test_link (thn (hb pins s1 O H1 _ I1 q1) fun u s2 ⟨y, H2, I2, r2, q2⟩ =>
  thn (ho pins s2 O H2 x y v u _ I2 r1 r2 q2) fun d s3 ⟨z, H3, I3, r3, k, e, q3⟩ => ?_)) hm
 subst e
 cases r3
 refine wpAny_truthy_bool ?_
 cases k with
 | false =>
  obtain ⟨k', e', q'⟩ := q3
  cases e'
  exact ite_ff ⟨H3, I3, q'⟩
 | true =>
  refine ite_tt (test_last (thn (hc pins s3 O H3 _ I3 q3) fun w' s4 ⟨z', H4, I4, r4, q4⟩ => thn (ho' pins s4 O H4 y z' u w' _ I4 r2 r4 q4) fun d' s5 ⟨z2, H5, I5, r5, k2, e2, q5⟩ => ?_))
  subst e2
  cases r5
  exact wpAny_truthy_bool ⟨H5, I5, q5⟩
theorem zih : (sizeLine : Nat) < 2 ^ 63 := by rw [sizeLine_eq]; decide
theorem zlE : OpR X (binaryOp .Add) (fun x y H Q => ∃ i j, x = .str i /\ y = .str j /\ i.length + j.length <= sizeLine /\ Q (.str (i ++ j)) H) := by
 intro pins s O H x y v u Q I rx ry h
 obtain ⟨i, j, rfl, rfl, hz, q⟩ := h
 obtain ⟨t, rfl⟩ := rx
 obtain ⟨t', rfl⟩ := ry
 exact add_str (fun t' tk => ⟨.str (i ++ j), H, I.tok _, ⟨_, rfl⟩, q⟩) hz
theorem zhI {x : V} {us : List Value} (r : zbg [x] us) : ∃ u, us = [u] /\ zbf x u := by
 cases r with
 | cons r1 r2 => cases r2; exact ⟨_, rfl, r1⟩
theorem zrG {x y : V} {us : List Value} (r : zbg [x, y] us) : ∃ u w', us = [u, w'] /\ zbf x u /\ zbf y w' := by
 cases r with
 | cons r1 r2 =>
  cases r2 with
  | cons r3 r4 => cases r4; exact ⟨_, _, rfl, r1, r3⟩
theorem zoY : zc0 X (.builtin "abs") (fun xs H Q => ∃ i, xs = [.int i] /\ Q (.int (if i < 0 then -i else i)) H) := by
 intro pins s O H xs us Q I r h
 obtain ⟨i, rfl, q⟩ := h
 obtain ⟨u, rfl, t, rfl⟩ := zhI r
 exact call_abs_int fun u tk => ⟨.int (if i < 0 then -i else i), H, I.tok _, ⟨_, rfl⟩, q⟩
theorem zmp (hc : X.calm = true) : zc0 X (.builtin "max") (fun xs H Q => ∃ i j, xs = [.int i, .int j] /\ Q (.int (if j > i then j else i)) H) := by
 intro pins s O H xs us Q I r h
 obtain ⟨i, j, rfl, q⟩ := h
 obtain ⟨u, w', rfl, ⟨t, rfl⟩, ⟨t', rfl⟩⟩ := zrG r
 refine max_two_ints (I.ok.hd hc) fun h' tk k => ⟨_, H, I.kept k, ?_, q⟩
 by_cases hj : j > i
 ·rw [if_pos hj, if_pos hj]; exact ⟨_, rfl⟩
 ·rw [if_neg hj, if_neg hj]; exact ⟨_, rfl⟩
end
end L2
namespace L2
open PySem.Spec PyProof.Rows
structure zfA (k : Nat) (A : Around) : Prop where
 hd : A.handled = none
 dp : A.depth + 3 * k + 5 < recursionLimit
 un : A.units + 16 * k + 200 < cLine
theorem zfA.mono {j k : Nat} {A : Around} (r : zfA k A) (h : j <= k) : zfA j A := ⟨r.hd, by have := r.dp; omega, by have := r.un; omega⟩
theorem zfA.deeper {k : Nat} {A : Around} (r : zfA (k + 1) A) (env : Env) : zfA k (A.deeper env) :=
 ⟨r.hd, by have := r.dp; show A.depth + 1 + 3 * k + 5 < _; omega, by have := r.un; show A.units + 3 + 16 * k + 200 < _; omega⟩
theorem zfA.depth {k : Nat} {A : Around} (r : zfA k A) : A.depth < recursionLimit := by have := r.dp; omega
def tNil : TA := fun _ H Q => Q [] H
def zv2 (ta : TE) (tr : TA) : TA := fun O H Q => ta O H fun x H1 => tr O H1 fun xs H2 => Q (x :: xs) H2
section
variable {X : Cx} {e : Expr} {es : List Expr} {te : TE} {t : TA} {pos : Pos}
theorem zqd : PA X [] tNil := fun _ _ _ _ H Q I h => Calls.spliced_nil ⟨[], H, I, .nil, h⟩
theorem zmq (ha : PE X e te) (hr : PA X es t) (hs : starEach (e :: es) X.env = (false, eval e X.env) :: starEach es X.env := by rfl) : PA X (e :: es) (zv2 te t) := by
 intro pos pins s O H Q I h
 rw [hs]
 show wpAny _ _ (spliced ((false, eval e X.env) :: backTo pos (starEach es X.env))) _ _ s
 refine Calls.spliced_cons (thn (ha pins s O H _ I h) fun u s1 ⟨x, H1, I1, r1, q1⟩ => ?_)
 exact thn (hr pos pins s1 O H1 _ I1 q1) fun us s2 ⟨xs, H2, I2, r2, q2⟩ => ⟨x :: xs, H2, I2, .cons r1 r2, q2⟩
def tTup (t : TA) : TE := fun O H Q => t O H fun xs H1 => xs.length <= sizeLine /\ ∀ p, H1 p = none -> Q (.ref p) (upd H1 p (.tup xs))
def tLst (t : TA) : TE := fun O H Q => t O H fun xs H1 => xs.length <= sizeLine /\ ∀ p, H1 p = none -> Q (.ref p) (upd H1 p (.lst xs))
theorem ztE {x1} (h : PA X es t) : PE X (.Tuple es x1 pos) (tTup t) := by
 intro pins s O H Q I hq
 refine wpAny_Tuple_spliced (thn (h pos pins s O H _ I hq) fun us s1 ⟨xs, H1, I1, r, z, q⟩ => ⟨by rw [<- r.length]; exact z, ?_⟩)
 have hf : H1 s1.heap.objs.size = none := I1.hok.fresh (xad _)
 refine ⟨.ref s1.heap.objs.size, upd H1 s1.heap.objs.size (.tup xs), I1.laid (t' := s1.toks) (fun b u e => xaa _ e) (xad _) ?_, rfl, q _ hf⟩
 exact ⟨z, us, r, ⟨_, xar _ rfl, rfl, _, rfl⟩⟩
theorem ztF (h : PA X es t) : PE X (.List es pos) (tLst t) := by
 intro pins s O H Q I hq
 refine wpAny_List_spliced (thn (h pos pins s O H _ I hq) fun us s1 ⟨xs, H1, I1, r, z, q⟩ => ⟨by rw [<- r.length]; exact z, ?_⟩)
 have hf : H1 s1.heap.objs.size = none := I1.hok.fresh (xad _)
 refine ⟨.ref s1.heap.objs.size, upd H1 s1.heap.objs.size (.lst xs), I1.laid (t' := s1.toks) (fun b u e => xaa _ e) (xad _) ?_, rfl, q _ hf⟩
 exact ⟨z, us, 0, r, xar _ rfl⟩
end
abbrev Sp := List V -> Hp -> VK -> XK -> Prop
abbrev CXT := List Env -> Hp -> Shared -> XK -> Value -> Shared -> Prop
structure zvw (P : Program) (w : World) (K : xFg) (mg : Str -> Option Value) (base : Heap) (A : Around) (outer : List Env) (s : Shared) (H : Hp) : Prop where
 frames : A.frames = some outer
 mod : Mod K mg base
 bs : ∀ b o, base.get? b = some o -> s.heap.get? b = some o /\ H b = none
 bsz : base.objs.size <= s.heap.objs.size
 funs : s.heap.FunFrames base outer
 frf : ∀ b ∈ frs outer, H b = none
 hok : HOk P w H s.heap
 bare : AllBare s.gens
def CE (outer : List Env) (P : Program) (w : World) (H : Hp) (s : Shared) (Q : VK) (u : Value) (s' : Shared) : Prop :=
 ∃ v H', s'.os = s.os /\ AllBare s'.gens /\ Un (frs outer) [] H H' s.heap s'.heap /\ HOk P w H' s'.heap /\ zbf v u /\ Q v H'
def CR (CX : CXT) (outer : List Env) (P : Program) (w : World) (H : Hp) (s : Shared) (Q : VK) (E : XK) (r : Result) (s' : Shared) : Prop :=
 match r with
 | .ok (.ret u) => CE outer P w H s Q u s'
 | .ok _ => False
 | .error e => CX outer H s E e s'
structure zgR (P : Program) (w : World) (K : xFg) (mg : Str -> Option Value) (base : Heap) (CX : CXT) (k : Nat) (f : Addr) (fd : FuncData) (ps : List Str) (sp : Sp) : Prop where
 len : ∀ vs H Q E, sp vs H Q E -> vs.length = ps.length
 run : ∀ (A : Around) (outer : List Env) (s : Shared) (H : Hp) (args : Args) (us : List Value) (vs : List V) (Q : VK) (E : XK), zfA k A -> zvw P w K mg base A outer s H -> BindsTo s fd args (ps.zip us) -> zbg vs us -> sp vs H Q E ->
  codeAny (model P w) A (.call (.ref f) args) (CR CX outer P w H s Q E) s
theorem zgR.mono {P : Program} {w : World} {K : xFg} {mg : Str -> Option Value} {base : Heap} {CX : CXT} {j k : Nat} {f : Addr} {fd : FuncData} {ps : List Str} {sp : Sp} (F : zgR P w K mg base CX j f fd ps sp) (h : j <= k) :
  zgR P w K mg base CX k f fd ps sp := ⟨F.len, fun A outer s H args us vs Q E hr => F.run A outer s H args us vs Q E (hr.mono h)⟩
theorem zgR.imp {P : Program} {w : World} {K : xFg} {mg : Str -> Option Value} {base : Heap} {CX : CXT} {k : Nat} {f : Addr} {fd : FuncData} {ps : List Str} {sp sp' : Sp} (F : zgR P w K mg base CX k f fd ps sp)
  (h : ∀ vs H Q E, sp' vs H Q E -> sp vs H Q E) : zgR P w K mg base CX k f fd ps sp' :=
 ⟨fun vs H Q E q => F.len vs H Q E (h _ _ _ _ q), fun A outer s H args us vs Q E hr he hb hv hs => F.run A outer s H args us vs Q E hr he hb hv (h _ _ _ _ hs)⟩
section
variable {X : Cx} {pins : List (Addr × Obj)} {O : St} {H : Hp} {s s' : Shared}
theorem Inv.env0 (I : Inv X pins O H s) : zvw X.prog X.w X.K X.mg X.base X.A X.stack s H :=
 ⟨I.ok.frames, I.ok.mod, I.bs, xa6 I.ok.bsz I.sz, I.stack, I.stkFree, I.hok, I.bare⟩
theorem Inv.after {Q : VK} {u : Value} (I : Inv X pins O H s) (h : CE X.stack X.prog X.w H s Q u s') : EP X pins O Q u s' := by
 obtain ⟨v, H', os, bare, un, hok, r, q⟩ := h
 obtain ⟨hh, g, d, t, os'⟩ := s'
 obtain rfl : os' = s.os := os
 exact ⟨v, H', I.call (h' := hh) (g' := g) (d' := d) (t' := t) (ch := []) un hok bare (fun b z => absurd z (by simp)), r, q⟩
end
def zv3 (sp : Sp) (dvs : List V) (E : XK) (t : TA) : TE := fun O H Q => t O H fun vs H1 => sp (vs ++ dvs) H1 Q E
def zfX (K : xFg) (fd : FuncData) (ps : List Str) (ds : List Value) : Prop :=
 ∀ (s : Shared) (us : List Value), K.In s.heap -> (us ++ ds).length = ps.length -> BindsTo s fd ⟨us, []⟩ (ps.zip (us ++ ds))
theorem zfX.all {K : xFg} {fd : FuncData} {ps : List Str} (h : ∀ us : List Value, us.length = ps.length -> bindArgs fd ⟨us, []⟩ = pure (ps.zip us)) : zfX K fd ps [] := fun s us _ hl => by
 rw [xb7] at hl ⊢
 exact .of_eq (h us hl)
def zii (CX : CXT) (X : Cx) (E : XK) : Prop := ∀ (pins : List (Addr × Obj)) (O : St) (H : Hp) (s : Shared) (e : Value) (s' : Shared), Inv X pins O H s -> CX X.stack H s E e s' -> X.xe e s'
section
variable {X : Cx} {CX : CXT} {k : Nat} {f C : Addr} {fd : FuncData} {ps : List Str} {sp : Sp} {dvs : List V} {ds : List Value} {E : XK} {x m : Str} {p pos apos : Pos} {e o : Expr} {es : List Expr} {ta : TE} {t : TA}
theorem ztG {pins : List (Addr × Obj)} {O : St} {H : Hp} {s : Shared} {Q : VK} {us : List Value} {vs : List V} (F : zgR X.prog X.w X.K X.mg X.base CX k f fd ps sp) (hr : zfA k X.A) (hb : zfX X.K fd ps ds) (hd : zbg dvs ds) (hx : zii CX X E)
  (I : Inv X pins O H s) (r : zbg vs us) (h : sp (vs ++ dvs) H Q E) : wpAny (model X.prog X.w) X.A (call (.ref f) us) (EP X pins O Q) X.xe s := by
 have r2 : zbg (vs ++ dvs) (us ++ ds) := r.append hd
 have hl : (us ++ ds).length = ps.length := by rw [<- r2.length]; exact F.len _ _ _ _ h
 refine wpAny_call (codeAny_mono (F.run X.A X.stack s H ⟨us, []⟩ (us ++ ds) (vs ++ dvs) Q E hr I.env0 (hb s us I.kIn hl) r2 h) fun r s' hq => ?_)
 cases r with
 | error e => exact hx pins O H s e s' I hq
 | ok fl =>
  cases fl with
  | ret u => exact I.after hq
  | next => exact False.elim hq
  | brk => exact False.elim hq
  | cont => exact False.elim hq
theorem zmr (F : zgR X.prog X.w X.K X.mg X.base CX k f fd ps sp) (hr : zfA k X.A) (hg : Gl X x) (hm : X.mg x = some (.ref f)) (hk : PySem.W.keepIn X.K (.ref f) = true) (hb : zfX X.K fd ps ds) (hd : zbg dvs ds) (hx : zii CX X E)
  (ha : PA X (e :: es) t) (hdb : (x == ("__debug__" : Str)) = false := by decide) (he : starEach (e :: es) X.env = (false, eval e X.env) :: starEach es X.env := by rfl) (hpl : (backTo pos (starEach es X.env)).any (·.1) = false := by rfl) :
  PE X (.Call (.Name x p) (e :: es) [] pos) (zv3 sp dvs E t) := by
 intro pins s O H Q I h
 refine wpAny_Call_Name_kw (zfV I hg hm ?_ hdb)
 refine PySem.W.callWith_K (h₀ := X.base) I.ok.mod.kin hk (thn (ha pos pins s O H _ I h) fun us s1 ⟨vs, H1, I1, r, q⟩ => ⟨I1.kIn, ?_⟩) he hpl
 exact ztG F hr hb hd hx I1 r q
end
structure zdg (N P : List Str) (sc : Scope) : Prop where
 kind : sc.kind = .function
 co : sc.isCoroutine = false
 gen : sc.isGenerator = false
 nd : N.Nodup
 pre : N.take P.length = P
 par : ∀ x ∈ P, sc.names.lookup x = some .local \/ sc.names.lookup x = some .cell
 nofree : ∀ y ∈ sc.names, y.2 ≠ .free
theorem zij {kindOf : Str -> Option NameKind} {x : Str} : ∀ {binds : List (Str × Value)} {m : Str -> Option Value}, (∀ v, (x, v) ∉ binds) -> bindL kindOf binds m x = m x
 | [], _, _ => rfl
 | (n, v) :: r, m, h => by
  unfold bindL
  rw [zij fun w hw => h w (xae _ hw)]
  split
  ·have : x ≠ n := by rintro rfl; exact h v xan
   simp [this]
  ·rfl
theorem zik {kindOf : Str -> Option NameKind} {x : Str} : ∀ {binds : List (Str × Value)} {m : Str -> Option Value}, (∀ v, (x, v) ∉ binds) -> bindC kindOf binds m x = m x
 | [], _, _ => rfl
 | (n, v) :: r, m, h => by
  unfold bindC
  rw [zik fun w hw => h w (xae _ hw)]
  split
  ·rfl
  ·have : x ≠ n := by rintro rfl; exact h v xan
   simp [this]
theorem zil {kindOf : Str -> Option NameKind} {x : Str} {v : Value} : ∀ {P : List Str} {vs : List Value} {i : Nat} {m : Str -> Option Value}, P.Nodup -> P[i]? = some x -> vs[i]? = some v -> kindOf x = some .local ->
  bindL kindOf (P.zip vs) m x = some v
 | [], _, _, _, _, h, _, _ => by simp at h
 | _ :: _, [], _, _, _, _, h, _ => by simp at h
 | p :: P, w :: vs, 0, m, nd, h1, h2, hk => by
  simp at h1 h2; subst h1; subst h2
  show bindL kindOf ((p, w) :: P.zip vs) m p = _
  unfold bindL
  rw [zij fun v hv => (xcj.mp nd).1 (xc5 hv).1, if_pos hk]
  simp
 | p :: P, w :: vs, i + 1, m, nd, h1, h2, hk => by
  show bindL kindOf ((p, w) :: P.zip vs) m x = _
  unfold bindL
  exact zil (i := i) (xcj.mp nd).2 (by simpa using h1) (by simpa using h2) hk
theorem zim {kindOf : Str -> Option NameKind} {x : Str} {v : Value} : ∀ {P : List Str} {vs : List Value} {i : Nat} {m : Str -> Option Value}, P.Nodup -> P[i]? = some x -> vs[i]? = some v -> kindOf x ≠ some .local ->
  bindC kindOf (P.zip vs) m x = some v
 | [], _, _, _, _, h, _, _ => by simp at h
 | _ :: _, [], _, _, _, _, h, _ => by simp at h
 | p :: P, w :: vs, 0, m, nd, h1, h2, hk => by
  simp at h1 h2; subst h1; subst h2
  show bindC kindOf ((p, w) :: P.zip vs) m p = _
  unfold bindC
  rw [zik fun v hv => (xcj.mp nd).1 (xc5 hv).1, if_neg hk]
  simp
 | p :: P, w :: vs, i + 1, m, nd, h1, h2, hk => by
  show bindC kindOf ((p, w) :: P.zip vs) m x = _
  unfold bindC
  exact zim (i := i) (xcj.mp nd).2 (by simpa using h1) (by simpa using h2) hk
def start (N : List Str) (vs : List V) : St := vs.map some ++ List.replicate (N.length - vs.length) none
def zgQ (CX : CXT) (P : Program) (w : World) (K : xFg) (mg : Str -> Option Value) (base : Heap) (N : List Str) (qual : Str) (scope : Scope) (f : Addr) (cd : Value) (A : Around) (outer : List Env) (s : Shared) (H : Hp) (E : XK) : Cx where
 prog := P
 w := w
 K := K
 mg := mg
 base := base
 A := A.deeper (envOfC qual scope s.heap.objs.size f cd)
 N := N
 s₀ := s
 H₀ := H
 env := envOfC qual scope s.heap.objs.size f cd
 outer := outer
 stack := envOfC qual scope s.heap.objs.size f cd :: outer
 ex := []
 calm := true
 fn := fun _ => true
 pn := []
 xe := fun e s' => wpAny (model P w) (A.deeper (envOfC qual scope s.heap.objs.size f cd)) (leaving (envOfC qual scope s.heap.objs.size f cd) e) (fun _ s'' => CX outer H s E e s'') (fun e' s'' => CX outer H s E e' s'') s'
theorem zkf {sc : Scope} {n : Nat} {x : Str} (h : sc.names.lookup x = some .cell) : ∃ c, (cellsFrom n sc.names []).lookup x = some c := by
 have q := PySem.W.cellsFrom_some sc.names n [] (.inl h)
 exact xbb.mp q
theorem zms {CX : CXT} {P : Program} {w : World} {K : xFg} {mg : Str -> Option Value} {base : Heap} {N ps : List Str} {qual : Str} {scope : Scope} {f : Addr} {cd : Value} {A : Around} {outer : List Env} {s s1 : Shared} {H : Hp} {E : XK} {us : List Value} {vs : List V}
  (S : zdg N ps scope) (hd : A.handled = none) (e0 : zvw P w K mg base A outer s H) (hl : vs.length = ps.length) (r : zbg vs us)
  (x : InCallC s s.heap.objs.size (bindL (envOfC qual scope s.heap.objs.size f cd).kindOf (ps.zip us) fun _ => none) (cellsFrom (s.heap.objs.size + 1) scope.names []) (bindC (envOfC qual scope s.heap.objs.size f cd).kindOf (ps.zip us) fun _ => none) s1) :
  Inv (zgQ CX P w K mg base N qual scope f cd A outer s H E) [] (start N vs) H s1 := by
 have hpl : ps.length <= N.length := by have := congrArg List.length S.pre; rw [xa8] at this; omega
 obtain ⟨h1, tk, rfl, hk⟩ := x.done
 have noA : ∀ b : Addr, b ∉ (zgQ CX P w K mg base N qual scope f cd A outer s H E).ex := fun b z => absurd (show b ∈ ([] : List Addr) from z) (by simp)
 refine ⟨⟨e0.mod, S.kind, rfl, rfl, xad _, fun y z c h1 h2 => ?_, fun y hy => ?_, fun y c _ h => ?_, fun _ => hd, Around.frames_deeper e0.frames, .inr ⟨rfl, rfl⟩, fun b z => absurd z (noA b), e0.bs, e0.bsz, fun b _ _ => noA b, fun b z => absurd z (noA b), e0.funs, e0.frf⟩,
  rfl, e0.bare, Un.kept hk, ⟨_, x.toInCall.ns, fun i y v h1 h2 h3 => ?_⟩, fun y c h => ⟨_, x.cell y c h⟩, e0.hok.fresh (xad _), fun y c h => ?_, fun p hp => absurd (show p ∈ ([] : List (Addr × Obj)) from hp) (by simp), e0.hok.kept hk, ?_⟩
 ·exact name_of_addr x.apart (PySem.mem_of_lookup h1) (PySem.mem_of_lookup h2)
 ·have hy : scope.names.lookup y = some .cell \/ scope.names.lookup y = some .free := hy
  rcases hy with hy | hy
  ·exact zkf hy
  ·exact absurd rfl (S.nofree _ (PySem.mem_of_lookup hy))
 ·exact xco (x.above y c (PySem.mem_of_lookup h))
 ·have hi : i < vs.length := by
   unfold start at h2
   by_cases hi : i < vs.length
   ·exact hi
   ·rw [xcd (by simpa using hi)] at h2
    rw [xcr] at h2
    split at h2 <;> cases h2
  have ha : vs[i]? = some v := by
   unfold start at h2
   rw [xb3 (by simpa using hi), xbv] at h2
   cases e : vs[i]? with
   | none => rw [e] at h2; cases h2
   | some a => rw [e] at h2; cases h2; rfl
  obtain ⟨u, hu, rv⟩ := r.get ha
  have hp : ps[i]? = some y := by
   rw [<- S.pre, List.getElem?_take_of_lt (by omega)]; exact h1
  have ndP : ps.Nodup := by rw [<- S.pre]; exact S.nd.sublist (List.take_sublist _ _)
  refine ⟨u, rv, ?_⟩
  rcases S.par y (xbe hp) with k | k
  ·exact .inl ⟨k, zil ndP hp hu k⟩
  ·obtain ⟨c, e⟩ := zkf (n := s.heap.objs.size + 1) k
   refine .inr ⟨.inl k, c, e, ?_⟩
   have q := x.cell y c e
   rw [zim ndP hp hu (by show scope.names.lookup y ≠ _; rw [k]; decide)] at q
   exact q
 ·exact e0.hok.fresh (xco (x.above y c (PySem.mem_of_lookup h)))
 ·unfold start
  show _ = N.length
  rw [xby, xag, xc2]
  omega
theorem zv4 {CX : CXT} {P : Program} {w : World} {K : xFg} {mg : Str -> Option Value} {base : Heap} {k : Nat} {f : Addr} {name qual : Str} {params : Arguments} {body : List Stmt} {scope : Scope} {dV kV doc pm cdv ct oc : Value} {an od : Option Addr}
  {osl : Array (Option Value)} {N ps : List Str} {sp : Sp} (lk : K.lookup f = some ⟨oc, od, .func (PySem.W.fnOf name qual params body scope dV kV doc pm an cdv ct), osl⟩) (hcd : PySem.W.codeIn K cdv qual = true) (S : zdg N ps scope)
  (len : ∀ vs H Q E, sp vs H Q E -> vs.length = ps.length)
  (hbody : ∀ (A : Around) (outer : List Env) (s : Shared) (H : Hp) (vs : List V) (Q : VK) (E : XK), zfA k (A.deeper (envOfC qual scope s.heap.objs.size f cdv)) -> sp vs H Q E ->
   ∃ t, PSs (zgQ CX P w K mg base N qual scope f cdv A outer s H E) body t /\ t { nx := fun _ H' => Q .non H', rt := Q } (start N vs) H) :
  zgR P w K mg base CX (k + 1) f (PySem.W.fnOf name qual params body scope dV kV doc pm an cdv ct) ps sp := by
 refine ⟨len, fun A outer s H args us vs Q E hr e0 hb r hsp => ?_⟩
 have hl := len _ _ _ _ hsp
 have KX : K.In s.heap := e0.mod.kin.keeps fun b o e => (e0.bs b o e).1
 have lim : s.heap.NoLimit := e0.mod.nolimit.keeps fun b o e => (e0.bs b o e).1
 have hkind : ∀ y ∈ ps.zip us, scope.names.lookup y.1 = some .local \/ (scope.names.lookup y.1 = some .cell /\ ((cellsFrom (s.heap.objs.size + 1) scope.names []).lookup y.1).isSome = true) := fun ⟨n, v⟩ hy => by
  rcases S.par n (xc5 hy).1 with q | q
  ·exact .inl q
  ·exact .inr ⟨q, PySem.W.cellsFrom_some _ _ _ (.inl q)⟩
 refine codeAny_call_function hr.depth (KX _ _ lk) rfl S.co S.gen rfl (PySem.W.codeRec_of KX hcd) (hb _ _ _ _ ?_)
 refine wpAny_newFunctionEnv_cells S.kind hkind fun env he s1 x => ?_
 subst he
 refine ⟨lim.keeps x.toInCall.keep, codeAny_func ?_⟩
 obtain ⟨t, ht, hq⟩ := hbody A outer s H vs Q E (hr.deeper _) hsp
 have I : Inv (zgQ CX P w K mg base N qual scope f cdv A outer s H E) [] (start N vs) H s1 := zms S hr.hd e0 hl r x
 refine wpAny_mono (ht [] s1 (start N vs) H _ I hq) (fun fl s' hs => ?_) fun e s' hs => hs
 have fin : ∀ {O' : St} {H' : Hp} {v : V} {u : Value}, Inv (zgQ CX P w K mg base N qual scope f cdv A outer s H E) [] O' H' s' -> zbf v u -> Q v H' -> CE outer P w H s Q u s' :=
  fun {O' H' v u} J rv q => ⟨v, H', J.os, J.bare, J.base, J.hok, rv, q⟩
 cases fl with
 | ret u =>
  obtain ⟨v, O', H', J, rv, q⟩ := hs
  exact fin J rv q
 | next =>
  obtain ⟨O', H', J, q⟩ := hs
  exact fin (v := V.non) (u := Value.none) J rfl q
 | brk =>
  obtain ⟨_, _, _, q⟩ := hs
  exact False.elim q
 | cont =>
  obtain ⟨_, _, _, q⟩ := hs
  exact False.elim q
end L2
namespace L2
open PySem.Spec PyProof.Rows
section
variable {X : Cx} {x : Str} {p pos : Pos} {e : Expr} {es : List Expr} {t : TA} {id T : String} {r : List V -> Hp -> VK -> Prop}
def tCB (r : List V -> Hp -> VK -> Prop) (t : TA) : TE := fun O H Q => t O H fun vs H1 => r vs H1 Q
theorem zkg (hc : zc0 X (.builtin id) r) (hg : Gl X x) (hm : X.mg x = none) (hv : bootBuiltins x = some (.builtin id)) (ha : PA X (e :: es) t) (hn : x ≠ "__name__" := by decide) (hdb : (x == ("__debug__" : Str)) = false := by decide)
  (he : starEach (e :: es) X.env = (false, eval e X.env) :: starEach es X.env := by rfl) (hpl : (backTo pos (starEach es X.env)).any (·.1) = false := by rfl) : PE X (.Call (.Name x p) (e :: es) [] pos) (tCB r t) := by
 intro pins s O H Q I h
 refine wpAny_Call_Name_kw (zfW I hg hm hv ?_ hn hdb)
 exact PyProof.Rows.callWith_builtin1 (thn (ha pos pins s O H _ I h) fun us s1 ⟨vs, H1, I1, r1, q1⟩ => hc pins s1 O H1 vs us Q I1 r1 q1) he hpl
theorem zfY (hc : zc0 X (.type T) r) (hg : Gl X x) (hm : X.mg x = none) (hv : bootBuiltins x = some (.type T)) (ha : PA X (e :: es) t) (hn : x ≠ "__name__" := by decide) (hdb : (x == ("__debug__" : Str)) = false := by decide)
  (he : starEach (e :: es) X.env = (false, eval e X.env) :: starEach es X.env := by rfl) (hpl : (backTo pos (starEach es X.env)).any (·.1) = false := by rfl) : PE X (.Call (.Name x p) (e :: es) [] pos) (tCB r t) := by
 intro pins s O H Q I h
 refine wpAny_Call_Name_kw (zfW I hg hm hv ?_ hn hdb)
 exact PyProof.Rows.callWith_type1 (thn (ha pos pins s O H _ I h) fun us s1 ⟨vs, H1, I1, r1, q1⟩ => hc pins s1 O H1 vs us Q I1 r1 q1) he hpl
end
end L2
namespace HT
open PyProof.Rows
section
variable {prog : Program} {w : World} {A : Around} {E : Value -> Shared -> Prop} {s : Shared}
theorem cat_tup {t b : Addr} {vs ws : List Value} {Q : Value -> Shared -> Prop} (ht : IsTup s.heap t vs.toArray) (hb : IsTup s.heap b ws.toArray) (hv : vs ≠ [])
  (h1 : ws = [] -> Q (.ref t) s) (h2 : ws ≠ [] -> Q (.ref s.heap.objs.size) { s with heap := s.heap.push { cls := .type "tuple", data := .seq (vs ++ ws).toArray } })
  (hsz : vs.length + ws.length <= sizeLine) : wpAny (model prog w) A (binaryOp .Add (.ref t) (.ref b)) Q E s := by
 obtain ⟨⟨cls, dd, data, sl⟩, ho, hc, n, hd⟩ := id ht
 obtain ⟨⟨cls2, dd2, data2, sl2⟩, ho2, hc2, n2, hd2⟩ := id hb
 simp only at hc hd hc2 hd2
 subst hc hd hc2 hd2
 have e : vs.toArray ++ ws.toArray = (vs ++ ws).toArray := by simp
 by_cases hw : ws = []
 ·exact concat_meets ⟨_, ho, rfl⟩ ⟨_, ho2, rfl⟩ noFill_tuple_add seq_tuple_add PySem.F.slot_tuple_add PySem.F.entry_tuple_add (PySem.F.args_tuple_add_2 _ _)
   (tuple_addW1 t b vs.toArray ws.toArray n n2 dd dd2 sl sl2 (by simpa using hv) (by simp [hw])) ⟨ho, ho2, h1 hw⟩
 ·refine concat_meets ⟨_, ho, rfl⟩ ⟨_, ho2, rfl⟩ noFill_tuple_add seq_tuple_add PySem.F.slot_tuple_add PySem.F.entry_tuple_add (PySem.F.args_tuple_add_2 _ _)
   (tuple_addW2 t b vs.toArray ws.toArray n n2 dd dd2 sl sl2 (by simpa using hv) (by simpa using hw) (by rw [xah, xah]; exact hsz)) ⟨ho, ho2, ?_⟩
  rw [e]
  exact h2 hw
def sIx (n d : Nat) : Option Int -> Nat
 | none => d
 | some v => if v < 0 then (v + (n : Int)).toNat else min v.toNat n
theorem sIx_none (n d : Nat) : sIx n d none = d := rfl
theorem sIx_nat (n d k : Nat) : sIx n d (some (k : Int)) = min k n := by
 show (if (k : Int) < 0 then ((k : Int) + (n : Int)).toNat else min (k : Int).toNat n) = min k n
 rw [if_neg (by omega), Int.toNat_natCast]
theorem ztH (n d : Nat) (hd : d <= n) (o : Option Int) : sIx n d o <= n := by
 cases o with
 | none => exact hd
 | some v =>
  show (if v < 0 then (v + (n : Int)).toNat else min v.toNat n) <= n
  by_cases hv : v < 0
  ·rw [if_pos hv]; omega
  ·rw [if_neg hv]; exact Nat.min_le_right _ _
theorem zmt (v : Int) (n d : Nat) : (if v < 0 then max (v + (n : Int)) 0 else min v (n : Int)) = ((sIx n d (some v) : Nat) : Int) := by
 show (if v < 0 then max (v + (n : Int)) 0 else min v (n : Int)) = (((if v < 0 then (v + (n : Int)).toNat else min v.toNat n) : Nat) : Int)
 by_cases hv : v < 0
 ·simp only [if_pos hv]; omega
 ·simp only [if_neg hv]; omega
theorem zlF (lo hi : Option Int) (n : Nat) : Builtin.Slice.sliceAdjust lo hi 1 (n : Int) = (((sIx n 0 lo : Nat) : Int), ((sIx n n hi : Nat) : Int)) := by
 have h1 : ¬ ((1 : Int) < 0) := by omega
 unfold Builtin.Slice.sliceAdjust
 simp only [h1, if_false]
 refine xap ?_ ?_
 ·cases lo with
  | none => rfl
  | some v => exact zmt v n 0
 ·cases hi with
  | none => rfl
  | some v => exact zmt v n n
theorem zlG (i j : Nat) : Builtin.Slice.slicePlaces (i : Int) (j : Int) 1 = j - i := by
 unfold Builtin.Slice.slicePlaces
 have h1 : (1 : Int) > 0 := by omega
 simp only [h1, if_true, Int.ediv_one]
 split <;> omega
theorem zg7 {v : Value} {o : Option Int} {Q : Option Int -> Shared -> Prop} (p : IsPart v o) (h : Q o s) : wpAny (model prog w) A (Builtin.Slice.slicePartIndex v) Q E s := by
 cases p with
 | none => exact slicePart_none h
 | int i t => exact slicePart_int h
theorem zfB {sl : Addr} {vl vu : Value} {lo hi : Option Int} {n : Nat} {Q : Int × Int × Nat -> Shared -> Prop} (hs : s.heap.IsSliceOf sl vl vu .none) (pl : IsPart vl lo) (pu : IsPart vu hi)
  (h : Q (((sIx n 0 lo : Nat) : Int), 1, sIx n n hi - sIx n 0 lo) s) : wpAny (model prog w) A (Builtin.Slice.sliceApplied (.ref sl) (pure (n : Int))) Q E s := by
 obtain ⟨os, hos, hcs, hds⟩ := id hs
 unfold Builtin.Slice.sliceApplied Builtin.Slice.sliceFields
 refine wpAny_bind (wpAny_bind (wpAny_field hos hds (x := vl) rfl (wpAny_bind (wpAny_field hos hds (x := vu) rfl (wpAny_bind (wpAny_field hos hds (x := .none) rfl (wpAny_pure ?_)))))))
 refine wpAny_bind (slicePart_none ?_)
 show wpAny _ _ (if ((1 : Int) == 0) = true then _ else _) _ _ s
 rw [if_neg (by decide)]
 refine wpAny_bind (zg7 pl (wpAny_bind (zg7 pu (wpAny_bind (wpAny_pure ?_)))))
 show wpAny _ _ (match Builtin.Slice.sliceAdjust lo hi 1 (n : Int) with | (lo, hi) => pure (lo, (1 : Int), Builtin.Slice.slicePlaces lo hi 1)) _ _ s
 rw [zlF lo hi n]
 show wpAny _ _ (pure (((sIx n 0 lo : Nat) : Int), (1 : Int), Builtin.Slice.slicePlaces ((sIx n 0 lo : Nat) : Int) ((sIx n n hi : Nat) : Int) 1)) _ _ s
 rw [zlG]
 exact wpAny_pure h
theorem zoZ (xs : Array Value) (i k : Nat) : ((List.range k).filterMap fun (m : Nat) => xs[((i : Int) + (m : Int) * 1).toNat]?).toArray = ((xs.toList.drop i).take k).toArray := by
 have e : (fun (m : Nat) => xs[((i : Int) + (m : Int) * 1).toNat]?) = fun m => xs[i + m]? := by
  funext m
  have : ((i : Int) + (m : Int) * 1).toNat = i + m := by omega
  rw [this]
 rw [e]
 have := pick_run xs i k
 rw [List.filterMap_map] at this
 have e2 : ((fun x => xs[x]?) ∘ fun x => i + x) = fun m => xs[i + m]? := rfl
 rw [e2] at this
 rw [this]
theorem getItem_tuple_cut {t sl : Addr} {items : Array Value} {vl vu : Value} {lo hi : Option Int} {Q : Value -> Shared -> Prop} (ht : IsTup s.heap t items) (hs : s.heap.IsSliceOf sl vl vu .none) (pl : IsPart vl lo) (pu : IsPart vu hi)
  (hw : ¬ (sIx items.size 0 lo = 0 /\ sIx items.size items.size hi = items.size))
  (h : Q (.ref s.heap.objs.size) { s with heap := s.heap.push { cls := .type "tuple", data := .seq ((items.toList.drop (sIx items.size 0 lo)).take (sIx items.size items.size hi - sIx items.size 0 lo)).toArray } })
  (hsz : items.size <= sizeLine) : wpAny (model prog w) A (getItem (.ref t) (.ref sl)) Q E s := by
 have htake : sizeOk (.seq ((items.toList.drop (sIx items.size 0 lo)).take (sIx items.size items.size hi - sIx items.size 0 lo)).toArray) := by
  show ((items.toList.drop (sIx items.size 0 lo)).take (sIx items.size items.size hi - sIx items.size 0 lo)).toArray.size <= sizeLine
  rw [xah, xa8, xbw, xat]
  omega
 have hj : sIx items.size items.size hi <= items.size := ztH _ _ (xad _) hi
 obtain ⟨os, hos, hcs, hds⟩ := id hs
 have hTs : s.TypeIs (.ref sl) "slice" := ⟨os, hos, hcs⟩
 unfold getItem
 try with_reducible refine wpAny_holding ?_
 first | refine wpAny_bind (wpAny_pure ?_) | skip
 refine wpAny_bind (wpAny_sequenceKey ht.typeIs (by decide) ?_)
 refine wpAny_bind (wpAny_callSpecial?_slot (name := Str.ofString "__getitem__") ht.typeIs PyProof.Rows.slot_tuple_getitem
  (wpAny_call_entry PyProof.Rows.slot_tuple_getitem ht.typeIs entry_tuple_getitem ?_ (args_tuple_getitem _ _)))
 show wpAny _ _ (Builtin.Tuple.tupleItemsOf (.ref t) >>= _) _ _ s
 refine wpAny_bind (tupleItemsOf_ ht ?_)
 refine wpAny_bind (wpAny_typeOf hTs ?_)
 rw [if_pos (by decide)]
 refine wpAny_bind (zfB hs pl pu ?_)
 have hno : ¬ ((((sIx items.size 0 lo : Nat) : Int) == 0 && (1 : Int) == 1 && (sIx items.size items.size hi - sIx items.size 0 lo) == items.size) = true) := by
  intro q
  rw [xay, xay] at q
  have q1 : ((sIx items.size 0 lo : Nat) : Int) = 0 := eq_of_beq q.1.1
  have q2 : sIx items.size items.size hi - sIx items.size 0 lo = items.size := eq_of_beq q.2
  exact hw ⟨by omega, by omega⟩
 show wpAny _ _ (if (((sIx items.size 0 lo : Nat) : Int) == 0 && (1 : Int) == 1 && (sIx items.size items.size hi - sIx items.size 0 lo) == items.size) = true then _ else _) _ _ s
 rw [if_neg hno, zoZ]
 first
  | exact wpAny_bind (m := Builtin.Tuple.tupleExact _) (wpAny_newObj_type (wpAny_pure ⟨_, rfl, wpAny_pure h⟩) htake)
  | exact wpAny_bind (m := Builtin.Tuple.tupleExact _) (wpAny_newObj_type (wpAny_bind (wpAny_pure (wpAny_pure ⟨_, rfl, wpAny_pure h⟩))) htake)
  | exact wpAny_bind (wpAny_bind (m := Builtin.Tuple.tupleExact _) (wpAny_newObj_type (wpAny_pure (wpAny_pure ⟨_, rfl, wpAny_pure h⟩)) htake))
  | exact wpAny_bind (wpAny_bind (m := Builtin.Tuple.tupleExact _) (wpAny_newObj_type (wpAny_pure ⟨_, rfl, wpAny_pure h⟩) htake))
end
end HT
namespace L2
open PySem.Spec PyProof.Rows
abbrev TO := St -> Hp -> (Option Int -> Hp -> Prop) -> Prop
def PO (X : Cx) (e : Option Expr) (t : TO) : Prop :=
 ∀ (pins : List (Addr × Obj)) (s : Shared) (O : St) (H : Hp) (Q : Option Int -> Hp -> Prop), Inv X pins O H s -> t O H Q ->
  wpAny (model X.prog X.w) X.A (evalPart e X.env) (fun u s' => ∃ o H', Inv X pins O H' s' /\ IsPart u o /\ Q o H') X.xe s
def zrH : TO := fun _ H Q => Q none H
def zv5 (t : TE) : TO := fun O H Q => t O H fun x H1 => ∃ i, x = .int i /\ Q (some i) H1
theorem zlH {ns : List Int} : ∀ {us : List Value}, zbg (ns.map V.int) us -> IntsAre us ns := by
 induction ns with
 | nil => intro us r; rw [xc6] at r; cases r; exact .nil
 | cons n ns ih =>
  intro us r
  rw [xa7] at r
  cases r with
  | cons r1 r2 =>
   obtain ⟨t, e⟩ := r1
   subst e
   exact .cons n t (ih r2)
section
variable {X : Cx} {e : Expr} {te : TE} {lo hi : Option Expr} {tl th : TO} {pos p2 : Pos}
theorem zrI : PO X none zrH := by
 intro pins s O H Q I h
 rw [evalPart_none]
 exact wpAny_pure ⟨none, H, I, .none, h⟩
theorem zrJ (h : PE X e te) : PO X (some e) (zv5 te) := by
 intro pins s O H Q I hw
 rw [evalPart_some]
 refine thn (h pins s O H _ I hw) fun u s1 ⟨x, H1, I1, r1, q1⟩ => ?_
 obtain ⟨i, rfl, q⟩ := q1
 obtain ⟨t, rfl⟩ := r1
 exact ⟨some i, H1, I1, .int i t, q⟩
def SlR (X : Cx) (r : V -> Option Int -> Option Int -> Hp -> VK -> Prop) : Prop :=
 ∀ (pins : List (Addr × Obj)) (s : Shared) (O : St) (H : Hp) (x : V) (v vl vu : Value) (lo hi : Option Int) (sl : Addr) (Q : VK), Inv X pins O H s -> zbf x v -> s.heap.IsSliceOf sl vl vu .none -> IsPart vl lo -> IsPart vu hi -> r x lo hi H Q ->
  ∃ T id, typeLookup (.type T) "__getitem__" = pure (some (.builtin id)) /\ s.TypeIs v T /\ wpAny (model X.prog X.w) X.A (getItem v (.ref sl)) (EP X pins O Q) X.xe s
theorem SlR.or {r r' : V -> Option Int -> Option Int -> Hp -> VK -> Prop} (h : SlR X r) (h' : SlR X r') : SlR X (fun x lo hi H Q => r x lo hi H Q \/ r' x lo hi H Q) := by
 intro pins s O H x v vl vu lo hi sl Q I rx hs pl pu q
 rcases q with q | q
 ·exact h pins s O H x v vl vu lo hi sl Q I rx hs pl pu q
 ·exact h' pins s O H x v vl vu lo hi sl Q I rx hs pl pu q
def tSl (r : V -> Option Int -> Option Int -> Hp -> VK -> Prop) (te : TE) (tl th : TO) : TE := fun O H Q => te O H fun x H1 => tl O H1 fun l H2 => th O H2 fun u H3 => r x l u H3 Q
theorem zo0 {r : V -> Option Int -> Option Int -> Hp -> VK -> Prop} (hr : SlR X r) (he : PE X e te) (hl : PO X lo tl) (hu : PO X hi th) : PE X (.Subscript e (.Slice lo hi none p2) pos) (tSl r te tl th) := by
 intro pins s O H Q I h
 refine Subscript_ (thn (he pins s O H _ I h) fun v s1 ⟨x, H1, I1, r1, q1⟩ => ?_)
 refine wpAny_Slice (thn (hl pins s1 O H1 _ I1 q1) fun vl s2 ⟨l, H2, I2, pl, q2⟩ => thn (hu pins s2 O H2 _ I2 q2) fun vu s3 ⟨u, H3, I3, pu, q3⟩ => ?_)
 rw [evalPart_none]
 refine wpAny_pure ?_
 have I4 : Inv X pins O H3 { s3 with heap := s3.heap.push { cls := .type "slice", data := .fields #[vl, vu, .none] } } := I3.kept (t' := s3.toks) fun b ob q => xaa _ q
 obtain ⟨T, id, hT, ht, hg⟩ := hr pins { s3 with heap := s3.heap.push { cls := .type "slice", data := .fields #[vl, vu, .none] } } O H3 x v vl vu l u s3.heap.objs.size Q I4 r1 (Heap.IsSliceOf.new ..) pl pu q3
 show wpAny (model X.prog X.w) X.A (subscriptTail e (.Slice lo hi none p2) v (.ref s3.heap.objs.size)) (EP X pins O Q) X.xe { s3 with heap := s3.heap.push { cls := .type "slice", data := .fields #[vl, vu, .none] } }
 exact tail_any (ops := [.ref s3.heap.objs.size, v]) ht hT hg (by with_unfolding_all rfl)
def zoL (xs : List V) (lo hi : Option Int) : List V := (xs.drop (HT.sIx xs.length 0 lo)).take (HT.sIx xs.length xs.length hi - HT.sIx xs.length 0 lo)
theorem zfZ (xs : List V) (lo hi : Option Int) : (zoL xs lo hi).length <= xs.length := by
 unfold zoL
 rw [xa8, xbw]
 omega
def rSlT (K : xFg) : V -> Option Int -> Option Int -> Hp -> VK -> Prop := fun x lo hi H Q => ∃ a xs, x = .ref a /\ SqT K H a xs /\
 ¬ (HT.sIx xs.length 0 lo = 0 /\ HT.sIx xs.length xs.length hi = xs.length) /\ ∀ p, H p = none -> Q (.ref p) (upd H p (.tup (zoL xs lo hi)))
theorem ztI : SlR X (rSlT X.K) := by
 intro pins s O H x v vl vu lo hi sl Q I rx hs pl pu h
 obtain ⟨a, xs, rfl, hx, hw, q⟩ := h
 cases rx
 obtain ⟨its, r, ht, hz⟩ := I.tuple hx
 have hlen : its.toArray.size = xs.length := by rw [xah]; exact r.length.symm
 refine ⟨"tuple", _, PyProof.Rows.slot_tuple_getitem.lookup, ht.typeIs, ?_⟩
 refine HT.getItem_tuple_cut ht hs pl pu (by rw [hlen]; exact hw) ?_ (by rw [hlen]; exact hz)
 rw [hlen]
 refine ⟨.ref s.heap.objs.size, _, I.laid (t' := s.toks) (o := .tup (zoL xs lo hi)) (fun b ob q => xaa _ q) (xad _) ?_, rfl, q _ (I.hok.fresh (xad _))⟩
 exact ⟨xa6 (zfZ xs lo hi) hz, _, (r.drop (HT.sIx xs.length 0 lo)).take (HT.sIx xs.length xs.length hi - HT.sIx xs.length 0 lo), IsTup.new _ _⟩
def ztJ (K : xFg) : R2 := fun x y H Q => ∃ a b xs ys, x = .ref a /\ y = .ref b /\ SqT K H a xs /\ SqT K H b ys /\ xs ≠ [] /\ xs.length + ys.length <= sizeLine /\
 (ys = [] -> Q (.ref a) H) /\ (ys ≠ [] -> ∀ p, H p = none -> Q (.ref p) (upd H p (.tup (xs ++ ys))))
theorem zbg.nil_iff {xs : List V} {us : List Value} (r : zbg xs us) : us = [] ↔ xs = [] := by
 cases r with
 | nil => simp
 | cons _ _ => simp
theorem zrK : OpR X (binaryOp .Add) (ztJ X.K) := by
 intro pins s O H x y v u Q I rx ry h
 obtain ⟨a, b, xs, ys, rfl, rfl, ha, hb, hx, hz, q1, q2⟩ := h
 cases rx
 cases ry
 obtain ⟨its, r1, p1, _⟩ := I.tuple ha
 obtain ⟨its2, r2, p2, _⟩ := I.tuple hb
 refine HT.cat_tup p1 p2 (fun z => hx (r1.nil_iff.mp z)) (fun z => ⟨.ref a, H, I, rfl, q1 (r2.nil_iff.mp z)⟩) (fun z => ?_) (by rw [<- r1.length, <- r2.length]; exact hz)
 refine ⟨.ref s.heap.objs.size, _, I.laid (t' := s.toks) (o := .tup (xs ++ ys)) (fun b ob q => xaa _ q) (xad _) ?_, rfl, q2 (fun w => z (r2.nil_iff.mpr w)) _ (I.hok.fresh (xad _))⟩
 exact ⟨by rw [xby]; exact hz, _, r1.append r2, IsTup.new _ _⟩
end
end L2
namespace L2
open PySem.Spec PyProof.Rows
def ixN (n : Nat) (i : Int) : Option Nat := if 0 <= i then (if i < n then some i.toNat else none) else if -(n : Int) <= i then some (i + n).toNat else none
def atI {α : Type} (xs : List α) (i : Int) : Option α := (ixN xs.length i).bind fun j => xs[j]?
theorem zmu {n : Nat} {i : Int} {j : Nat} (h : ixN n i = some j) : seqIndex? i n = some j /\ j < n /\ -(n : Int) <= i /\ i < n := by
 unfold ixN at h
 by_cases h0 : 0 <= i
 ·rw [if_pos h0] at h
  by_cases h1 : i < n
  ·rw [if_pos h1] at h
   have e : i.toNat = j := Option.some.inj h
   exact ⟨by rw [seqIndex_of h0 h1, e], by omega, by omega, h1⟩
  ·rw [if_neg h1] at h; cases h
 ·rw [if_neg h0] at h
  by_cases h1 : -(n : Int) <= i
  ·rw [if_pos h1] at h
   have e : (i + n).toNat = j := Option.some.inj h
   exact ⟨by rw [seqIndex_neg (by omega) h1, e], by omega, h1, by omega⟩
  ·rw [if_neg h1] at h; cases h
theorem zmv {α : Type} {xs : List α} {i : Int} {v : α} (h : atI xs i = some v) : ∃ j, seqIndex? i xs.length = some j /\ xs[j]? = some v /\ j < xs.length /\ -(xs.length : Int) <= i /\ i < xs.length := by
 unfold atI at h
 cases e : ixN xs.length i with
 | none => rw [e] at h; cases h
 | some j =>
  rw [e] at h
  obtain ⟨h1, h2, h3, h4⟩ := zmu e
  exact ⟨j, h1, h, h2, h3, h4⟩
theorem zrL {α : Type} {xs : List α} {j : Nat} {v : α} (h : xs[j]? = some v) : atI xs (j : Int) = some v := by
 have hj : j < xs.length := (xaj.mp h).1
 have e : ixN xs.length (j : Int) = some j := by
  unfold ixN
  rw [if_pos (by omega), if_pos (by omega)]; simp
 unfold atI; rw [e]; exact h
theorem zo1 {α : Type} (xs : List α) (v : α) : atI (xs ++ [v]) (-1) = some v := by
 have hl : (xs ++ [v]).length = xs.length + 1 := by simp
 have e : ixN (xs ++ [v]).length (-1) = some xs.length := by
  unfold ixN
  rw [hl, if_neg (by decide), if_pos (by omega)]
  congr 1
  omega
 unfold atI
 rw [e]
 show (xs ++ [v])[xs.length]? = some v
 simp
def zmw (b : Expr) : Prop := ∀ o i, subscripted b false o i = operate [o, i] (getItem o i)
def IxR (X : Cx) (r : R2) : Prop :=
 ∀ (value slice : Expr) (pins : List (Addr × Obj)) (s : Shared) (O : St) (H : Hp) (x y : V) (v u : Value) (Q : VK), Inv X pins O H s -> zbf x v -> zbf y u -> r x y H Q ->
  subscripted slice false v u = operate [v, u] (getItem v u) -> wpAny (model X.prog X.w) X.A (subscriptTail value slice v u) (EP X pins O Q) X.xe s
def MtR (X : Cx) (id : String) (r : V -> List V -> Hp -> VK -> Prop) : Prop :=
 ∀ (pins : List (Addr × Obj)) (s : Shared) (O : St) (H : Hp) (x : V) (xs : List V) (v : Value) (us : List Value) (Q : VK), Inv X pins O H s -> zbf x v -> zbg xs us -> r x xs H Q ->
  wpAny (model X.prog X.w) X.A (call (.builtin id) (v :: us)) (EP X pins O Q) X.xe s
section
variable {X : Cx} {a b : Expr} {ta tb : TE} {pos : Pos}
theorem IxR.or {r r' : R2} (h : IxR X r) (h' : IxR X r') : IxR X (fun x y H Q => r x y H Q \/ r' x y H Q) := by
 intro value slice pins s O H x y v u Q I rx ry q hs
 rcases q with q | q
 ·exact h value slice pins s O H x y v u Q I rx ry q hs
 ·exact h' value slice pins s O H x y v u Q I rx ry q hs
theorem zv6 {r : R2} (hr : IxR X r) (ha : PE X a ta) (hb : PE X b tb) (hs : zmw b) : PE X (.Subscript a b pos) (tOp r ta tb) := by
 intro pins s O H Q I h
 exact Subscript_ (zvV ha hb I h fun v u s2 x y H2 I2 rx ry q => hr a b pins s2 O H2 x y v u Q I2 rx ry q (hs _ _))
def rIxL (K : xFg) : R2 := fun x y H Q => ∃ p xs i v, x = .ref p /\ y = .int i /\ SqL K H p xs /\ atI xs i = some v /\ Q v H
def rIxT (K : xFg) : R2 := fun x y H Q => ∃ p xs i v, x = .ref p /\ y = .int i /\ SqT K H p xs /\ atI xs i = some v /\ Q v H
theorem zrM : IxR X (rIxL X.K) := by
 intro value slice pins s O H x y v u Q I rx ry h hs
 obtain ⟨p, xs, i, z, rfl, rfl, hq, he, q⟩ := h
 cases rx
 obtain ⟨t, rfl⟩ := ry
 obtain ⟨its, r, pl, hz⟩ := I.list hq
 obtain ⟨j, h1, h2, h3, h4, h5⟩ := zmv he
 obtain ⟨w, ew, rw'⟩ := r.get h2
 have hl := r.length
 have hn := zih
 have fin : EP X pins O Q w s := ⟨z, H, I, rw', q⟩
 by_cases h0 : 0 <= i
 ·have hj : i.toNat = j := by
   rw [seqIndex_of h0 h5] at h1
   exact Option.some.inj h1
  exact item_listR pl.isList h0 (by omega) (by rw [hj]; simpa using ew) fin hs
 ·have hj : (i + (its.toArray.size : Int)).toNat = j := by
   rw [seqIndex_neg (by omega) h4] at h1
   rw [xah, <- hl]
   exact Option.some.inj h1
  exact subscriptTail_builtinR (x := w) pl.isList.typeIs slot_list_getitem.lookup
   (wpAny_getItem_list_neg (Q := fun r s' => r = w /\ EP X pins O Q r s') pl.isList (by omega) (by rw [xah] <;> omega) (by omega) (by rw [hj]; simpa using ew) ⟨rfl, fin⟩) hs
theorem ztK : IxR X (rIxT X.K) := by
 intro value slice pins s O H x y v u Q I rx ry h hs
 obtain ⟨p, xs, i, z, rfl, rfl, hq, he, q⟩ := h
 cases rx
 obtain ⟨t, rfl⟩ := ry
 obtain ⟨its, r, pl, hz⟩ := I.tuple hq
 obtain ⟨j, h1, h2, h3, h4, h5⟩ := zmv he
 obtain ⟨w, ew, rw'⟩ := r.get h2
 have hl := r.length
 have hn := zih
 have fin : EP X pins O Q w s := ⟨z, H, I, rw', q⟩
 exact subscriptTail_builtinR (x := w) pl.typeIs slot_tuple_getitem.lookup
  (getItem_tuple (j := j) (Q := fun r s' => r = w /\ EP X pins O Q r s') pl (by omega) (by omega) (by rw [xah, <- hl]; exact h1) (by simpa using ew) ⟨rfl, fin⟩) hs
theorem zlI (its : List Value) (n j : Nat) (u : Value) : Obj.mapSeq (·.setIfInBounds j u) { cls := .type "list", data := .seq its.toArray n } = { cls := .type "list", data := .seq (its.set j u).toArray n } := by
 simp [Obj.mapSeq]
theorem Inv.lst {pins : List (Addr × Obj)} {O : St} {H : Hp} {s : Shared} {p : Addr} {xs : List V} (I : Inv X pins O H s) (h : H p = some (.lst xs)) :
  ∃ (its : List Value) (n : Nat), zbg xs its /\ s.heap.get? p = some { cls := .type "list", data := .seq its.toArray n } /\ xs.length <= sizeLine := by
 obtain ⟨z, its, n, r, e⟩ := I.hok p _ h
 exact ⟨its, n, r, e, z⟩
theorem Inv.lstUpd {pins : List (Addr × Obj)} {O : St} {H : Hp} {s : Shared} {p : Addr} {xs ys : List V} {its its' : List Value} {n n' : Nat} {f : Obj -> Obj} (I : Inv X pins O H s) (h : H p = some (.lst xs))
  (ho : s.heap.get? p = some { cls := .type "list", data := .seq its.toArray n }) (hf : f { cls := .type "list", data := .seq its.toArray n } = { cls := .type "list", data := .seq its'.toArray n' }) (r : zbg ys its') (hz : ys.length <= sizeLine) (t : Nat) :
  Inv X pins O (upd H p (.lst ys)) { s with heap := s.heap.update p f, toks := t } := by
 have e : (s.heap.update p f).get? p = some { cls := .type "list", data := .seq its'.toArray n' } := by
  rw [xb1 f ho (by rw [hf] <;> rfl), hf]
 refine I.write (x := p) (e := p) (by rw [h]; trivial) (.inl rfl) (fun b u hb q => (xbg _ _ (xax hb)).trans q) ⟨_, e⟩ ?_
 exact ⟨hz, its', n', r, e⟩
def zv7 : V -> V -> V -> Hp -> (Hp -> Prop) -> Prop := fun o i v H Q => ∃ p xs k j, o = .ref p /\ i = .int k /\ H p = some (.lst xs) /\ ixN xs.length k = some j /\ Q (upd H p (.lst (xs.set j v)))
theorem zkh : PSet X zv7 := by
 intro pins s O H o i v ov iv u Q I ro ri rv h
 obtain ⟨p, xs, k, j, rfl, rfl, hp, hj, q⟩ := h
 cases ro
 obtain ⟨t, rfl⟩ := ri
 obtain ⟨its, n, r, ho, hz⟩ := I.lst hp
 obtain ⟨h1, h2, h3, h4⟩ := zmu hj
 have hl := r.length
 have hn := zih
 have I' : Inv X pins O (upd H p (.lst (xs.set j v))) { s with heap := s.heap.update p (Obj.mapSeq (·.setIfInBounds j u)) } :=
  I.lstUpd hp ho (zlI its n j u) (r.set rv j) (by rw [List.length_set]; exact hz) s.toks
 by_cases h0 : 0 <= k
 ·have hk : k.toNat = j := by
   rw [seqIndex_of h0 h4] at h1
   exact Option.some.inj h1
  exact PySem.W.ki_setAt ho h0 (by omega) (by rw [xah, <- hl]; exact h4) (by rw [hk]; exact ⟨_, I', q⟩)
 ·have hk : (k + (its.toArray.size : Int)).toNat = j := by
   rw [seqIndex_neg (by omega) h3] at h1
   rw [xah, <- hl]
   exact Option.some.inj h1
  exact PySem.W.ki_setBack ho (by omega) (by rw [xah, <- hl]; exact h3) (by omega) (by rw [hk]; exact ⟨_, I', q⟩)
theorem zin (lo hi : Option Int) (n : Nat) : (sliceBounds lo hi none n).1 = ((HT.sIx n 0 lo : Nat) : Int) /\ (sliceBounds lo hi none n).2.1 = ((HT.sIx n n hi : Nat) : Int) /\ (sliceBounds lo hi none n).2.2 = 1 := by
 refine ⟨?_, ?_, rfl⟩
 ·cases lo with
  | none => simp [sliceBounds, HT.sIx]
  | some i =>
   simp only [sliceBounds, HT.sIx, Option.getD_none, show (1 : Int) > 0 by decide, if_true]
   by_cases h : i < 0
   ·simp only [h, if_true] <;> omega
   ·simp only [h, if_false] <;> omega
 ·cases hi with
  | none => simp [sliceBounds, HT.sIx]
  | some i =>
   simp only [sliceBounds, HT.sIx, Option.getD_none, show (1 : Int) > 0 by decide, if_true]
   by_cases h : i < 0
   ·simp only [h, if_true] <;> omega
   ·simp only [h, if_false] <;> omega
theorem zhJ (its : List Value) (lo hi : Option Int) : slicePick its.toArray lo hi none = ((its.drop (HT.sIx its.length 0 lo)).take (HT.sIx its.length its.length hi - HT.sIx its.length 0 lo)).toArray := by
 obtain ⟨h1, h2, h3⟩ := zin lo hi its.toArray.size
 unfold slicePick
 rw [h1, h2, h3]
 simp only [sliceRange_one, pick_run, xah] <;> rfl
def rSlL (K : xFg) : V -> Option Int -> Option Int -> Hp -> VK -> Prop := fun x lo hi H Q => ∃ a xs, x = .ref a /\ SqL K H a xs /\ ∀ p, H p = none -> Q (.ref p) (upd H p (.lst (zoL xs lo hi)))
theorem zrN : SlR X (rSlL X.K) := by
 intro pins s O H x v vl vu lo hi sl Q I rx hs pl pu h
 obtain ⟨a, xs, rfl, hx, q⟩ := h
 cases rx
 obtain ⟨its, r, ht, hz⟩ := I.list hx
 have hlen := r.length
 refine ⟨"list", _, slot_list_getitem.lookup, ht.isList.typeIs, ?_⟩
 refine wpAny_getItem_list_slice ht.isList hs pl pu .none (by simp) ?_ (by rw [xah] <;> omega)
 rw [zhJ, <- hlen]
 refine ⟨.ref s.heap.objs.size, _, I.laid (t' := s.toks) (o := .lst (zoL xs lo hi)) (fun b ob q => xaa _ q) (xad _) ?_, rfl, q _ (I.hok.fresh (xad _))⟩
 exact ⟨xa6 (zfZ xs lo hi) hz, _, 0, (r.drop (HT.sIx xs.length 0 lo)).take (HT.sIx xs.length xs.length hi - HT.sIx xs.length 0 lo), xar _ rfl⟩
def zjB : V -> Bool
 | .non => true
 | .bl _ => true
 | .int _ => true
 | .str _ => true
 | _ => false
def eqV : V -> V -> Bool
 | .non, .non => true
 | .bl a, .bl b => a == b
 | .bl a, .int b => (if a then 1 else 0) == b
 | .int a, .bl b => a == (if b then 1 else 0)
 | .int a, .int b => a == b
 | .str a, .str b => a == b
 | _, _ => false
theorem ztL {A : Around} {s : Shared} {y x : V} {u v : Value} (ry : zbf y u) (rx : zbf x v) (fy : zjB y = true) (fx : zjB x = true) : SeqAt.EqAt A s u v (eqV y x) := by
 cases y with
 | non =>
  cases ry
  cases x with
  | non => cases rx; exact SeqAt.EqAt.same _
  | bl b => cases rx; exact SeqAt.EqAt.none_bool b
  | int b => obtain ⟨t, rfl⟩ := rx; exact SeqAt.EqAt.none_int b t
  | str b => obtain ⟨t, rfl⟩ := rx; exact SeqAt.EqAt.none_str b t
  | _ => exact absurd (show false = true from fx) xau
 | bl a =>
  cases ry
  cases x with
  | non => cases rx; exact SeqAt.EqAt.bool_none a
  | bl b => cases rx; exact SeqAt.EqAt.bool_bool a b
  | int b => obtain ⟨t, rfl⟩ := rx; exact SeqAt.EqAt.bool_int a b t
  | str b => obtain ⟨t, rfl⟩ := rx; exact SeqAt.EqAt.bool_str a b t
  | _ => exact absurd (show false = true from fx) xau
 | int a =>
  obtain ⟨t', rfl⟩ := ry
  cases x with
  | non => cases rx; exact SeqAt.EqAt.int_none a t'
  | bl b => cases rx; exact SeqAt.EqAt.int_bool a t' b
  | int b => obtain ⟨t, rfl⟩ := rx; exact SeqAt.EqAt.int_int a t' b t
  | str b => obtain ⟨t, rfl⟩ := rx; exact SeqAt.EqAt.int_str a t' b t
  | _ => exact absurd (show false = true from fx) xau
 | str a =>
  obtain ⟨t', rfl⟩ := ry
  cases x with
  | non => cases rx; exact SeqAt.EqAt.str_none a t'
  | bl b => cases rx; exact SeqAt.EqAt.str_bool a t' b
  | int b => obtain ⟨t, rfl⟩ := rx; exact SeqAt.EqAt.str_int a t' b t
  | str b => obtain ⟨t, rfl⟩ := rx; exact SeqAt.EqAt.str_str a t' b t
  | _ => exact absurd (show false = true from fx) xau
 | _ => exact absurd (show false = true from fy) xau
theorem zio : OpR X (compareOp .NotIn) (fun x y H Q => ∃ i j, x = .str i /\ y = .str j /\ Q (.bl (!(!(Builtin.Str.occurrences j i 0 j.length 1).isEmpty))) H) := by
 intro pins s O H x y v u Q I rx ry h
 obtain ⟨i, j, rfl, rfl, q⟩ := h
 obtain ⟨t, rfl⟩ := rx
 obtain ⟨t', rfl⟩ := ry
 exact notIn_str ⟨.bl _, H, I, rfl, q⟩
theorem ziq : zc0 X (.builtin "len") (fun xs H Q => ∃ p ys, xs = [.ref p] /\ (SqL X.K H p ys \/ SqT X.K H p ys) /\ Q (.int ys.length) H) := by
 intro pins s O H xs us Q I r h
 obtain ⟨p, ys, rfl, hq, q⟩ := h
 obtain ⟨u, rfl, rx⟩ := zhI r
 cases rx
 have hn := zih
 rcases hq with hq | hq
 ·obtain ⟨its, r', pl, hz⟩ := I.list hq
  have hlen := r'.length
  exact Calls.call_len_list pl.isList (by simp only [xah] <;> omega) ⟨.int ys.length, H, I.tok _, ⟨s.toks + 1, by rw [xah, hlen]⟩, q⟩
 ·obtain ⟨its, r', pl, hz⟩ := I.tuple hq
  have hlen := r'.length
  exact len_tuple pl (by simp only [xah] <;> omega) ⟨.int ys.length, H, I.tok _, ⟨s.toks + 1, by rw [xah, hlen]⟩, q⟩
theorem zir : zc0 X (.builtin "len") (fun xs H Q => ∃ z, xs = [.str z] /\ z.length <= sizeLine /\ Q (.int z.length) H) := by
 intro pins s O H xs us Q I r h
 obtain ⟨z, rfl, hz, q⟩ := h
 obtain ⟨u, rfl, t, rfl⟩ := zhI r
 have hn := zih
 exact len_str (by omega) ⟨.int z.length, H, I.tok _, ⟨_, rfl⟩, q⟩
theorem zc0.or {f : Value} {r r' : List V -> Hp -> VK -> Prop} (h : zc0 X f r) (h' : zc0 X f r') : zc0 X f (fun xs H Q => r xs H Q \/ r' xs H Q) := by
 intro pins s O H xs us Q I rs q
 rcases q with q | q
 ·exact h pins s O H xs us Q I rs q
 ·exact h' pins s O H xs us Q I rs q
theorem zis : zc0 X (.type "list") (fun xs H Q => ∃ p ys, xs = [.ref p] /\ (SqL X.K H p ys \/ SqT X.K H p ys) /\ ∀ l, H l = none -> Q (.ref l) (upd H l (.lst ys))) := by
 intro pins s O H xs us Q I r h
 obtain ⟨p, ys, rfl, hq, q⟩ := h
 obtain ⟨u, rfl, rx⟩ := zhI r
 cases rx
 have fin : ∀ (its : List Value), zbg ys its -> ys.length <= sizeLine -> ∀ (h' : Heap) (c' : Nat), (∀ b o', s.heap.get? b = some o' -> h'.get? b = some o') ->
   h'.get? s.heap.objs.size = some { cls := .type "list", dict := none, data := .seq its.toArray c', slots := #[] } -> EP X pins O Q (.ref s.heap.objs.size) { s with heap := h' } := fun its r' hz h' c' kp e =>
  ⟨.ref s.heap.objs.size, _, I.laid (t' := s.toks) kp (xad _) (show zdf X.prog X.w _ h' _ (.lst ys) from ⟨hz, its, c', r', e⟩), rfl, q _ (I.hok.fresh (xad _))⟩
 rcases hq with hq | hq
 ·obtain ⟨its, r', pl, hz⟩ := I.list hq
  have hlen := r'.length
  obtain ⟨o, ho, hc, n, hd⟩ := pl.isList
  exact call_list_seq p (.inl rfl) ho hc hd (fun h' c' kp e => fin its r' hz h' c' kp e) (by simp only [xah] <;> omega)
 ·obtain ⟨its, r', pl, hz⟩ := I.tuple hq
  have hlen := r'.length
  obtain ⟨o, ho, hc, n, hd⟩ := pl
  exact call_list_seq p (.inr rfl) ho hc hd (fun h' c' kp e => fin its r' hz h' c' kp e) (by simp only [xah] <;> omega)
theorem zhK : zc0 X (.type "tuple") (fun xs H Q => ∃ p ys, xs = [.ref p] /\ ((SqL X.K H p ys /\ ∀ l, H l = none -> Q (.ref l) (upd H l (.tup ys))) \/ (SqT X.K H p ys /\ Q (.ref p) H))) := by
 intro pins s O H xs us Q I r h
 obtain ⟨p, ys, rfl, h⟩ := h
 obtain ⟨u, rfl, rx⟩ := zhI r
 cases rx
 rcases h with ⟨hq, q⟩ | ⟨hq, q⟩
 ·obtain ⟨its, r', pl, hz⟩ := I.list hq
  have hlen := r'.length
  refine call_tuple_list pl.isList (fun h' kp => ?_) (by simp only [xah] <;> omega)
  have I1 : Inv X pins O H { s with heap := h' } := I.kept (t' := s.toks) kp
  have I2 : Inv X pins O (upd H h'.objs.size (.tup ys)) { s with heap := h'.push { cls := .type "tuple", data := .seq its.toArray } } :=
   I1.laid (t' := s.toks) (fun b o e => xaa _ e) (xad _) (show zdf X.prog X.w _ _ _ (.tup ys) from ⟨hz, its, r', IsTup.new _ _⟩)
  exact ⟨.ref h'.objs.size, _, I2, rfl, q _ (I1.hok.fresh (xad _))⟩
 ·obtain ⟨its, r', pl, hz⟩ := I.tuple hq
  exact call_tuple_same pl ⟨.ref p, H, I, rfl, q⟩
def tyV (K : xFg) (T : String) (x : V) (H : Hp) : Prop := match x with
 | .str _ => T = "str"
 | .int _ => T = "int"
 | .ref p => (T = "list" /\ ∃ xs, SqL K H p xs) \/ (T = "tuple" /\ ∃ o, K.lookup p = some o /\ o.cls = .type "tuple" /\ o.dict = none) \/
   (T = "dict" /\ ((∃ kvs, H p = some (.dK kvs)) \/ ∃ kvs, H p = some (.dT kvs))) \/ (T = "set" /\ ∃ S n, H p = some (.set S n))
 | _ => False
theorem ztM {pins : List (Addr × Obj)} {O : St} {H : Hp} {s : Shared} {T : String} {x : V} {v : Value} (I : Inv X pins O H s) (r : zbf x v) (ty : tyV X.K T x H) :
  s.TypeIs v T /\ ∀ a, v = .ref a -> ∃ ob, s.heap.get? a = some ob /\ ob.dict = none := by
 cases x with
 | str z =>
  obtain ⟨t, rfl⟩ := r
  cases (show T = "str" from ty)
  exact ⟨typeIs_str s z t, fun _ e => nomatch e⟩
 | int i =>
  obtain ⟨t, rfl⟩ := r
  cases (show T = "int" from ty)
  exact ⟨typeIs_int s i t, fun _ e => nomatch e⟩
 | ref p =>
  cases r
  rcases ty with ⟨rfl, xs, hq⟩ | ⟨rfl, o, hk, hc, hd⟩ | ⟨rfl, hk⟩ | ⟨rfl, S, n, hk⟩
  ·obtain ⟨its, _, pl, _⟩ := I.list hq
   refine ⟨pl.isList.typeIs, fun a e => ?_⟩
   cases e
   obtain ⟨o, n, e, c, hd, _⟩ := pl
   exact ⟨o, e, hd⟩
  ·refine ⟨⟨o, I.kIn p o hk, hc⟩, fun a e => ?_⟩
   cases e
   exact ⟨o, I.kIn _ o hk, hd⟩
  ·have z : ∃ o, s.heap.get? p = some o /\ o.ExactDict := by
    rcases hk with ⟨kvs, hk⟩ | ⟨kvs, hk⟩
    ·obtain ⟨_, _, _, _, o, _, _, e, ex, _⟩ := I.hok p _ hk
     exact ⟨o, e, ex⟩
    ·obtain ⟨_, _, _, _, o, _, _, e, ex, _⟩ := I.hok p _ hk
     exact ⟨o, e, ex⟩
   obtain ⟨o, e, ex⟩ := z
   refine ⟨⟨o, e, ex.1⟩, fun a e2 => ?_⟩
   cases e2
   exact ⟨o, e, ex.2.1⟩
  ·obtain ⟨o, _, _, _, e, ex, _⟩ := I.hok p _ hk
   refine ⟨⟨o, e, ex.1⟩, fun a e2 => ?_⟩
   cases e2
   exact ⟨o, e, ex.2.1⟩
 | _ => exact False.elim ty
def tBM (K : xFg) (T : String) (r : V -> List V -> Hp -> VK -> Prop) (to : TE) (t : TA) : TE := fun O H Q => to O H fun x H1 => tyV K T x H1 /\ t O H1 fun xs H2 => r x xs H2 Q
variable {o e : Expr} {es : List Expr} {to : TE} {t : TA} {name : Str} {apos cpos : Pos} {T id : String} {r : V -> List V -> Hp -> VK -> Prop}
theorem zv8 (pa : PlainAttrs T) (slot : Slot T name id) (hty : typeOf (.builtin id) = pure (.type "method_descriptor")) (hm : MtR X id r) (ho : PE X o to) (ha : PA X (e :: es) t)
  (hbase : attributeBase o name X.env (eval o X.env) = eval o X.env := by rfl)
  (hfew : ((backTo cpos (starEach (e :: es) X.env)).all (fun x => !x.1) && (backToKw cpos (keywordEach [] X.env)).all (fun x => x.1.isSome)
   && decide ((e :: es).length + ([] : List Keyword).length + (if ([] : List Keyword).isEmpty then 0 else 1) < 30)) = true := by rfl)
  (hline : (apos.endLine == cpos.line) = true := by rfl) (hs : starEach (e :: es) X.env = (false, eval e X.env) :: starEach es X.env := by rfl) (hplain : (backTo cpos (starEach es X.env)).any (·.1) = false := by rfl) :
  PE X (.Call (.Attribute o name apos) (e :: es) [] cpos) (tBM X.K T r to t) := by
 intro pins s O H Q I h
 refine wpAny_Call_method_late hbase hfew hline rfl (thn (ho pins s O H _ I h) fun v s1 ⟨x, H1, I1, r1, ty, q1⟩ => ?_)
 obtain ⟨h1, h2⟩ := ztM I1 r1 ty
 refine ⟨T, id, pa, slot, hty, h1, h2, ?_⟩
 have hA := ha cpos pins s1 O H1 _ I1 q1
 rw [hs] at hA ⊢
 refine Calls.callWith_builtin (by show (false || (backTo cpos (starEach es X.env)).any (·.1)) = false; rw [hplain] <;> rfl) (Calls.evalArgs_plain ?_)
 exact thn hA fun us s2 ⟨vs, H2, I2, r2, q2⟩ => hm pins s2 O H2 x vs v us Q I2 r1 r2 q2
end
end L2
namespace L2
open PySem.Spec PyProof.Rows
def MtM (X : Cx) (id : String) (r : V -> List V -> Hp -> VK -> Prop) : Prop :=
 ∀ (pins : List (Addr × Obj)) (s : Shared) (O : St) (H : Hp) (x : V) (xs : List V) (v : Value) (us : List Value) (Q : VK), Inv X pins O H s -> zbf x v -> zbg xs us -> r x xs H Q ->
  wpAny (model X.prog X.w) X.A (call (.builtin id) (v :: us)) (EP X pins O Q) X.xe s
theorem zbg.one : ∀ {x : V} {us : List Value}, zbg [x] us -> ∃ u, us = [u] /\ zbf x u
 | _, _, .cons r .nil => ⟨_, rfl, r⟩
section
variable {X : Cx} {pins : List (Addr × Obj)} {O : St} {H : Hp} {s : Shared} {l b : Addr} {xs ys zs : List V}
theorem Inv.lset {its its' : List Value} {n : Nat} {f : Array Value -> Array Value} {t' : Nat} (I : Inv X pins O H s) (hH : H l = some (.lst xs))
  (e : s.heap.get? l = some { cls := .type "list", data := .seq its.toArray n }) (hf : f its.toArray = its'.toArray) (hv : zbg ys its') (hz : ys.length <= sizeLine) :
  Inv X pins O (upd H l (.lst ys)) { s with heap := s.heap.update l (Obj.mapSeq f), toks := t' } := by
 have q := PySem.IsL.update e f
 rw [hf] at q
 refine I.write (x := l) (e := l) (by rw [hH]; exact trivial) (.inl rfl) (fun b' u hb hu => (xbg s.heap (Obj.mapSeq f) (xax hb)).trans hu) ⟨_, q⟩ ?_
 exact ⟨hz, its', _, hv, q⟩
theorem Inv.lnew {its : List Value} {t' : Nat} (I : Inv X pins O H s) (hv : zbg ys its) (hz : ys.length <= sizeLine) :
  Inv X pins O (upd H s.heap.objs.size (.lst ys)) { s with heap := s.heap.push { cls := .type "list", data := .seq its.toArray }, toks := t' } :=
 I.laid (fun _ _ q => xaa _ q) (xad _) ⟨hz, its, 0, hv, xar _ rfl⟩
theorem Inv.fresh (I : Inv X pins O H s) : H s.heap.objs.size = none := I.hok.fresh (xad _)
theorem Inv.lstM (I : Inv X pins O H s) (hH : H l = some (.lst xs)) : xs.length <= sizeLine /\ ∃ (its : List Value) (n : Nat), zbg xs its /\ xs.length = its.length /\ s.heap.get? l = some { cls := .type "list", data := .seq its.toArray n } := by
 obtain ⟨z, its, n, r, e⟩ := I.hok l _ hH
 exact ⟨z, its, n, r, r.length, e⟩
end
section
variable {X : Cx}
def zrO : V -> List V -> Hp -> VK -> Prop := fun x vs H Q => ∃ l xs y, x = .ref l /\ vs = [y] /\ H l = some (.lst xs) /\ xs.length < sizeLine /\ Q .non (upd H l (.lst (xs ++ [y])))
theorem zmx : MtM X "list.append" zrO := by
 intro pins s O H x vs v us Q I rx rv h
 obtain ⟨l, xs, y, rfl, rfl, hH, hz, q⟩ := h
 cases rx
 obtain ⟨u, rfl, ru⟩ := rv.one
 obtain ⟨z, its, n, r, hl, e⟩ := I.lstM hH
 refine call_meets F.slot_list_append ⟨_, e, rfl⟩ F.entry_list_append (F.args_list_append_2 _ _) (PySem.list_append l its.toArray n u (by rw [xah]; omega)) ⟨e, ?_⟩
 refine ⟨.non, _, I.lset (its' := its ++ [u]) hH e (by simp) (r.append (.cons ru .nil)) ?_, rfl, q⟩
 rw [xby, List.length_singleton]
 omega
end
end L2
namespace Att
open PySem.W PySem.Calls PyProof.Rows
theorem zf0 {P : Params} {h : Heap} : ∀ (ns : List Int) (vs : List Value), WellAll P h vs (ns.map WData.int) -> IntsAre vs ns := by
 intro ns
 induction ns with
 | nil =>
  intro vs w
  rw [xc6] at w
  cases w
  exact .nil
 | cons n ns ih =>
  intro vs w
  rw [xa7] at w
  cases w with
  | cons a b =>
   cases a
   exact .cons _ _ (ih _ b)
theorem zmy {l : OpenLaw} {n : Nat} (hn : l.most = some n) {P : Params} {h : Heap} {args : List WData} {vals : List Value}
  (hpre : l.row.toRowW.claim.pre args = true) (hwl : WellAll P h vals args) :
  ∃ a vs ns, vals = [Value.ref a] /\ args = [WData.list (ns.map WData.int)] /\ h.get? a = some { cls := .type "list", data := .seq vs.toArray } /\ IntsAre vs ns /\ ns.length <= n := by
 have hsh : WShape.hasAll [] args [.list .int] = true := (pre_splitW hpre).1
 have hc : l.pre.holds [] { args := args } = true := (pre_splitW hpre).2
 obtain ⟨d, r, rfl, h1, h2⟩ := hasAllW_cons hsh
 obtain rfl := hasAllW_nil h2
 obtain ⟨xs, rfl, h3⟩ := hasW_list h1
 obtain ⟨ns, rfl⟩ := items_int h3
 have hlen : ns.length <= n := by
  unfold OpenLaw.pre at hc
  have h4 : (WTm.not (.lt (.lit (.int (n : Int))) (.len (.arg 0)))).holds [] { args := [.list (ns.map .int)] } = true := by
   have h4 := (holds_andW hc).1
   rw [hn] at h4
   exact h4
  have h5 := condW_of h4 (w_not (w_lt w_lit (w_len_list (w_arg rfl))))
  rw [xag] at h5
  refine Nat.le_of_not_lt fun q => ?_
  have q' : (n : Int) < ((ns.length : Nat) : Int) := by omega
  first
   | (rw [decide_eq_true q'] at h5; exact absurd h5 (by decide))
   | (simp at h5; omega)
 cases hwl with
 | cons w1 w2 =>
  cases w2
  cases w1 with
  | list ho hall => exact ⟨_, _, ns, rfl, rfl, ho, zf0 ns _ hall, hlen⟩
theorem zmz (l : OpenLaw) (args : List WData) : l.row.toRowW.claim.post args (.bool true) args = true :=
 postW_of (r := l.row.toRowW) (X := (true == true))
  (show WShape.has [] (.bool true) .bool = true by first | rfl | decide | simp [WShape.has, WShape.arms, WShape.armsAll])
  (show (WTm.eq .res (.lit (.bool true))).value [] { args := args, res := some (.bool true), after := args } = some (.bool (true == true)) from w_eq_bool (w_res rfl) w_lit) rfl
theorem attach_call {l : OpenLaw} {n : Nat} {q : Program} {loose : List Str} {XP : (Str -> Option Value) -> Heap -> Prop} {YP : World -> Heap -> Prop} {d : DefRec}
  (hn : l.most = some n) (hdf : d.params.defaults = [])
  (call : ∀ (w : World) (s₀ s₁ : Shared) (mg mb : Str -> Option Value) (fa : Addr) (o : Obj) (pm cd doc : Value) (a : Addr) (vs : List Value) (ns : List Int),
   Ground q loose [] XP w s₀ mg mb s₁.heap -> YP w s₁.heap ->
   s₁.heap.get? fa = some o -> o.data = .func (docDef d.name d.params d.body d.scope pm cd doc) -> s₁.heap.CodeRec cd d.name -> mg d.name = some (.ref fa) ->
   s₁.heap.get? a = some { cls := .type "list", data := .seq vs.toArray } -> IntsAre vs ns -> ns.length <= n -> s₁.gens = #[] ->
   codeAny (model l.prog w) callerA (.call (.ref fa) ⟨[.ref a], []⟩) (fun r s' => r = .ok (.ret (.bool true)) /\ OldK s₁.heap s'.heap /\ s'.os = s₁.os /\ AllBare s'.gens) s₁) :
  WalkO q loose XP YP l.row.toRowW d [] (fun f vs => PySem.call f vs) := by
 intro w s₀ s₁ mg mb G Y fa o pm cd doc dV kV ho hd hcd hD hmg hg args vals as hpre hlay hrd hwl hlo
 obtain rfl : dV = .none := Dflts.none hD hdf
 obtain rfl : kV = .none := Dflts.noKw hD
 obtain ⟨a, vs, ns, rfl, rfl, hobj, hints, hlen⟩ := zmy hn hpre hwl
 refine enter_call (codeAny_mono (call w s₀ s₁ mg mb fa o pm cd doc a vs ns G Y ho (fd_plain hd) hcd hmg hobj hints hlen hg) fun r s' hq => ?_)
 obtain ⟨rfl, h2, h3, h4⟩ := hq
 exact ⟨.inl ⟨.bool true, .bool true, [], rfl, fun _ => rfl, .bool true, zmz l _, fun _ => ⟨List.Pairwise.nil, fun _ hm => (nomatch hm)⟩⟩, h2, h3, h4⟩
end Att
namespace L2
open PySem.Spec PyProof.Rows
theorem zit : ∀ {vs : List Value} {ns : List Int}, IntsAre vs ns -> zbg (ns.map V.int) vs
 | _, _, .nil => .nil
 | _, _, .cons n t h => .cons ⟨t, rfl⟩ (zit h)
def zv9 (H : Hp) : Prop := ∀ b, H b = none \/ ∃ o xs, H b = some (.frz o (.lst xs))
theorem zo2 {P : Program} {w : World} {K : xFg} {mg mb : Str -> Option Value} {CX : CXT} {k : Nat} {fa a : Addr} {fd : FuncData} {x : Str} {sp : Sp} {s₁ : Shared} {vs : List Value} {ns : List Int}
  (KX : K.In s₁.heap) (hns : s₁.heap.Ns mainGlobals mg) (hb : s₁.heap.Ns builtinsNs mb) (hbb : ∀ x : Str, x ≠ "__name__" -> mb x = bootBuiltins x) (hlim : s₁.heap.NoLimit) (hg : s₁.gens = #[])
  (ha : s₁.heap.get? a = some { cls := .type "list", data := .seq vs.toArray }) (hi : IntsAre vs ns) (hl : ns.length <= sizeLine) (hr : zfA k callerA)
  (F : ∀ base : Heap, K.In base -> base.Ns mainGlobals mg -> zgR P w K mg base CX k fa fd [x] sp) (hbind : ∀ (s : Shared) (u : Value), BindsTo s fd ⟨[u], []⟩ [(x, u)])
  (hsp : ∀ H : Hp, zv9 H -> SqL K H a (ns.map V.int) -> sp [.ref a] H (fun v _ => v = .bl true) fun _ _ _ => False)
  (hCX : ∀ H e s', CX [] H s₁ (fun _ _ _ => False) e s' -> False) :
  codeAny (model P w) callerA (.call (.ref fa) ⟨[.ref a], []⟩) (fun r s' => r = .ok (.ret (.bool true)) /\ OldK s₁.heap s'.heap /\ s'.os = s₁.os /\ AllBare s'.gens) s₁ := by
 have rv := zit hi
 have lenV := hi.length
 have core : ∀ H : Hp, zv9 H -> SqL K H a (ns.map V.int) -> HOk P w H s₁.heap -> (∀ b, H b ≠ none -> b = a) -> (H a ≠ none -> K.lookup a = none) ->
   codeAny (model P w) callerA (.call (.ref fa) ⟨[.ref a], []⟩) (fun r s' => r = .ok (.ret (.bool true)) /\ OldK s₁.heap s'.heap /\ s'.os = s₁.os /\ AllBare s'.gens) s₁ := by
  intro H hO hS hok hA hK
  have base_of : ∀ {b : Addr} {o : Obj}, s₁.heap.get? b = some o -> H b = none -> (zoP s₁.heap H).get? b = some o := fun e n => zoQ e n
  have noA : ∀ {b : Addr} {o : Obj} {es : Array DictEntry} {ep : Nat}, s₁.heap.get? b = some o -> o.data = .dict es ep -> H b = none := fun {b o es ep} e d => by
   cases q : H b with
   | none => rfl
   | some u =>
    have e' : b = a := hA b (by rw [q]; simp)
    subst e'
    rw [ha] at e; cases e
    have d' : Data.seq vs.toArray _ = Data.dict es ep := d
    cases d'
  have nsK : ∀ {b : Addr} {m : Str -> Option Value}, s₁.heap.Ns b m -> (zoP s₁.heap H).Ns b m := fun {b m} ⟨o, es, ep, e, d, r⟩ => ⟨o, es, ep, base_of e (noA e d), d, r⟩
  have hKb : K.In (zoP s₁.heap H) := fun b o e => base_of (KX b o e) (by
   cases q : H b with
   | none => rfl
   | some u =>
    have e' : b = a := hA b (by rw [q]; simp)
    subst e'
    rw [hK (by rw [q]; simp)] at e; cases e)
  have hM : Mod K mg (zoP s₁.heap H) := ⟨hKb, nsK hns, ⟨mb, nsK hb, hbb⟩, let ⟨mc, h1, h2⟩ := hlim; ⟨mc, nsK h1, h2⟩⟩
  have e0 : zvw P w K mg (zoP s₁.heap H) callerA [] s₁ H := ⟨rfl, hM, fun b o e => zrq e, Nat.le_of_eq (zmg _ _), trivial, fun b hb => absurd (show b ∈ ([] : List Addr) from hb) (by simp), hok, .of_eq hg⟩
  refine codeAny_mono ((F _ hKb (nsK hns)).run callerA [] s₁ H ⟨[.ref a], []⟩ [.ref a] [.ref a] _ _ hr e0 (hbind s₁ (.ref a)) (.cons rfl .nil) (hsp H hO hS)) fun r s' h => ?_
  cases r with
  | error e => exact (hCX H e s' h).elim
  | ok fl =>
   cases fl with
   | next => exact False.elim h
   | brk => exact False.elim h
   | cont => exact False.elim h
   | ret u =>
    obtain ⟨v, H', os, bare, un, hok', r', q⟩ := h
    have q' : v = .bl true := q
    subst q'
    obtain rfl : u = Value.bool true := r'
    refine ⟨rfl, OldK.of_keep fun b o e => ?_, os, bare⟩
    cases q : H b with
    | none => exact un.keep b o e q (by intro z; exact absurd (show b ∈ ([] : List Addr) from z) (by simp)) (by simp)
    | some u =>
     rcases hO b with z | ⟨ob, xs, z⟩
     ·rw [q] at z; cases z
     ·have z2 := un.frzs b ob _ z
      obtain ⟨e1, _⟩ := hok b _ z
      obtain ⟨e2, _⟩ := hok' b _ z2
      rw [e] at e1; cases e1
      exact e2
 cases hk : K.lookup a with
 | some o =>
  have e := KX a o hk
  rw [ha] at e
  cases e
  refine core (fun _ => none) (fun _ => .inl rfl) (.inr ⟨_, vs.toArray, _, hk, rfl, rfl, rfl, by rw [xah, lenV]; exact hl, by simpa using rv⟩) (fun b u z => by have z' : (none : Option HO) = some u := z; cases z') (fun b z => absurd rfl z) fun z => absurd rfl z
 | none =>
  refine core (fun b => if b = a then some (.frz { cls := .type "list", data := .seq vs.toArray } (.lst (ns.map V.int))) else none) (fun b => ?_) (.inl (.inr ⟨{ cls := .type "list", data := .seq vs.toArray }, if_pos rfl⟩)) (fun b u z => ?_) (fun b z => ?_) fun _ => hk
  ·by_cases hb : b = a
   ·exact .inr ⟨_, _, if_pos hb⟩
   ·exact .inl (if_neg hb)
  ·by_cases hb : b = a
   ·have z' := (if_pos hb).symm.trans z
    cases z'
    subst hb
    exact ⟨ha, by rw [xag]; exact hl, vs, _, rv, ha⟩
   ·have z' := (if_neg hb).symm.trans z
    cases z'
  ·by_cases hb : b = a
   ·exact hb
   ·exact absurd (if_neg hb) z
end L2
namespace L2
open PySem.Spec PyProof.Rows
theorem walk_of {l : PySem.W.OpenLaw} {n k : Nat} {q : Program} {loose : List Str} {XP : (Str -> Option Value) -> Heap -> Prop} {YP : World -> Heap -> Prop} {d : DefRec} {K : Params -> xFg} {CX : World -> CXT} {sp : World -> Sp} {x : Str}
  (hn : l.most = some n) (hn2 : n <= sizeLine) (hdf : d.params.defaults = []) (hr : zfA k callerA)
  (hY : ∀ (w : World) (h : Heap), YP w h -> (K w.params).In h)
  (F : ∀ (w : World) (mg : Str -> Option Value) (fa : Addr) (h : Heap), (K w.params).In h -> h.Ns mainGlobals mg -> mg d.name = some (.ref fa) ->
   ∃ fd : FuncData, (∀ (s : Shared) (u : Value), BindsTo s fd ⟨[u], []⟩ [(x, u)]) /\
    ∀ base : Heap, (K w.params).In base -> base.Ns mainGlobals mg -> zgR l.prog w (K w.params) mg base (CX w) k fa fd [x] (sp w))
  (hsp : ∀ (w : World) (H : Hp) (a : Addr) (ns : List Int), ns.length <= n -> zv9 H -> SqL (K w.params) H a (ns.map V.int) -> sp w [.ref a] H (fun v _ => v = .bl true) fun _ _ _ => False)
  (hCX : ∀ (w : World) (H : Hp) (s : Shared) (e : Value) (s' : Shared), CX w [] H s (fun _ _ _ => False) e s' -> False) :
  PySem.W.WalkO q loose XP YP l.row.toRowW d [] (fun f vs => PySem.call f vs) := by
 refine Att.attach_call hn hdf fun w s₀ s₁ mg mb fa o pm cd doc a vs ns G Y ho hd hcd hmg hobj hints hlen hg => ?_
 have KX := hY w _ Y
 obtain ⟨fd, hb, hF⟩ := F w mg fa _ KX G.T.g hmg
 exact zo2 KX G.T.g G.T.b G.T.builtins G.T.nolimit hg hobj hints (xa6 hlen hn2) hr hF hb (fun H hO hS => hsp w H a ns hlen hO hS) fun H e s' => hCX w H s₁ e s'
end L2
namespace L2
open PySem.Spec PyProof.Rows
def zdF (s : Stmt) : Arguments := match s with
 | .FunctionDef _ a _ _ _ _ _ _ _ _ => a
 | _ => { posonlyargs := [], args := [], vararg := none, kwonlyargs := [], kw_defaults := [], kwarg := none, defaults := [] }
def zbC (s : Stmt) : List Stmt := match s with
 | .FunctionDef _ _ b _ _ _ _ _ _ _ => b
 | _ => []
def zah (s : Stmt) : Scope := match s with
 | .FunctionDef _ _ _ _ _ _ sc _ _ _ => sc
 | _ => { kind := .function, names := [], isGenerator := false, isCoroutine := false }
abbrev E0 : XK := fun _ _ _ => False
structure Fun (K : xFg) (x qual : Str) (st : Stmt) (f : Addr) (fd : FuncData) : Prop where
 ex : ∃ (oc : Value) (od : Option Addr) (kV doc pm : Value) (an : Option Addr) (cdv ct : Value) (osl : Array (Option Value)),
  fd = PySem.W.fnOf x qual (zdF st) (zbC st) (zah st) .none kV doc pm an cdv ct /\ K.lookup f = some ⟨oc, od, .func fd, osl⟩ /\ PySem.W.codeIn K cdv qual = true
 kp : PySem.W.keepIn K (.ref f) = true
section
variable {P : Program} {w : World} {K : xFg} {mg : Str -> Option Value} {base : Heap}
theorem Fun.binds {x qual : Str} {st : Stmt} {f : Addr} {fd : FuncData} {ps : List Str} (F : Fun K x qual st f fd)
  (h : ∀ (kV doc pm : Value) (an : Option Addr) (cdv ct : Value) (us : List Value), us.length = ps.length -> bindArgs (PySem.W.fnOf x qual (zdF st) (zbC st) (zah st) .none kV doc pm an cdv ct) ⟨us, []⟩ = pure (ps.zip us)) : zfX K fd ps [] := by
 obtain ⟨oc, od, kV, doc, pm, an, cdv, ct, osl, rfl, lk, hcd⟩ := F.ex
 exact .all (h kV doc pm an cdv ct)
theorem zqe {x qual : Str} {st : Stmt} {f : Addr} {oc : Value} {od an : Option Addr} {osl : Array (Option Value)} {kV doc pm cdv ct : Value} (l : K.lookup f = some ⟨oc, od, .func (PySem.W.fnOf x qual (zdF st) (zbC st) (zah st) .none kV doc pm an cdv ct), osl⟩)
  (c : PySem.W.codeIn K cdv qual = true) (k : PySem.W.keepIn K (.ref f) = true) : Fun K x qual st f (PySem.W.fnOf x qual (zdF st) (zbC st) (zah st) .none kV doc pm an cdv ct) := ⟨⟨oc, od, kV, doc, pm, an, cdv, ct, osl, rfl, l, c⟩, k⟩
end
theorem zmA {n : Nat} (h : n <= 1000) : n < sizeLine := xbq h (by decide)
section
variable {X : Cx}
theorem pv (i : Nat) {x : Str} {pos : Pos} (hN : X.N[i]? = some x := by rfl) (hv : Vis X.env.scope x := by first | exact Or.inl rfl | exact Or.inr (Or.inl rfl) | exact Or.inr (Or.inr rfl)) (hd : (x == ("__debug__" : Str)) = false := by decide)
  (hcd : (x == ("__classdict__" : Str)) = false := by decide) : PE X (.Name x pos) (tVar i) := ztf hN hv hd hcd
end
theorem iteF {A B : Prop} (h : B) : if false = true then A else B := by
 rw [if_neg xau]
 exact h
theorem iteT {A B : Prop} (h : A) : if true = true then A else B := by
 rw [if_pos rfl]
 exact h
def zay (H H' : Hp) : Prop := ∀ b o, H b = some o -> H' b = some o
theorem zay.refl (H : Hp) : zay H H := fun _ _ h => h
theorem zay.trans {H H1 H2 : Hp} (a : zay H H1) (b : zay H1 H2) : zay H H2 := fun c o h => b c o (a c o h)
theorem zay.free {H H' : Hp} (e : zay H H') {l : Addr} (h : H' l = Option.none) : H l = Option.none := by
 cases q : H l with
 | none => rfl
 | some o =>
  rw [e l o q] at h
  cases h
theorem zay.seq {K : xFg} {H H' : Hp} {a : Addr} {xs : List V} (e : zay H H') (h : SqL K H a xs) : SqL K H' a xs := by
 rcases h with (h | ⟨o, h⟩) | h
 ·exact .inl (.inl (e _ _ h))
 ·exact .inl (.inr ⟨o, e _ _ h⟩)
 ·exact .inr h
end L2
end
namespace L2
open PySem.Spec PyProof.Rows
theorem zg8 {α β : Type} (g : β -> α -> β) : ∀ {l : List α} {f : α -> β -> Sem (ForInStep β)} (c : β), (∀ x ∈ l, ∀ c, f x c = pure (.yield (g c x))) -> forIn l c f = pure (l.foldl g c)
 | [], _, _, _ => rfl
 | x :: l, f, c, h => by
  rw [xck, h x xan c, pure_bind]
  exact zg8 g (g c x) fun y hy => h y (xae _ hy)
def zbD (env : Env) (cs : List (Str × Addr)) (x : Str × NameKind) : List (Str × Addr) :=
 if (x.2 == NameKind.free) = true then (x.1, (env.cells.lookup x.1).getD 0) :: cs else cs
def zs4 (env : Env) (names : List (Str × NameKind)) : List (Str × Addr) := names.foldl (zbD env) []
theorem zmB {env : Env} {scope : Scope} (h : ∀ x ∈ scope.names, x.2 = .free -> ∃ c, env.cells.lookup x.1 = some c) : closureFor scope env = pure (zs4 env scope.names) := by
 simp only [closureFor]
 rw [zg8 (zbD env) [] (fun x hx c => by
  obtain ⟨n, k⟩ := x
  by_cases hk : k = .free
  ·obtain ⟨a, e⟩ := h (n, k) hx hk
   have e' : env.cells.lookup n = some a := e
   subst hk
   simp [zbD, cellOf, e']
  ·have hb : (k == NameKind.free) = false := by simpa using hk
   simp [zbD, hb])]
 rfl
theorem zhL {env : Env} : ∀ (l : List (Str × NameKind)) (acc : List (Str × Addr)), (∀ x ∈ l, x.2 = .free -> ∃ c, env.cells.lookup x.1 = some c) -> (∀ y c, acc.lookup y = some c -> env.cells.lookup y = some c) ->
  ∀ y c, (l.foldl (zbD env) acc).lookup y = some c -> env.cells.lookup y = some c
 | [], acc, _, ha, y, c, e => ha y c e
 | x :: l, acc, h, ha, y, c, e => by
  refine zhL l (zbD env acc x) (fun z hz => h z (xae _ hz)) (fun z d q => ?_) y c e
  unfold zbD at q
  split at q
  ·rename_i hk
   obtain ⟨a, ea⟩ := h x xan (by simpa using hk)
   rw [xbx] at q
   cases hz : z == x.1 with
   | true =>
    rw [hz] at q
    rw [ea] at q
    have : z = x.1 := by simpa using hz
    rw [this, ea]; simpa using q
   | false => rw [hz] at q; exact ha z d q
  ·exact ha z d q
theorem zf1 {env : Env} : ∀ (l : List (Str × NameKind)) (acc : List (Str × Addr)) (y : Str), ((∃ c, acc.lookup y = some c) \/ (y, NameKind.free) ∈ l) -> ∃ c, (l.foldl (zbD env) acc).lookup y = some c
 | [], acc, y, h => by
  rcases h with h | h
  ·exact h
  ·exact absurd h (by simp)
 | x :: l, acc, y, h => by
  refine zf1 l (zbD env acc x) y ?_
  rcases h with ⟨c, h⟩ | h
  ·left
   unfold zbD
   split
   ·rw [xbx]
    cases hz : y == x.1 with
    | true => exact ⟨_, rfl⟩
    | false => exact ⟨c, h⟩
   ·exact ⟨c, h⟩
  ·rcases xaf.mp h with e | h
   ·left
    subst e
    unfold zbD
    rw [if_pos (by rfl), xbx]
    simp
   ·exact .inr h
theorem zbh {scope : Scope} {env : Env} : ∀ {names : List (Str × NameKind)} {x : Str} {k : NameKind},
  (names.map fun (n, k) => if (k == NameKind.free && env.scope.kind == .function && env.kindOf n == some .cell) then (n, NameKind.cell) else (n, k)).lookup x = some k ->
  names.lookup x = some k \/ (k = .cell /\ names.lookup x = some .free)
 | [], _, _, h => by simp at h
 | (n, k') :: r, x, k, h => by
  change List.lookup x ((if (k' == NameKind.free && env.scope.kind == .function && env.kindOf n == some .cell) = true then (n, NameKind.cell) else (n, k')) :: _) = some k at h
  by_cases hc : (k' == NameKind.free && env.scope.kind == .function && env.kindOf n == some .cell) = true
  ·rw [if_pos hc, xbx] at h
   rw [xbx]
   cases hx : x == n with
   | true =>
    rw [hx] at h
    have hk : k' = .free := by
     simp only [xay, beq_iff_eq] at hc
     exact hc.1.1
    subst hk
    have h' : NameKind.cell = k := by simpa using h
    exact .inr ⟨h'.symm, rfl⟩
   | false => rw [hx] at h; exact zbh (scope := scope) h
  ·rw [if_neg hc, xbx] at h
   rw [xbx]
   cases hx : x == n with
   | true => rw [hx] at h; exact .inl h
   | false => rw [hx] at h; exact zbh (scope := scope) h
def zwa (k : Nat) (NY N : List Str) (sc : Scope) : Bool :=
 NY.length == k + N.length && ((NY.drop k).zip N).all fun p => (sc.names.lookup p.1).isNone || (p.1 == p.2 && sc.names.lookup p.1 != some .local)
structure LC (X : Cx) (k : Nat) (scope : Scope) (NY : List Str) : Prop where
 cells : ∀ y ∈ scope.names, y.2 ≠ .cell
 kind : scope.kind = .function
 names : ∀ y ∈ scope.names, y.2 = .local -> scope.names.lookup y.1 = some .local
 free : ∀ y ∈ scope.names, y.2 = .free -> X.env.kindOf y.1 = some .cell \/ X.env.kindOf y.1 = some .free
 ny : zwa k NY X.N scope = true
 nd : NY.Nodup
def lcOk (k : Nat) (N : List Str) (sc0 scope : Scope) (NY : List Str) : Bool :=
 (scope.names.all fun y => y.2 != .cell) && (scope.kind == .function) && (scope.names.all fun y => y.2 != .local || scope.names.lookup y.1 == some .local) &&
 (scope.names.all fun y => y.2 != .free || sc0.names.lookup y.1 == some .cell || sc0.names.lookup y.1 == some .free) && zwa k NY N scope && decide NY.Nodup
theorem LC.of {X : Cx} {k : Nat} {N NY : List Str} {sc0 scope : Scope} (hN : X.N = N) (hs : X.env.scope = sc0) (h : lcOk k N sc0 scope NY = true) : LC X k scope NY := by
 unfold lcOk at h
 simp only [xay, xa1, Bool.or_eq_true, bne_iff_ne, beq_iff_eq, ne_eq] at h
 obtain ⟨⟨⟨⟨⟨h1, h2⟩, h3⟩, h4⟩, h5⟩, h6⟩ := h
 refine ⟨h1, h2, fun y hy e => ?_, fun y hy e => ?_, by rw [hN]; exact h5, of_decide_eq_true h6⟩
 ·rcases h3 y hy with z | z
  ·exact absurd e z
  ·exact z
 ·show X.env.scope.names.lookup y.1 = _ \/ X.env.scope.names.lookup y.1 = _
  rw [hs]
  rcases h4 y hy with (z | z) | z
  ·exact absurd e z
  ·exact .inl z
  ·exact .inr z
def zdG (X : Cx) (scope : Scope) (NY : List Str) (s₀ : Shared) (H₀ : Hp) (C : Addr) (ex : List Addr) : Cx :=
 { X with N := NY, s₀ := s₀, H₀ := H₀, env := compEnvC scope (zs4 X.env scope.names) C X.env, outer := X.stack, ex := ex, fn := fun _ => false, pn := [], xe := fun _ _ => False }
def PTs (X : Cx) (cs : List Expr) (t : TT) : Prop :=
 ∀ (pins : List (Addr × Obj)) (s : Shared) (O : St) (H : Hp) (Q : Bool -> Hp -> Prop), Inv X pins O H s -> t O H Q ->
  wpAny (model X.prog X.w) X.A (forIn cs true fun c r => if r = true then do let ok <- isTrue c X.env (eval c X.env); pure (ForInStep.yield ok) else pure (ForInStep.yield r)) (TP X pins O Q) X.xe s
def zwb : TT := fun _ H Q => Q true H
theorem zrP {X : Cx} : PTs X [] zwb := fun _ _ _ H _ I h => wpAny_tests_nil ⟨H, I, h⟩
theorem zrQ {X : Cx} {c : Expr} {t : TT} (hc : PT X c t) : PTs X [c] t := fun pins s O H Q I h => wpAny_tests_one (hc pins s O H Q I h)
def zrR (O O2 : St) : Prop := O2.length = O.length /\ ∀ (j : Nat) (v : V), O[j]? = some (some v) -> O2[j]? = some (some v)
def tLC (k : Nat) (wi : TI) (g : TG) (tc : TT) (te : TE) : TE := fun O H Q => wi O H fun J H1 => ∃ W : Nat -> Nat -> List V -> Hp -> Prop, (∃ m, W 0 m [] H1) /\ ∀ i m ys H, W i m ys H -> ys.length < sizeLine /\
 ((J.stop i H /\ ∀ D, H D = none -> Q (.ref D) (upd H D (.lst ys))) \/
  (J.go i H /\ ∃ N : List V -> Hp -> Prop, (∀ ys' H', N ys' H' -> ∃ m', m' < m /\ W (i + 1) m' ys' H') /\
    ∀ v H', J.yld i H v H' -> g v (List.replicate k none ++ O) H' fun O2 H2 => zrR (List.replicate k none ++ O) O2 /\
      tc O2 H2 fun b H3 => if b = true then te O2 H3 fun y H4 => N (ys ++ [y]) H4 else N ys H3))
theorem zwc {α : Type} {t : Sem α} {Q Q' : α -> Shared -> Prop} {M : Model} {A : Around} {E : Value -> Shared -> Prop} {s : Shared} (h : wpAny M A t Q (fun _ _ => False) s) (hQ : ∀ a s, Q a s -> Q' a s) : wpAny M A t Q' E s :=
 wpAny_mono h hQ fun _ _ z => False.elim z
section
variable {prog : Program} {w : World} {A : Around} {R : Result -> Shared -> Prop} {s : Shared}
theorem ziu {elt tg iter : Expr} {ifs : List Expr} {scope : Scope} {pos : Pos} {it acc : Value} {env : Env} (W : Nat -> Shared -> Prop)
  (turn : ∀ n s, W n s -> ∀ E', wpAny (model prog w) A (pyNext it) (fun r s1 => match r with
   | none => R (.ok .next) s1
   | some v => wpAny (model prog w) A (letOwnedTupleGo tg it v) (fun _ s2 => wpAny (model prog w) A (assign tg env v) (fun _ s3 =>
     wpAny (model prog w) A (forIn ifs true fun c r => if r = true then do let ok <- isTrue c env (eval c env); pure (ForInStep.yield ok) else pure (ForInStep.yield r)) (fun ok s4 =>
      if ok = true then wpAny (model prog w) A (eval elt env) (fun x s5 => wpAny (model prog w) A (call (.builtin "list.append") [acc, x]) (fun _ s6 => ∃ m, m < n /\ W m s6) E' s5) E' s4
      else ∃ m, m < n /\ W m s4) E' s3) E' s2) E' s1) E' s)
  (n : Nat) (h : W n s) : codeAny (model prog w) A (.compLoop (.ListComp elt [⟨tg, iter, ifs, 0⟩] scope pos) 0 it acc env) R s := by
 refine codeAny_loop rfl W (fun n s hW => ?_) n h
 show wpAny _ A ((compTurn (.ListComp elt [⟨tg, iter, ifs, 0⟩] scope pos) 0 it acc env).onRaise (fun x => do noteFrame x env; theTreesLotGoes x)) _ _ s
 refine wpAny_noted ?_
 rw [compTurn_list]
 refine wpAny_bind (wpAny_standAt (wpAny_bind (thn (turn n s hW _) fun r s1 h1 => ?_)))
 cases r with
 | none => exact wpAny_pure h1
 | some v =>
  refine wpAny_bind (thn h1 fun _ s2 h2 => wpAny_bind (thn h2 fun _ s3 h3 => wpAny_bind (thn h3 fun ok s4 h4 => ?_)))
  cases ok with
  | false => exact wpAny_pure ⟨rfl, h4⟩
  | true => exact wpAny_bind (wpAny_bind (thn h4 fun x s5 h5 => wpAny_bind (thn h5 fun _ s6 h6 => wpAny_pure (wpAny_pure ⟨rfl, h6⟩))))
end
section
variable {X : Cx} {pins : List (Addr × Obj)} {O : St} {H2 : Hp} {s2 : Shared} {scope : Scope} {NY : List Str} {k : Nat} {C D : Addr} {fp : List Addr}
theorem zwd (I2 : Inv X pins O H2 s2) (lc : LC X k scope NY) (hf : ∀ b ∈ fp, zke X pins H2 b) (hfl : ∀ b ∈ fp, b < s2.heap.objs.size) (hC : s2.heap.objs.size <= C) : (zdG X scope NY s2 H2 C fp).Ok := by
 have hfree : ∀ x ∈ scope.names, x.2 = .free -> ∃ c, X.env.cells.lookup x.1 = some c := fun x hx e => I2.ok.has x.1 (lc.free x hx e)
 have sub : ∀ x c, (zs4 X.env scope.names).lookup x = some c -> X.env.cells.lookup x = some c := zhL scope.names [] hfree (fun y c e => by simp at e)
 refine ⟨I2.ok.mod, ?_, I2.ok.glob, I2.ok.blt, hC, fun x y c e1 e2 => I2.ok.inj x y c (sub x c e1) (sub y c e2), fun x hx => ?_, fun x c z => absurd z (by show ¬ (false = true); decide), I2.ok.hd, I2.ok.frames, .inl rfl, fun b hb => ⟨xam (xak (hfl b hb) hC), fun x c e => (hf b hb).2.2.2.2.1 x c (sub x c e)⟩,
  I2.bs, xa6 I2.ok.bsz I2.sz, fun b o e hb => ?_, fun b hb z => ?_, I2.stack, I2.stkFree⟩
 ·show (relabel scope X.env).kind = .function
  exact lc.kind
 ·have hx : (relabel scope X.env).names.lookup x = some .cell \/ (relabel scope X.env).names.lookup x = some .free := hx
  have key : scope.names.lookup x = some .free := by
   rcases hx with hx | hx
   ·rcases zbh (scope := scope) hx with z | ⟨_, z⟩
    ·exact absurd rfl (lc.cells _ (PySem.mem_of_lookup z))
    ·exact z
   ·rcases zbh (scope := scope) hx with z | ⟨_, z⟩
    ·exact z
    ·exact z
  exact zf1 scope.names [] x (.inr (PySem.mem_of_lookup key))
 ·have q : b ∈ X.ex \/ X.s₀.heap.objs.size <= b := (hf b hb).2.2.2.1
  rcases q with q | q
  ·exact I2.ok.noex b o e q
  ·exact absurd (xak (xab e) (xa6 I2.ok.bsz q)) (xbn _)
 ·rcases xaf.mp (I2.stkSub b z) with e | e
  ·exact (hf b hb).2.1 e
  ·exact (hf b hb).2.2.1 e
theorem zo3 {h1 : Heap} {tk : Nat} {m : Str -> Option Value} {oD : Obj} (I2 : Inv X pins O H2 s2) (lc : LC X k scope NY) (hf : ∀ b ∈ fp, zke X pins H2 b) (hfl : ∀ b ∈ fp, b < s2.heap.objs.size) (hC : s2.heap.objs.size <= C) (hD : s2.heap.objs.size <= D) (hDC : D ≠ C)
  (old : ∀ b o, s2.heap.get? b = some o -> h1.get? b = some o) (hn : h1.Ns C m) (ho : h1.get? D = some oD) (hoD : ∀ v, oD.data ≠ .cell v) :
  Inv (zdG X scope NY s2 H2 C fp) [(D, oD)] (List.replicate k none ++ O) H2 { s2 with heap := h1, toks := tk } := by
 have hfree : ∀ x ∈ scope.names, x.2 = .free -> ∃ c, X.env.cells.lookup x.1 = some c := fun x hx e => I2.ok.has x.1 (lc.free x hx e)
 have sub : ∀ x c, (zs4 X.env scope.names).lookup x = some c -> X.env.cells.lookup x = some c := zhL scope.names [] hfree (fun y c e => by simp at e)
 have hny := lc.ny
 unfold zwa at hny
 simp only [xay, beq_iff_eq, xa1, Bool.or_eq_true, bne_iff_ne, ne_eq] at hny
 obtain ⟨hlen, hz⟩ := hny
 refine ⟨zwd I2 lc hf hfl hC, rfl, I2.bare, Un.kept old, ⟨m, hn, fun i x v e1 e2 e3 => ?_⟩, fun x c e => ?_, I2.hok.fresh hC, fun x c e => I2.freeC x c (sub x c e), fun p hp => ?_, I2.hok.kept old, ?_⟩
 ·have e1 : NY[i]? = some x := e1
  have hik : k <= i := by
   refine Nat.le_of_not_lt fun z => ?_
   rw [xb3 (by simpa using z), xcr, if_pos z] at e2
   cases e2
  rw [xcd (by simpa using hik), xc2] at e2
  have hi2 : i - k < X.N.length := by
   rw [<- I2.len]; exact (xaj.mp e2).1
  obtain ⟨y, ey⟩ : ∃ y, X.N[i - k]? = some y := ⟨_, xao hi2⟩
  have em : (x, y) ∈ (NY.drop k).zip X.N := by
   refine xbe (i := i - k) ?_
   rw [List.getElem?_zip_eq_some]
   refine ⟨?_, ey⟩
   rw [List.getElem?_drop, show k + (i - k) = i by omega]; exact e1
  have e3 : Vis (relabel scope X.env) x := e3
  have kf : scope.names.lookup x = some .free := by
   have kk : ∃ q, scope.names.lookup x = some q := by
    rcases e3 with z | z | z <;> rcases zbh (scope := scope) z with z | ⟨_, z⟩ <;> exact ⟨_, z⟩
   have zz := hz (x, y) em
   have nl : scope.names.lookup x ≠ some .local := by
    rcases zz with zz | zz
    ·obtain ⟨q, hq⟩ := kk
     have zz : (scope.names.lookup x).isNone = true := zz
     rw [hq] at zz; cases zz
    ·exact zz.2
   rcases e3 with z | z | z <;> rcases zbh (scope := scope) z with z | ⟨_, z⟩
   ·exact absurd z nl
   ·exact z
   ·exact absurd rfl (lc.cells _ (PySem.mem_of_lookup z))
   ·exact z
   ·exact z
   ·exact z
  have exy : x = y := by
   rcases hz (x, y) em with zz | zz
   ·have zz : (scope.names.lookup x).isNone = true := zz
    rw [kf] at zz; cases zz
   ·exact zz.1
  subst exy
  obtain ⟨mX, hnX, hlX⟩ := I2.loc
  have hk := lc.free (x, .free) (PySem.mem_of_lookup kf) rfl
  have hk : X.env.kindOf x = some .cell \/ X.env.kindOf x = some .free := hk
  obtain ⟨u, ru, lu⟩ := hlX (i - k) x v ey e2 (.inr hk)
  refine ⟨u, ru, ?_⟩
  rcases lu with ⟨z, _⟩ | ⟨_, c, hc, hcell⟩
  ·rcases hk with q | q <;> rw [q] at z <;> cases z
  ·obtain ⟨c', hc'⟩ := zf1 (env := X.env) scope.names [] x (.inr (PySem.mem_of_lookup kf))
   have : c' = c := by
    have q := sub x c' hc'
    rw [hc] at q; exact (Option.some.inj q).symm
   subst this
   refine .inr ⟨?_, c', hc', hcell.keeps old⟩
   show (relabel scope X.env).names.lookup x = some .cell \/ (relabel scope X.env).names.lookup x = some .free
   rcases e3 with z | z
   ·rcases zbh (scope := scope) z with z | ⟨z, _⟩
    ·rw [kf] at z; cases z
    ·cases z
   ·exact z
 ·obtain ⟨v, z⟩ := I2.cell x c (sub x c e)
  exact ⟨v, z.keeps old⟩
 ·have e : p = (D, oD) := by simpa [zdG] using hp
  subst e
  refine ⟨ho, I2.hok.fresh hD, hDC, fun z => ?_, hoD⟩
  have z : D ∈ frs X.stack := z
  rcases xaf.mp (I2.stkSub D z) with q | q
  ·exact absurd (xak I2.lt hD) (by rw [q]; exact xbn _)
  ·exact I2.nofs hD q
 ·show (List.replicate k none ++ O).length = NY.length
  rw [hlen, xby, xc2, I2.len]
theorem ztN {H4 : Hp} {s4 : Shared} {O' : St} {ys : List V} {us : List Value} (I2 : Inv X pins O H2 s2) (hf : ∀ b ∈ fp, zke X pins H2 b) (hC : s2.heap.objs.size <= C) (hD : s2.heap.objs.size <= D)
  (I4 : Inv (zdG X scope NY s2 H2 C fp) [(D, LCg.lst us)] O' H4 s4) (rv : zbg ys us) (hz : ys.length <= sizeLine) : Inv X pins O (upd H4 D (.lst ys)) s4 := by
 obtain ⟨pD, nD, neD, nfD, dD⟩ := I4.pin (D, LCg.lst us) (by simp)
 have u0 : Un (frs X.stack) fp H2 H4 s2.heap s4.heap := I4.base
 have neb : ∀ b o, s2.heap.get? b = some o -> b ≠ D := fun b o e => xam (xak (xab e) hD)
 have hok : HOk X.prog X.w (upd H4 D (.lst ys)) s4.heap := fun b u e => by
  by_cases hb : b = D
  ·subst hb
   rw [zap] at e; cases e
   exact ⟨hz, us, us.length, rv, pD⟩
  ·rw [zam hb] at e
   exact (I4.hok b u e).stay (fun _ _ _ q => q) (fun c q => by rw [zam (zai q nD)]; exact q) fun c xs q => by rw [zam (zai q nD)]; exact q
 refine I2.call' (ch := fp) I4.os ⟨u0.keep, u0.slot, fun b o e n hx => ?_, u0.there, fun b xs q => ?_, fun b o u q => ?_, fun b ps q => ?_⟩ hok I4.bare fun b hb => ⟨(hf b hb).2.2.2.1, (hf b hb).2.1, (hf b hb).2.2.2.2.1, (hf b hb).2.2.2.2.2⟩
 ·rw [zam (neb b o e)]; exact u0.free b o e n hx
 ·have z := u0.tups b xs q
  rw [zam (zai z nD)]; exact z
 ·have z := u0.frzs b o u q
  rw [zam (zai z nD)]; exact z
 ·obtain ⟨more, z⟩ := u0.tbls b ps q
  exact ⟨more, by rw [zam (zai z nD)]; exact z⟩
end
theorem zqf {X : Cx} {tg elt iter : Expr} {ifs : List Expr} {scope : Scope} {pos : Pos} {NY : List Str} {k : Nat} {g : TG} {tc : TT} {te : TE} (hc : X.calm = true) (lc : LC X k scope NY)
  (hb : ∀ (s₀ : Shared) (H₀ : Hp) (C : Addr) (ex : List Addr), NY.Nodup -> PG (zdG X scope NY s₀ H₀ C ex) tg g /\ PTs (zdG X scope NY s₀ H₀ C ex) ifs tc /\ PE (zdG X scope NY s₀ H₀ C ex) elt te)
  {pins : List (Addr × Obj)} {O : St} {H2 : Hp} {s2 : Shared} {it : Addr} {fp : List Addr} {tn : Nat -> Heap -> Prop} {J : It} {RR : Value -> Addr -> Result -> Shared -> Prop} {E : Value -> Shared -> Prop} {Fin : List V -> Hp -> Prop}
  (I2 : Inv X pins O H2 s2) (T : zoV X.prog X.w X.K tg J fp it tn) (st2 : tn 0 s2.heap) (f2 : ∀ b ∈ fp, zke X pins H2 b) {W : Nat -> Nat -> List V -> Hp -> Prop} {m0 : Nat} (w0 : W 0 m0 [] H2)
  (turn : ∀ i m ys H, W i m ys H -> ys.length < sizeLine /\ ((J.stop i H /\ Fin ys H) \/ (J.go i H /\ ∃ N : List V -> Hp -> Prop, (∀ ys' H', N ys' H' -> ∃ m', m' < m /\ W (i + 1) m' ys' H') /\
   ∀ v H', J.yld i H v H' -> g v (List.replicate k none ++ O) H' fun O2 H2 => zrR (List.replicate k none ++ O) O2 /\ tc O2 H2 fun b H3 => if b = true then te O2 H3 fun y H4 => N (ys ++ [y]) H4 else N ys H3)))
  (fin : ∀ (C D : Addr) (H4 : Hp) (s4 : Shared) (ys : List V) (m : Str -> Option Value), s2.heap.objs.size <= C -> H4 D = none -> H4 C = none -> D ≠ C -> s4.heap.Ns C m -> Inv X pins O (upd H4 D (.lst ys)) s4 -> Fin ys H4 -> RR (.ref D) C (.ok .next) s4) :
  wpAny (model X.prog X.w) X.A (newList []) (fun acc s3 => wpAny (model X.prog X.w) X.A (newFunctionEnv scope X.env.globals (zs4 X.env scope.names) [] X.env.qual none .none (some X.env)) (fun cenv s4 =>
   codeAny (model X.prog X.w) X.A (.compStart (.ListComp elt [⟨tg, iter, ifs, 0⟩] scope pos) 0 (.ref it) acc { cenv with scope := relabel scope X.env }) (RR acc cenv.locals) s4) E s3) E s2 := by
 refine wpAny_newObj_type (wpAny_newFunctionEnv lc.cells (by intro y hy; simp at hy) (fun h1 hns1 hsb1 => ?_) lc.kind)
 dsimp only at hns1 hsb1 ⊢
 generalize hG : s2.heap.push { cls := .type "list", dict := none, data := .seq ([] : List Value).toArray } = G at hns1 hsb1 ⊢
 have hC : G.objs.size = s2.heap.objs.size + 1 := by rw [<- hG, xba]
 have hCle : s2.heap.objs.size <= G.objs.size := by omega
 have hDC : s2.heap.objs.size ≠ G.objs.size := by omega
 have hfl : ∀ b ∈ fp, b < s2.heap.objs.size := fun b hb => by obtain ⟨o, e, _⟩ := T.obj 0 _ st2 b hb; exact xab e
 have old : ∀ b o, s2.heap.get? b = some o -> h1.get? b = some o := fun b o e => by
  have lt := xab e
  refine hsb1.extBut b o (xam (xak lt hCle)) (xaa _ ?_)
  rw [<- hG]; exact xaa _ e
 have hacc : h1.get? s2.heap.objs.size = some (LCg.lst []) := by
  refine hsb1.extBut _ _ hDC (xaa _ ?_)
  rw [<- hG]; exact xar _ rfl
 have dl : ∀ (us : List Value) v, (LCg.lst us).data ≠ .cell v := fun us v z => by
  have z' : Data.seq us.toArray us.length = Data.cell v := z
  cases z'
 have I3 := zo3 (h1 := h1) (tk := s2.toks + ([] : List (Str × Value)).length) I2 lc f2 hfl hCle (xad _) hDC old hns1 hacc (dl [])
 have fpY : ∀ {us : List Value} {H' : Hp}, (∀ b ∈ fp, H' b = none) -> ∀ b ∈ fp, zke (zdG X scope NY s2 H2 G.objs.size fp) [(s2.heap.objs.size, LCg.lst us)] H' b := fun {us H'} hn b hb => by
  have lt := hfl b hb
  have okY := I3.ok
  refine ⟨hn b hb, (okY.exf b hb).1, okY.exfs b hb, .inl hb, (okY.exf b hb).2, fun p hp => ?_⟩
  have e : p = (s2.heap.objs.size, LCg.lst us) := by simpa [zdG] using hp
  subst e
  exact xbt lt
 obtain ⟨hg, ht, he⟩ := hb s2 H2 G.objs.size fp lc.nd
 have loop : ∀ s3 : Shared, s3 = { s2 with heap := h1, toks := s2.toks + ([] : List (Str × Value)).length } ->
   codeAny (model X.prog X.w) X.A (.compLoop (.ListComp elt [⟨tg, iter, ifs, 0⟩] scope pos) 0 (.ref it) (.ref s2.heap.objs.size) (compEnvC scope (zs4 X.env scope.names) G.objs.size X.env)) (RR (.ref s2.heap.objs.size) G.objs.size) s3 := by
  rintro s3 rfl
  refine ziu (fun n s' => ∃ i H' ys us, Inv (zdG X scope NY s2 H2 G.objs.size fp) [(s2.heap.objs.size, LCg.lst us)] (List.replicate k none ++ O) H' s' /\ zbg ys us /\ tn i s'.heap /\ (∀ b ∈ fp, H' b = none) /\ W i n ys H') ?_ m0
   ⟨0, H2, [], [], I3, .nil, T.keep _ _ _ st2 fun b _ o e => old b o e, fun b hb => (f2 b hb).1, w0⟩
  rintro n s3 ⟨i, H3, ys, us, I3, rv, st3, fr3, w3⟩ E'
  obtain ⟨hsz, hturn⟩ := turn i n ys H3 w3
  rcases hturn with ⟨stop, qn⟩ | ⟨go, N, hN, step⟩
  ·refine thn (T.done (zdG X scope NY s2 H2 G.objs.size fp) rfl rfl rfl hc i _ s3 _ H3 E' I3 (fpY fr3) st3 stop) fun r s4 ⟨hr, I4⟩ => ?_
   subst hr
   obtain ⟨m4, hn4, _⟩ := I4.loc
   exact fin _ _ H3 s4 ys m4 hCle (I4.pin (s2.heap.objs.size, LCg.lst us) (by simp)).2.1 I4.free hDC hn4 (ztN I2 f2 hCle (xad _) I4 rv (xco hsz)) qn
  ·refine thn (T.item (zdG X scope NY s2 H2 G.objs.size fp) rfl rfl rfl hc i _ s3 _ H3 E' I3 (fpY fr3) st3 go) fun r s4 ⟨u, hr, h4⟩ => ?_
   subst hr
   refine thn h4 fun _ s5 ⟨x, H5, I5, r5, y5, st5, fr5⟩ => ?_
   have I5' := I5.pinned (fpY fr5) (T.obj _ _ st5)
   refine zwc (hg _ s5 _ H5 x u _ I5' r5 (step x H5 y5)) fun _ s6 ⟨O6, H6, I6, sub6, q6⟩ => ?_
   have keep : ∀ {O7 : St} {H7 : Hp} {s7 : Shared}, Inv (zdG X scope NY s2 H2 G.objs.size fp) ([(s2.heap.objs.size, LCg.lst us)] ++ zif fp s5.heap) O7 H7 s7 -> tn (i + 1) s7.heap /\ (∀ b ∈ fp, H7 b = none) := fun {O7 H7 s7} I7 => by
    refine ⟨T.keep _ _ _ st5 fun b hb o e => (I7.pin (b, o) (xa5 _ (xa5 _ (zdY hb e)))).1, fun b hb => ?_⟩
    obtain ⟨o, e, d⟩ := T.obj _ _ st5 b hb
    exact (I7.pin (b, o) (xa5 _ (xa5 _ (zdY hb e)))).2.1
   refine zwc (ht _ s6 O6 H6 _ I6 q6) fun ok s7 ⟨H7, I7, q7⟩ => ?_
   cases ok with
   | false =>
    rw [if_neg xau] at q7 ⊢
    obtain ⟨m', hm, w7⟩ := hN _ _ q7
    obtain ⟨k1, k2⟩ := keep I7
    exact ⟨m', hm, i + 1, H7, ys, us, (I7.weak (by rw [I7.len, I5.len]) sub6.2).unpinned, rv, k1, k2, w7⟩
   | true =>
    rw [if_pos rfl] at q7 ⊢
    refine zwc (he _ s7 O6 H7 _ I7 q7) fun y s8 ⟨v, H8, I8, r8, q8⟩ => ?_
    obtain ⟨m', hm, w8⟩ := hN _ _ q8
    obtain ⟨k1, k2⟩ := keep I8
    obtain ⟨pD, nD, neD, nfD, dD⟩ := I8.pin (s2.heap.objs.size, LCg.lst us) (by simp)
    have hul : us.toArray.size <= sizeLine := by rw [xah, <- rv.length]; exact xco hsz
    refine append_at pD (fun h9 sb9 hD9 => ?_) hul
    have I8' : Inv (zdG X scope NY s2 H2 G.objs.size fp) [] (List.replicate k none ++ O) H8 s8 := (I8.weak (by rw [I8.len, I5.len]) sub6.2).pins_of fun p hp => absurd hp (by simp)
    have hDfp : s2.heap.objs.size ∉ fp := fun z => xbn _ (hfl _ z)
    have I9 : Inv (zdG X scope NY s2 H2 G.objs.size fp) [] (List.replicate k none ++ O) H8 { s8 with heap := h9 } :=
     I8'.turned (t' := s8.toks) (it := s2.heap.objs.size) (fun b o hb e => (sb9.2 b hb).trans e) nD neD (.inr (xad _)) (fun x c e z => by
      obtain ⟨v', o', e1, e2⟩ := I8.cell x c e
      rw [z, pD] at e1
      have e1' : LCg.lst us = o' := Option.some.inj e1
      rw [<- e1'] at e2
      exact dl us v' e2) (fun p hp => absurd hp (by simp [zdG]))
    refine ⟨m', hm, i + 1, H8, ys ++ [v], us ++ [y], I9.pins_of fun p hp => ?_, rv.append (.cons r8 .nil), T.keep _ _ _ k1 fun b hb o e => (sb9.2 b fun z => hDfp (z ▸ hb)).trans e, k2, w8⟩
    have e : p = (s2.heap.objs.size, LCg.lst (us ++ [y])) := by simpa using hp
    subst e
    exact ⟨hD9.trans (congrArg some (LCg.lst_snoc us y)), nD, neD, nfD, dl _⟩
 exact codeAny_compStart_list (loop _ rfl) (T.self _ 0 _ _ _ (T.keep _ _ _ st2 fun b _ o e => old b o e) (loop _ rfl))
section
variable {X : Cx} {tg elt iter : Expr} {ifs : List Expr} {scope : Scope} {pos : Pos} {NY : List Str} {k : Nat} {wi : TI} {g : TG} {tc : TT} {te : TE}
theorem zwe (hc : X.calm = true) (lc : LC X k scope NY) (hi : PI X tg iter wi)
  (hb : ∀ (s₀ : Shared) (H₀ : Hp) (C : Addr) (ex : List Addr), NY.Nodup -> PG (zdG X scope NY s₀ H₀ C ex) tg g /\ PTs (zdG X scope NY s₀ H₀ C ex) ifs tc /\ PE (zdG X scope NY s₀ H₀ C ex) elt te)
  (hs : ∀ x, foldedSetIterable iter X.env x = pure x := by intro _; rfl) : PE X (.ListComp elt [⟨tg, iter, ifs, 0⟩] scope pos) (tLC k wi g tc te) := by
 intro pins s O H Q I h
 rw [eval_ListComp]
 refine wpAny_comprehension_free (use := none) rfl hs (zmB fun x hx e => I.ok.has x.1 (lc.free x hx e)) lc.kind lc.names (thn (hi pins s O H _ I h) fun v s1 h1 => thn h1 fun itv s2 h2 => ?_)
 obtain ⟨it, fp, tn, J, H2, e, I2, T, st2, f2, W, ⟨m0, w0⟩, turn⟩ := h2
 subst e
 refine zqf (RR := fun acc C => compPost (model X.prog X.w) X.A X.xe none (EP X pins O Q) acc C) hc lc hb I2 T st2 f2 w0 turn fun C D H4 s4 ys m hC nD nC hDC hn I4 q => ?_
 refine ⟨m, hn, fun h' sb => ?_⟩
 have hCn : upd H4 D (.lst ys) C = none := by rw [zam (xax hDC)]; exact nC
 obtain ⟨f0, f1, f2', f3, f4, f5⟩ := I2.fpOk (H' := upd H4 D (.lst ys)) hC hCn
 exact ⟨.ref D, _, I4.turned (t' := s4.toks) (fun b o hb e => (sb.2 b hb).trans e) f0 f1 f3 f4 f5, rfl, q D nD⟩
theorem zwf {i : Nat} {y : Str} {py spos : Pos} (hc : X.calm = true) (hN : X.N.Nodup) (hi' : X.N[i]? = some y) (hy : X.env.kindOf y = some .local) (lc : LC X k scope NY) (hi : PI X tg iter wi)
  (hb : ∀ (s₀ : Shared) (H₀ : Hp) (C : Addr) (ex : List Addr), NY.Nodup -> PG (zdG X scope NY s₀ H₀ C ex) tg g /\ PTs (zdG X scope NY s₀ H₀ C ex) ifs tc /\ PE (zdG X scope NY s₀ H₀ C ex) elt te)
  (hsw : swapsWith (.ListComp elt [⟨tg, iter, ifs, 0⟩] scope pos) (some (.Name y py)) spos.line X.env = pure true := by rfl)
  (hs : ∀ x, foldedSetIterable iter X.env x = pure x := by intro _; rfl) : PS X (.Assign [.Name y py] (.ListComp elt [⟨tg, iter, ifs, 0⟩] scope pos) spos) (zry (tLC k wi g tc te) (zie i)) := by
 intro pins s O H D0 I h
 rw [exec_Assign_Name_used _ _ _ _ hsw]
 refine wpAny_bind (wpAny_standAt (wpAny_bind ?_))
 show wpAny _ X.A (do let _ <- comprehension (.ListComp elt [⟨tg, iter, ifs, 0⟩] scope pos) scope X.env _ (newList []) false (eval iter X.env) (some (assign (.Name y py) X.env))) _ _ s
 refine wpAny_bind (thn (wpAny_comprehension_free (use := some (assign (.Name y py) X.env)) (Q := fun _ s' => SP X pins D0 .next s') rfl hs (zmB fun x hx e => I.ok.has x.1 (lc.free x hx e)) lc.kind lc.names
  (thn (hi pins s O H _ I h) fun v s1 h1 => thn h1 fun itv s2 h2 => ?_)) fun _ s' q => wpAny_pure (wpAny_pure q))
 obtain ⟨it, fp, tn, J, H2, e, I2, T, st2, f2, W, ⟨m0, w0⟩, turn⟩ := h2
 subst e
 refine zqf (RR := fun acc C => compPost (model X.prog X.w) X.A X.xe (some (assign (.Name y py) X.env)) (fun _ s' => SP X pins D0 .next s') acc C) hc lc hb I2 T st2 f2 w0 turn fun C D H4 s4 ys m hC nD nC hDC hn I4 q => ?_
 have hCn : upd H4 D (.lst ys) C = none := by rw [zam (xax hDC)]; exact nC
 obtain ⟨f0, f1, f2', f3, f4, f5⟩ := I2.fpOk (H' := upd H4 D (.lst ys)) hC hCn
 obtain ⟨oC, es, ep, eC, dC, rC⟩ := id hn
 have I5 : Inv X (pins ++ [(C, oC)]) O (upd H4 D (.lst ys)) s4 := I4.pins_of fun p hp => by
  rcases xbd.mp hp with z | z
  ·exact I4.pin p (xa5 _ z)
  ·have e : p = (C, oC) := by simpa using z
   subst e
   exact ⟨eC, hCn, f1, f2', fun v z => by rw [show (C, oC).2.data = oC.data from rfl, dC] at z; cases z⟩
 show wpAny _ X.A (assign (.Name y py) X.env (.ref D)) _ _ _
 refine wpAny_assign_Name (zdX (v := .ref D) I5 hN hi' (.inl hy) rfl (fun s5 I6 => ?_) (.inr hy))
 refine ⟨m, ⟨oC, es, ep, (I6.pin (C, oC) (by simp)).1, dC, rC⟩, fun h' sb => ?_⟩
 exact ⟨_, _, I6.unpinned.turned (t' := s5.toks) (fun b o hb e => (sb.2 b hb).trans e) f0 f1 f3 f4 f5, q D nD⟩
end
end L2
namespace L2
open PySem.Spec PyProof.Rows
theorem zlJ {n k : Nat} (hk : 0 < k) (h : n < 2 ^ k) : n.log2 < k := by
 rcases Nat.eq_zero_or_pos n with h0 | hp
 ·rw [h0]; simpa using hk
 ·exact (Nat.log2_lt (xbt hp)).mpr h
section
variable {X : Cx}
theorem zo4 : OpR X (compareOp .Is) (fun x y H Q => ∃ a b, x = .bl a /\ y = .bl b /\ Q (.bl (a == b)) H) := by
 intro pins s O H x y v u Q I rx ry h
 obtain ⟨a, b, rfl, rfl, q⟩ := h
 cases rx
 cases ry
 exact is_bool (zig I q rfl)
theorem zjC : OpR X (compareOp .IsNot) (fun x y H Q => ∃ a b, x = .bl a /\ y = .bl b /\ Q (.bl (a != b)) H) := by
 intro pins s O H x y v u Q I rx ry h
 obtain ⟨a, b, rfl, rfl, q⟩ := h
 cases rx
 cases ry
 exact isnot_bool (zig I q rfl)
theorem zo5 (hc : X.calm = true) : zc0 X (.builtin "sum") (fun xs H Q => ∃ (p : Addr) (ns : List Int), xs = [.ref p] /\ SqL X.K H p (ns.map V.int) /\ Q (.int ns.sum) H) := by
 intro pins s O H xs us Q I r h
 obtain ⟨p, ns, rfl, hq, q⟩ := h
 obtain ⟨u, rfl, e⟩ := zhI r
 cases e
 obtain ⟨its, rv, pl, hz⟩ := I.list hq
 have hi := zlH rv
 obtain ⟨zs, e⟩ := hi.allInts.items
 have hl : s.heap.IsList p (intItems zs) := by rw [<- e]; exact pl.isList
 have hn : (zs.toList.map (·.1)) = ns := by
  have a1 := nums_intItems zs
  rw [<- e] at a1
  rw [show its.toArray.toList = its from rfl, hi.numsOf] at a1
  exact a1.symm
 refine sum_intListG (I.ok.hd hc) hl fun h' tk t' hk => ⟨.int ns.sum, H, I.kept hk, ⟨t', ?_⟩, q⟩
 rw [preSum_eq, List.take_of_length_le (by simp), hn]
def gLst (K : xFg) (n : Nat) (t : TGs) : TG := fun v O H Q => ∃ a xs, v = .ref a /\ SqL K H a xs /\ xs.length = n /\ t xs O H Q
theorem ztO {es : List Expr} {k : Nat} {t : TGs} {n : Nat} {pos : Pos} (hc : X.calm = true) (h : PGs X es t)
  (hn : (assignEach es X.env).length = n := by rfl) (hst : (assignEach es X.env).findIdx? (·.1) = none := by rfl) : PG X (.Tuple es k pos) (gLst X.K n t) := by
 intro pins s O H v u Q I r hw
 obtain ⟨a, xs, e1, hq, hl, hw⟩ := hw
 subst e1
 cases r
 obtain ⟨its, rv, pl, hz⟩ := I.list hq
 have hsz : (assignEach es X.env).length = its.toArray.size := by simp [hn, <- hl, rv.length]
 rw [assign_Tuple]
 refine wpAny_bind (wpAny_standAt ?_)
 unfold unpack
 rw [hsz, hst]
 refine wpAny_bind (wpAny_holding (PySem.W.kun_itemsOf (I.ok.hd hc) pl.isList fun h' hx => ?_))
 have I1 : Inv X pins O H { s with heap := h' } := I.kept (t' := s.toks) fun b o e => hx b o (xam (xab e)) e
 exact h pins _ O H xs _ Q I1 (by simpa using rv) hw
end
end L2
namespace Mth
theorem gcd_step (m n : Nat) : Nat.gcd n (m % n) = Nat.gcd m n := by
 rw [Nat.gcd_comm n (m % n), <- Nat.gcd_rec n m, Nat.gcd_comm]
structure zhM (s x y z x' y' z' : Int) : Prop where
 ne : s ≠ 0
 x : x = s * x'
 y : y = s * y'
 z : z = s * z'
theorem zhN {s x x' : Int} (h : s ≠ 0) (e : x = s * x') : x.fdiv s = x' := by
 rw [e]; exact Int.mul_fdiv_cancel_left x' h
theorem zeE {s x x' : Int} (h : s ≠ 0) (e : x = s * x') : x'.natAbs <= x.natAbs := by
 rw [e, xcp]
 exact Nat.le_mul_of_pos_left _ (by omega)
theorem zlK (x y z : Int) (h : ¬ (x = 0 /\ y = 0 /\ z = 0)) : ∃ x' y' z', zhM ((Nat.gcd (Nat.gcd x.natAbs y.natAbs) z.natAbs : Nat) : Int) x y z x' y' z' := by
 have d1 : (Nat.gcd (Nat.gcd x.natAbs y.natAbs) z.natAbs) ∣ x.natAbs := Nat.dvd_trans (xcy _ _) (xcy _ _)
 have d2 : (Nat.gcd (Nat.gcd x.natAbs y.natAbs) z.natAbs) ∣ y.natAbs := Nat.dvd_trans (xcy _ _) (Nat.gcd_dvd_right _ _)
 have d3 : (Nat.gcd (Nat.gcd x.natAbs y.natAbs) z.natAbs) ∣ z.natAbs := Nat.gcd_dvd_right _ _
 have n0 : Nat.gcd (Nat.gcd x.natAbs y.natAbs) z.natAbs ≠ 0 := by
  intro e
  rw [e] at d1 d2 d3
  exact h ⟨by have := xcs d1; omega, by have := xcs d2; omega, by have := xcs d3; omega⟩
 have c1 : ((Nat.gcd (Nat.gcd x.natAbs y.natAbs) z.natAbs : Nat) : Int) ∣ x := xc3.mp (by rw [xb8]; exact d1)
 have c2 : ((Nat.gcd (Nat.gcd x.natAbs y.natAbs) z.natAbs : Nat) : Int) ∣ y := xc3.mp (by rw [xb8]; exact d2)
 have c3 : ((Nat.gcd (Nat.gcd x.natAbs y.natAbs) z.natAbs : Nat) : Int) ∣ z := xc3.mp (by rw [xb8]; exact d3)
 obtain ⟨x', e1⟩ := c1
 obtain ⟨y', e2⟩ := c2
 obtain ⟨z', e3⟩ := c3
 exact ⟨x', y', z', by omega, e1, e2, e3⟩
theorem zhM.neg {s x y z x' y' z' : Int} (p : zhM s x y z x' y' z') : zhM (0 - s) x y z (-x') (-y') (-z') := by
 refine ⟨by have := p.ne; omega, ?_, ?_, ?_⟩
 ·rw [p.x, xc7, Int.neg_mul_neg]
 ·rw [p.y, xc7, Int.neg_mul_neg]
 ·rw [p.z, xc7, Int.neg_mul_neg]
theorem zf2 {a b B : Nat} (ha : a <= B) (hb : b <= B) : Nat.gcd a b <= B := by
 rcases Nat.eq_zero_or_pos a with h | h
 ·rw [h, Nat.gcd_zero_left]; exact hb
 ·exact xa6 (Nat.gcd_le_left b h) ha
end Mth
namespace L2
open PySem.Spec PyProof.Rows
theorem zo6 {H : Hp} {p : Addr} (h : H p = none) (o : HO) : zay H (upd H p o) := fun b u q => by rw [zam (zai q h)]; exact q
theorem zay.tup {K : xFg} {H H' : Hp} {a : Addr} {xs : List V} (e : zay H H') (h : SqT K H a xs) : SqT K H' a xs := by
 rcases h with (h | ⟨o, h⟩) | h
 ·exact .inl (.inl (e _ _ h))
 ·exact .inl (.inr ⟨o, e _ _ h⟩)
 ·exact .inr h
theorem zwg {n : Nat} (h : n <= 1000) : n <= sizeLine := xco (zmA h)
section
variable {K : xFg} {a : Addr} {xs : List V} {H : Hp}
theorem lgo (h : SqL K H a xs) : (Itl K a).stop xs.length H /\ ∀ i, i < xs.length -> (Itl K a).go i H /\ ∀ v H', (Itl K a).yld i H v H' -> H' = H /\ xs[i]? = some v :=
 ⟨⟨xs, h, xad _⟩, fun i hi => ⟨⟨xs, xs[i], h, by simp [hi]⟩, fun v H' y => ⟨y.1, y.2 xs h⟩⟩⟩
theorem tgo (h : SqT K H a xs) : (Itt K a).stop xs.length H /\ ∀ i, i < xs.length -> (Itt K a).go i H /\ ∀ v H', (Itt K a).yld i H v H' -> H' = H /\ xs[i]? = some v :=
 ⟨⟨xs, h, xad _⟩, fun i hi => ⟨⟨xs, xs[i], h, by simp [hi]⟩, fun v H' y => ⟨y.1, y.2 xs h⟩⟩⟩
end
end L2
namespace L2
open PySem.Spec PyProof.Rows
structure Fly (B : Heap) (l : List Env) (x : Addr) (cls : Value) (dct : Option Addr) (fl : Value) (h : Heap) : Prop where
 stays : B.StaysIn h
 new : B.get? x = none
 frames : h.FunFrames B l
 obj : ∃ ox vs T oT ts, h.get? x = some ox /\ ox.cls = cls /\ ox.dict = dct /\ ox.data = .fields vs /\ vs[1]? = some (.ref T) /\ B.get? T = none /\ T ≠ x /\ h.get? T = some oT /\ oT.data = .fields ts /\ ts[3]? = some fl
theorem zmC (o : Obj) (f : Array Value -> Array Value) : (o.mapFields f).dict = o.dict := by
 obtain ⟨c, d, dt, sl⟩ := o; cases dt <;> rfl
section
variable {M : Model} {A : Around} {E : Value -> Shared -> Prop} {s : Shared} {B : Heap} {env : Env} {outer : List Env} {L x : Addr} {Q : Unit -> Shared -> Prop}
theorem zcn {h : Heap} {y : Addr} {oy : Obj} {ws : Array Value} (ey : h.get? y = some oy) (dy : oy.data = .fields ws) {b : Addr} {o : Obj} (eb : h.get? b = some o) (nf : ∀ us, o.data ≠ .fields us) : b ≠ y := fun z => by
 rw [z, ey] at eb
 have z' : oy = o := Option.some.inj eb
 rw [<- z'] at nf
 exact nf ws dy
theorem ziv {ox : Obj} {vs : Array Value} {head : Value} {hadNext : Bool} (hfr : A.frames = some (env :: outer)) (hl : s.heap.FunFrames B (env :: outer)) (hf : env.frame = some L)
  (ex : s.heap.get? x = some ox) (hB : B.StaysIn s.heap) (nx : B.get? x = none) (dx : ox.data = .fields vs) (sz : 1 < vs.size)
  (k : ∀ h', Fly B (env :: outer) x ox.cls ox.dict (rawInt L) h' -> s.heap.UpToSlots h' -> Q () { s with heap := h' }) :
  wpAny M A (do let a <- frameOf env; let pl <- entryPlaceOf L hadNext; let b <- EntryCells.newEntry head a .none (rawInt L) .none pl; setField (.ref x) 1 b) Q E s := by
 have nfr : x ∉ (env :: outer).filterMap (·.frame) := fun hm => by
  obtain ⟨_, o, ho, nf⟩ := hl.mem hm
  exact zcn ex dx ho nf rfl
 refine wpAny_bind (wpAny_frameOf_fun hfr hl hf fun g1 so => wpAny_bind (wpAny_entryPlaceOf fun pl hpl => ?_))
 unfold EntryCells.newEntry newFields
 refine wpAny_bind (wpAny_newObj_type ?_ (hpl.sizeOk5 _ _ _ _ _))
 have ex1 : g1.get? x = some ox := (so.2.1 x nfr).trans ex
 have B1 : B.StaysIn g1 := fun b o eb => (so.2.1 b fun hm => by rw [(hl.mem hm).1] at eb; cases eb).trans (hB b o eb)
 generalize eo : ({ cls := .type "traceback", dict := none, data := .fields ([head, .ref L, .none, rawInt L, .none] ++ (if pl.isEmpty then List.replicate 6 Value.none else pl)).toArray } : Obj) = ob
 have ex2 := xaa (h := g1) ob ex1
 refine wpAny_setField ex2 dx sz (k _ ?_ ?_)
 ·have Tx : g1.objs.size ≠ x := xbt (xab ex1)
  have d3 := Obj.data_mapFields dx (·.setIfInBounds 1 (Value.ref g1.objs.size))
  have e3 := xb1 (Obj.mapFields (·.setIfInBounds 1 (Value.ref g1.objs.size))) ex2 (Obj.isFreed_of_fields d3)
  have freeOb : ob.isFreed = false := by rw [<- eo]; rfl
  have T3 := (xbg (g1.push ob) (Obj.mapFields (·.setIfInBounds 1 (Value.ref g1.objs.size))) (xax Tx)).trans (xar g1 freeOb)
  refine ⟨fun b o eb => ?_, nx, hl.of_keeps fun b o eb nf => ?_, _, _, g1.objs.size, ob, _, e3, Obj.cls_mapFields _ _, zmC _ _, d3, by simp [sz], B1.fresh, Tx, T3, by rw [<- eo], ?_⟩
  ·rw [xbg _ _ (fun z => by rw [<- z, nx] at eb; cases eb)]
   exact xaa _ (B1 b o eb)
  ·obtain ⟨sl, q⟩ := so.2.2 b o eb
   refine ⟨{ o with slots := sl }, ?_, rfl⟩
   rw [xbg _ _ (xax (zcn ex dx eb nf))]
   exact xaa _ q
  ·rcases hpl with rfl | ⟨_, _, _, _, _, _, _, rfl⟩ <;> simp
 ·intro b o eb nf
  obtain ⟨sl, q⟩ := so.2.2 b o eb
  refine ⟨sl, ?_⟩
  rw [xbg _ _ (xax (zcn ex dx eb nf))]
  exact xaa _ q
theorem zmD {ox : Obj} {vs : Array Value} (hfr : A.frames = some (env :: outer)) (hl : s.heap.FunFrames B (env :: outer)) (hf : env.frame = some L)
  (ex : s.heap.get? x = some ox) (hB : B.StaysIn s.heap) (nx : B.get? x = none) (dx : ox.data = .fields vs) (v1 : vs[1]? = some .none)
  (k : ∀ h', Fly B (env :: outer) x ox.cls ox.dict (rawInt L) h' -> s.heap.UpToSlots h' -> Q () { s with heap := h' }) : wpAny M A (noteFrame (.ref x) env) Q E s := by
 unfold noteFrame
 simp only [hf]
 refine wpAny_bind (wpAny_field ex dx v1 ?_)
 rw [if_neg (show ¬ ((Value.none != Value.none) = true) by decide)]
 exact ziv hfr hl hf ex hB nx dx (xa4.mp v1).1 k
theorem zki {cls : Value} {dct : Option Addr} (hfr : A.frames = some (env :: outer)) (hf : env.frame = some L) (F : Fly B (env :: outer) x cls dct .none s.heap)
  (k : ∀ h', Fly B (env :: outer) x cls dct (rawInt L) h' -> s.heap.UpToSlots h' -> Q () { s with heap := h' }) : wpAny M A (noteFrame (.ref x) env) Q E s := by
 obtain ⟨ox, vs, T, oT, ts, ex, hc, hd, dx, v1, nT, Tx, eT, dT, t3⟩ := F.obj
 subst hc hd
 unfold noteFrame
 simp only [hf]
 refine wpAny_bind (wpAny_field ex dx v1 ?_)
 rw [if_pos (show (Value.ref T != Value.none) = true by simp)]
 refine wpAny_bind (wpAny_field eT dT t3 ?_)
 rw [if_neg (show ¬ ((Value.none == rawInt L) = true) by simp [rawInt])]
 refine wpAny_bind (wpAny_setField eT dT (xa4.mp t3).1 ?_)
 have oth : ∀ b, b ≠ T -> (s.heap.update T (Obj.mapFields (·.setIfInBounds 3 Value.none))).get? b = s.heap.get? b := fun b hb => xbg _ _ (xax hb)
 have up : s.heap.UpToSlots (s.heap.update T (Obj.mapFields (·.setIfInBounds 3 Value.none))) := fun b o eb nf => ⟨o.slots, (oth b (zcn eT dT eb nf)).trans eb⟩
 refine ziv hfr (F.frames.of_keeps fun b o eb nf => ⟨o, (oth b (zcn eT dT eb nf)).trans eb, rfl⟩) hf ((oth x (xax Tx)).trans ex) (fun b o eb => (oth b fun z => by rw [z, nT] at eb; cases eb).trans (F.stays b o eb)) F.new dx
  (xa4.mp v1).1 fun h' f u => k h' f (up.trans u)
theorem zfI {l : List Env} {cls fl : Value} {dct : Option Addr} (F : Fly B l x cls dct fl s.heap)
  (k : ∀ h', Fly B l x cls dct .none h' -> s.heap.UpToSlots h' -> Q () { s with heap := h' }) : wpAny M A (setFlight (.ref x) none) Q E s := by
 obtain ⟨ox, vs, T, oT, ts, ex, hc, hd, dx, v1, nT, Tx, eT, dT, t3⟩ := F.obj
 have sz : 3 < ts.size := (xa4.mp t3).1
 unfold setFlight
 refine wpAny_bind (wpAny_field ex dx v1 ?_)
 rw [if_pos (show (Value.ref T != Value.none) = true by simp)]
 have oth : ∀ b, b ≠ T -> (s.heap.update T (Obj.mapFields (·.setIfInBounds 3 ((none : Option Addr).elim Value.none fun f => rawInt f)))).get? b = s.heap.get? b := fun b hb => xbg _ _ (xax hb)
 refine wpAny_setField eT dT sz (k _ ⟨fun b o eb => (oth b fun z => by rw [z, nT] at eb; cases eb).trans (F.stays b o eb), F.new, F.frames.of_keeps fun b o eb nf => ⟨o, (oth b (zcn eT dT eb nf)).trans eb, rfl⟩,
  ox, vs, T, _, _, (oth x (xax Tx)).trans ex, hc, hd, dx, v1, nT, Tx, xb1 _ eT (Obj.isFreed_of_fields (Obj.data_mapFields dT _)), Obj.data_mapFields dT _, by simp [sz]⟩
  fun b o eb nf => ⟨o.slots, (oth b (zcn eT dT eb nf)).trans eb⟩)
theorem Fly.out {cls : Value} {dct : Option Addr} {fl : Value} {h : Heap} (F : Fly B (env :: outer) x cls dct fl h) : Fly B outer x cls dct fl h := ⟨F.stays, F.new, F.frames.2.2, F.obj⟩
end
end L2
namespace L2
open PySem.Spec PyProof.Rows
theorem zdf.there {P : Program} {w : World} {H : Hp} {h : Heap} {a : Addr} {o : HO} (x : zdf P w H h a o) : ∃ ob, h.get? a = some ob := by
 cases o with
 | lst xs => obtain ⟨_, _, _, _, e⟩ := x; exact ⟨_, e⟩
 | tup xs => obtain ⟨_, _, _, ob, e, _⟩ := x; exact ⟨ob, e⟩
 | dK kvs => obtain ⟨_, _, _, _, o, _, _, e, _⟩ := x; exact ⟨o, e⟩
 | dT kvs => obtain ⟨_, _, _, _, o, _, _, e, _⟩ := x; exact ⟨o, e⟩
 | set S n => obtain ⟨o, _, _, _, e, _⟩ := x; exact ⟨o, e⟩
 | ins C dx fs => obtain ⟨_, _, _, e, _⟩ := x; exact ⟨_, e⟩
 | own y => exact x
 | xd fs => obtain ⟨_, ⟨o, _, _, e, _⟩, _⟩ := x; exact ⟨o, e⟩
 | rng lo hi => obtain ⟨_, _, _, e⟩ := x; exact ⟨_, e⟩
 | frz ob u => obtain ⟨e, _⟩ := x; exact ⟨_, e⟩
 | tbl ps => exact ⟨_, (show h.get? a = some _ from x)⟩
 | met f y => exact ⟨_, (show h.get? a = some _ from x)⟩
 | ext φ => exact x.2.1
structure InB (B : Heap) (fs : List Addr) (h0 : Heap) (H' : Hp) (h' : Heap) : Prop where
 old : ∀ b o, h0.get? b = some o -> b ∉ fs -> ∀ o', h'.get? b = some o' -> B.get? b = some o'
 trk : ∀ b u, H' b = some u -> ∀ o', h'.get? b = some o' -> B.get? b = some o'
def CXe (P : Program) (w : World) : CXT := fun outer H s E e s' => ∃ (x C : Addr) (dct : Option Addr) (H' : Hp) (B : Heap), e = .ref x /\ s'.os = s.os /\ AllBare s'.gens /\ Un (frs outer) [] H H' s.heap s'.heap /\ HOk P w H' s'.heap /\
 Fly B outer x (.ref C) dct .none s'.heap /\ InB B (frs outer) s.heap H' s'.heap /\ H' x = none /\ E (.ref C) dct H'
section
variable {X : Cx} {pins : List (Addr × Obj)} {O : St} {H H' : Hp} {s s' : Shared} {x C : Addr} {B : Heap} {E : XK} {dct : Option Addr} {M : Model} {EE : Value -> Shared -> Prop}
theorem zkj {env : Env} {outer : List Env} {L : Addr} (hf : env.frame = some L) : frs (env :: outer) = L :: frs outer := by
 unfold frs; rw [xci, hf]
theorem zlL {h' : Heap} {args : List Value} {tk : Nat} (I : Inv X pins O H s) (hst : X.stack = X.env :: X.outer) (hf : X.env.frame = some X.env.locals) (hex : X.ex = []) (m : Heap.MadeExcOf s.heap h' x (.ref C) args) (hE : E (.ref C) none H) :
  wpAny M X.A (leaving X.env (.ref x)) (fun _ s2 => CXe X.prog X.w X.outer X.H₀ X.s₀ E (.ref x) s2) EE { s with heap := h', toks := tk } := by
 have stk := I.stack
 have hfr : X.A.frames = some (X.env :: X.outer) := by rw [<- hst]; exact I.ok.frames
 rw [hst] at stk
 have fc : frs (X.env :: X.outer) = X.env.locals :: X.fs := zkj hf
 have hin : ∀ env ∈ (X.env :: X.outer), ∀ b, env.frame = some b -> b ∈ frs (X.env :: X.outer) := fun env he b hb => xbp.mpr ⟨env, he, hb⟩
 generalize eB : PySem.W.hideAll s.heap (frs (X.env :: X.outer)) = B
 have inB : ∀ b o, s.heap.get? b = some o -> b ∉ frs (X.env :: X.outer) -> B.get? b = some o := fun b o e n => by rw [<- eB]; exact PySem.W.hideAll_get _ e n
 have ofB : ∀ b o, B.get? b = some o -> s.heap.get? b = some o := fun b o e => by rw [<- eB] at e; exact PySem.W.of_hideAll _ e
 have fl0 : s.heap.FunFrames B (X.env :: X.outer) := by rw [<- eB]; exact PySem.W.funFrames_hide stk hin
 have nx : B.get? x = none := by
  cases q : B.get? x with
  | none => rfl
  | some o => have := ofB x o q; rw [m.new] at this; cases this
 obtain ⟨t, et, _, _⟩ := m.there
 have tfree : ∀ b u, H b = some u -> b ∉ frs (X.env :: X.outer) := fun b u e hb => by
  have := I.stkFree b (by rw [hst]; exact hb)
  rw [e] at this; cases this
 have hHx : H x = none := by
  cases q : H x with
  | none => rfl
  | some u =>
   obtain ⟨ob, e⟩ := (I.hok x u q).there
   rw [m.new] at e; cases e
 unfold leaving
 refine wpAny_bind (zmD (s := { s with heap := h', toks := tk }) hfr (fl0.of_keeps fun b o e _ => ⟨o, m.keeps b o e, rfl⟩) hf et (fun b o e => m.keeps b o (ofB b o e)) nx rfl rfl fun h1 F1 u1 => zfI F1 fun h2 F2 u2 => ?_)
 have up : s.heap.UpToSlots h2 := (Heap.UpToSlots.of_keeps m.keeps).trans (u1.trans u2)
 have keep2 : ∀ b o, s.heap.get? b = some o -> b ∉ frs (X.env :: X.outer) -> h2.get? b = some o := fun b o e n => F2.stays b o (inB b o e n)
 have below : ∀ b o, X.s₀.heap.get? b = some o -> b ∉ X.fs -> b ∉ frs (X.env :: X.outer) := fun b o e nb hb => by
  rw [fc] at hb
  rcases xaf.mp hb with z | z
  ·exact absurd (xak (xab e) I.ok.above) (by rw [z]; exact xbn _)
  ·exact nb z
 have noex : ∀ b, b ∉ X.ex := fun b z => by rw [hex] at z; cases z
 have slot2 : ∀ b o, s.heap.get? b = some o -> b ∈ X.fs -> ∃ sl, h2.get? b = some { o with slots := sl } := fun b o e hb => by
  obtain ⟨_, o1, e1, nf⟩ := stk.mem (b := b) (by show b ∈ frs (X.env :: X.outer); rw [fc]; exact xae _ hb)
  rw [e] at e1; cases e1
  exact up b o e nf
 refine ⟨x, C, none, H, B, rfl, I.os, I.bare, ⟨fun b o e n hb _ => keep2 b o (I.base.keep b o e n hb (noex b)) (below b o e hb), fun b o e n hb _ => ?_, fun b o e n _ => I.base.free b o e n (noex b), fun b o e _ => ?_, I.base.tups, I.base.frzs, I.base.tbls⟩,
  fun b u e => (I.hok b u e).stay (fun c v hc q => keep2 c v q ?_) (fun _ q => q) fun _ _ q => q, F2.out, ⟨fun b o e nb o' e' => ?_, fun b u e o' e' => ?_⟩, hHx, hE⟩
 ·obtain ⟨sl, e1⟩ := I.base.slot b o e n hb (noex b)
  obtain ⟨sl2, e2⟩ := slot2 b _ e1 hb
  exact ⟨sl2, e2⟩
 ·obtain ⟨o1, e1⟩ := I.base.there b o e (noex b)
  by_cases hb : b ∈ X.fs
  ·obtain ⟨sl2, e2⟩ := slot2 b _ e1 hb
   exact ⟨_, e2⟩
  ·exact ⟨o1, keep2 b o1 e1 (below b o e hb)⟩
 ·rcases hc with z | z
  ·rw [z]; exact tfree b u e
  ·exact tfree c _ z
 ·obtain ⟨o1, e1⟩ := I.base.there b o e (noex b)
  have q := inB b o1 e1 (below b o e nb)
  rw [F2.stays b o1 q] at e'
  cases e'; exact q
 ·obtain ⟨o1, e1⟩ := (I.hok b u e).there
  have q := inB b o1 e1 (tfree b u e)
  rw [F2.stays b o1 q] at e'
  cases e'; exact q
theorem zo7 {e : Value} (I : Inv X pins O H s) (hst : X.stack = X.env :: X.outer) (hf : X.env.frame = some X.env.locals) (hex : X.ex = []) (h : CXe X.prog X.w X.stack H s E e s') :
  wpAny M X.A (leaving X.env e) (fun _ s2 => CXe X.prog X.w X.outer X.H₀ X.s₀ E e s2) EE s' := by
 obtain ⟨x, C, dct, H', B, rfl, ho, hg, un, hok, F, ib, nx, hE⟩ := h
 have stk := I.stack
 have hfr : X.A.frames = some (X.env :: X.outer) := by rw [<- hst]; exact I.ok.frames
 rw [hst] at stk F ib un
 have fc : frs (X.env :: X.outer) = X.env.locals :: X.fs := zkj hf
 unfold leaving
 refine wpAny_bind (zki hfr hf F fun h1 F1 u1 => zfI F1 fun h2 F2 u2 => ?_)
 have up : s'.heap.UpToSlots h2 := u1.trans u2
 have below : ∀ b o, X.s₀.heap.get? b = some o -> b ∉ X.fs -> b ∉ frs (X.env :: X.outer) := fun b o e nb hb => by
  rw [fc] at hb
  rcases xaf.mp hb with z | z
  ·exact absurd (xak (xab e) I.ok.above) (by rw [z]; exact xbn _)
  ·exact nb z
 have inFs : ∀ b, b ∈ X.fs -> b ∈ frs (X.env :: X.outer) := fun b hb => by rw [fc]; exact xae _ hb
 have noex : ∀ b, b ∉ X.ex := fun b z => by rw [hex] at z; cases z
 have no0 : ∀ b : Addr, b ∉ ([] : List Addr) := fun b => by simp
 have slot2 : ∀ b o, s.heap.get? b = some o -> H b = none -> b ∈ X.fs -> ∃ sl, h2.get? b = some { o with slots := sl } := fun b o e n hb => by
  obtain ⟨_, o1, e1, nf⟩ := stk.mem (b := b) (inFs b hb)
  rw [e] at e1; cases e1
  obtain ⟨sl, e2⟩ := un.slot b o e n (inFs b hb) (no0 b)
  obtain ⟨sl2, e3⟩ := up b _ e2 nf
  exact ⟨sl2, e3⟩
 have free1 : ∀ b o, X.s₀.heap.get? b = some o -> X.H₀ b = none -> H b = none := fun b o e n => I.base.free b o e n (noex b)
 refine ⟨x, C, dct, H', B, rfl, ho.trans I.os, hg, ⟨fun b o e n hb _ => ?_, fun b o e n hb _ => ?_, fun b o e n _ => ?_, fun b o e _ => ?_, fun b xs q => un.tups b xs (I.base.tups b xs q), fun b o u q => un.frzs b o u (I.base.frzs b o u q), fun b ps q => ?_⟩,
  fun b u e => (hok b u e).stay (fun c v hc q => F2.stays c v ?_) (fun _ q => q) fun _ _ q => q, F2.out, ⟨fun b o e nb o' e' => ?_, fun b u e o' e' => ?_⟩, nx, hE⟩
 ·have e1 := I.base.keep b o e n hb (noex b)
  have e2 := un.keep b o e1 (free1 b o e n) (below b o e hb) (no0 b)
  exact F2.stays b o (ib.old b o e1 (below b o e hb) o e2)
 ·obtain ⟨sl, e1⟩ := I.base.slot b o e n hb (noex b)
  obtain ⟨sl2, e2⟩ := slot2 b _ e1 (free1 b o e n) hb
  exact ⟨sl2, e2⟩
 ·obtain ⟨o1, e1⟩ := I.base.there b o e (noex b)
  exact un.free b o1 e1 (free1 b o e n) (no0 b)
 ·obtain ⟨o1, e1⟩ := I.base.there b o e (noex b)
  obtain ⟨o2, e2⟩ := un.there b o1 e1 (no0 b)
  by_cases hb : b ∈ X.fs
  ·have n : H b = none := I.stkFree b (by rw [hst]; exact inFs b hb)
   obtain ⟨sl2, e3⟩ := slot2 b _ e1 n hb
   exact ⟨_, e3⟩
  ·exact ⟨o2, F2.stays b o2 (ib.old b o1 e1 (below b o e hb) o2 e2)⟩
 ·obtain ⟨m1, e1⟩ := I.base.tbls b ps q
  obtain ⟨m2, e2⟩ := un.tbls b _ e1
  exact ⟨m1 ++ m2, by rw [e2, Array.append_assoc]⟩
 ·rcases hc with z | z
  ·subst z; exact ib.trk c u e v q
  ·exact ib.trk c _ z v q
 ·obtain ⟨o1, e1⟩ := I.base.there b o e (noex b)
  obtain ⟨o2, e2⟩ := un.there b o1 e1 (no0 b)
  have q := ib.old b o1 e1 (below b o e nb) o2 e2
  rw [F2.stays b o2 q] at e'
  cases e'; exact q
 ·obtain ⟨o1, e1⟩ := (hok b u e).there
  have q := ib.trk b u e o1 e1
  rw [F2.stays b o1 q] at e'
  cases e'; exact q
def zoM (x C : Addr) (dct : Option Addr) : HO := .ext fun h => ∃ o, h.get? x = some o /\ o.cls = .ref C /\ o.dict = dct /\ PySem.W.notCls o = true
theorem zg9 {h3 : Heap} {tk : Nat} (I : Inv X pins O H s) (ho : s'.os = s.os) (hg : AllBare s'.gens) (un : Un (frs X.stack) [] H H' s.heap s'.heap) (hok : HOk X.prog X.w H' s'.heap) (F : Fly B X.stack x (.ref C) dct .none h3)
  (ib : InB B (frs X.stack) s.heap H' s'.heap) (up : s'.heap.UpToSlots h3) (nx : H' x = none) : Inv X pins O (upd H' x (zoM x C dct)) { s' with heap := h3, toks := tk } := by
 have stk := I.stack
 have no0 : ∀ b : Addr, b ∉ ([] : List Addr) := fun b => by simp
 have nex : ∀ b o, s.heap.get? b = some o -> b ∉ frs X.stack -> b ≠ x := fun b o e nb z => by
  obtain ⟨o2, e2⟩ := un.there b o e (no0 b)
  have q := ib.old b o e nb o2 e2
  rw [z, F.new] at q; cases q
 have nfx : ∀ b, b ∈ frs X.stack -> b ≠ x := fun b hb z => by
  obtain ⟨_, o1, e1, nf⟩ := F.frames.mem (b := b) hb
  obtain ⟨ox, vs, T, oT, ts, ex, _, _, dx, _⟩ := F.obj
  rw [z, ex] at e1; cases e1
  exact nf vs dx
 have ne : ∀ b o, s.heap.get? b = some o -> b ≠ x := fun b o e => by
  by_cases hb : b ∈ frs X.stack
  ·exact nfx b hb
  ·exact nex b o e hb
 have hok3 : HOk X.prog X.w (upd H' x (zoM x C dct)) h3 := fun b u e => by
  by_cases hb : b = x
  ·subst hb
   rw [zap] at e; cases e
   obtain ⟨ox, vs, T, oT, ts, ex, hc, hd, dx, _⟩ := F.obj
   have nc : PySem.W.notCls ox = true := by unfold PySem.W.notCls; rw [dx]
   exact ⟨⟨ox, ex, hc, hd, nc⟩, ⟨ox, ex⟩, fun h1 h2 ⟨o, q, r⟩ k => ⟨o, k o q, r⟩⟩
  ·rw [zam hb] at e
   refine (hok b u e).stay (fun c v hc q => F.stays c v ?_) (fun c q => by rw [zam (zai q nx)]; exact q) fun c xs q => by rw [zam (zai q nx)]; exact q
   rcases hc with z | z
   ·subst z; exact ib.trk c u e v q
   ·exact ib.trk c _ z v q
 have U : Un (frs X.stack) [] H (upd H' x (zoM x C dct)) s.heap h3 := by
  refine ⟨fun b o e n hb _ => ?_, fun b o e n hb _ => ?_, fun b o e n _ => ?_, fun b o e _ => ?_, fun b xs q => ?_, fun b o u q => ?_, fun b ps q => ?_⟩
  ·exact F.stays b o (ib.old b o e hb o (un.keep b o e n hb (no0 b)))
  ·obtain ⟨sl, e1⟩ := un.slot b o e n hb (no0 b)
   obtain ⟨_, o1, e2, nf⟩ := stk.mem (b := b) hb
   rw [e] at e2; cases e2
   obtain ⟨sl2, e3⟩ := up b _ e1 nf
   exact ⟨sl2, e3⟩
  ·rw [zam (ne b o e)]; exact un.free b o e n (no0 b)
  ·obtain ⟨o2, e2⟩ := un.there b o e (no0 b)
   by_cases hb : b ∈ frs X.stack
   ·have n : H b = none := I.stkFree b hb
    obtain ⟨sl, e1⟩ := un.slot b o e n hb (no0 b)
    obtain ⟨_, o1, e3, nf⟩ := stk.mem (b := b) hb
    rw [e] at e3; cases e3
    obtain ⟨sl2, e4⟩ := up b _ e1 nf
    exact ⟨_, e4⟩
   ·exact ⟨o2, F.stays b o2 (ib.old b o e hb o2 e2)⟩
  ·have z := un.tups b xs q
   rw [zam (zai z nx)]; exact z
  ·have z := un.frzs b o u q
   rw [zam (zai z nx)]; exact z
  ·obtain ⟨more, z⟩ := un.tbls b ps q
   exact ⟨more, by rw [zam (zai z nx)]; exact z⟩
 have J := I.call (g' := s'.gens) (t' := tk) (d' := s'.drawn) (ch := []) U hok3 hg (fun b z => absurd z (no0 b))
 obtain ⟨hh, g, d, t, os⟩ := s'
 have e : os = s.os := ho
 subst e
 exact J
end
end L2
namespace L2
open PySem.Spec PyProof.Rows PySem.W
section
variable {prog : Program} {w : World} {A : Around} {E : Value -> Shared -> Prop} {s : Shared} {K : Frag} {x D : Addr} {ox : Obj} {od : Option Obj} {name : Str} {tk : Tok}
theorem zmE {M : Model} {nameV : Value} {Q : Unit -> Shared -> Prop} (X : K.In s.heap) (I : InstAt s.heap x ox D od) (hb : mroIn K D (.type "BaseException") = some true) (hq : Q () s) :
  wpAny M A (checkBuiltinCall "BaseException.__getattribute__" ⟨[.ref x, nameV], []⟩) Q E s := by
 have hk : builtinKind "BaseException.__getattribute__" = some .slot := by decide +kernel
 have hsp : splitId "BaseException.__getattribute__" = some ("BaseException", "__getattribute__") := by decide +kernel
 have ha := F.args_bexc_ga (.ref x) nameV
 obtain ⟨hh, g, d, t, os⟩ := s
 have L0 : Looks M hh (isInstance (.ref x) (.type "BaseException")) true := (I.type (M := M)).andThen (looks_mroIn X hb)
 simp only [checkBuiltinCall, hk, hsp]
 refine wpAny_bind (L0.at ?_)
 repeat (any_goals (first | assumption | wp_step))
theorem ztP {R : Result -> Shared -> Prop} {g a : Value} (X : K.In s.heap) (I : InstAt s.heap x ox D od) (hb : mroIn K D (.type "BaseException") = some true) (hf : findObj K D od name = some (.bind g a))
  (h : wpAny (model prog w) A.in1 (call g [a, .ref x, .ref D]) (fun v s' => R (.ok (.ret v)) s') (fun e s' => R (.error e) s') s) :
  codeAny (model prog w) A (.call (.builtin "BaseException.__getattribute__") ⟨[.ref x, .str name tk], []⟩) R s := by
 refine codeAny_call_builtin F.attr_ValueError.ga.plain F.entry_bexc_ga (zmE X I hb ?_)
 obtain ⟨hh, gg, d, t, os⟩ := s
 have L0 := I.type (M := model prog w)
 have L1 := looks_find (M := model prog w) X I hf
 unfold Builtin.«object.__getattribute__»
 refine wpAny_bind (wpAny_of_eq (a := (Value.ref x, [Value.str name tk])) rfl ?_)
 refine wpAny_bind (wpAny_of_eq (a := name) rfl ?_)
 refine wpAny_bind (L0.at (wpAny_bind (L1.at ?_)))
 show wpAny _ _ (do ret (<- holding [a] (call g [a, Value.ref x, Value.ref D]))) _ _ _
 exact wpAny_bind (wpAny_holding (wpAny_mono h (fun v s' q => wpAny_pure q) fun e s' q => q))
theorem ziw {a g : Value} (hc : (clsIn K D).isSome = true) (ha : findIn K (.ref D) name = some (some a)) (hg : specialIn K a "__get__" = some (some g)) (ht : takesIn K a = some true) : findObj K D od name = some (.bind g a) := by
 obtain ⟨cd, hc⟩ := xbb.mp hc
 unfold findObj
 rw [hc, Option.bind_some, ha, Option.bind_some]
 simp [hg, ht]
structure zs5 (K : Frag) (D : Addr) : Prop where
 cls : (clsIn K D).isSome = true
 ga : findIn K (.ref D) "__getattribute__" = some (some (.builtin "BaseException.__getattribute__"))
 gh : findIn K (.ref D) "__getattr__" = some none
 base : mroIn K D (.type "BaseException") = some true
 obj : mroIn K D (.type "object") = some true
 ca : findIn K (.ref D) "__class__" = some (some (.builtin "object.__class__"))
 cg : specialIn K (.builtin "object.__class__") "__get__" = some (some (.builtin "getset_descriptor.__get__"))
 ct : takesIn K (.builtin "object.__class__") = some true
theorem zmF {Q : Option Value -> Shared -> Prop} (c : zs5 K D) (X : K.In s.heap) (I : InstAt s.heap x ox D od) (h : Q (some (.ref D)) { s with toks := s.toks + 1 }) :
  wpAny (model prog w) A (getAttr? (.ref x) "__class__") Q E s := by
 obtain ⟨hh, gg, d, t, os⟩ := s
 have L0 := I.type (M := model prog w)
 have L1 := looks_findIn (M := model prog w) X c.ga
 have L2 := looks_findIn (M := model prog w) X c.gh
 have hf : findObj K D od "__class__" = some (.bind (.builtin "getset_descriptor.__get__") (.builtin "object.__class__")) := ziw c.cls c.ca c.cg c.ct
 have hx1 : (onTheHeap (Value.ref D) && Value.builtin "BaseException.__getattribute__" == Value.builtin "object.__getattribute__") = false := by
  rw [show (Value.builtin "BaseException.__getattribute__" == Value.builtin "object.__getattribute__") = false by decide +kernel]; rfl
 unfold getAttr? getAttrBy? getAttrBy
 refine wpAny_bind (wpAny_mkText (wpAny_bind (wpAny_attempt (wpAny_holding (wpAny_bind (L0.at (wpAny_bind (L1.at ?_))))))))
 dsimp only
 rw [hx1, if_neg xau]
 unfold getAttrByItsOwn
 refine wpAny_bind ?_
 show wpAny _ _ (typeLookup (.ref D) "__getattr__") _ _ _
 refine L2.at ?_
 refine wpAny_bind (wpAny_attempt (wpAny_holding ?_))
 show wpAny _ _ (boundAndCalled (.builtin "BaseException.__getattribute__") (.ref x) (.str "__class__" t)) _ _ _
 unfold boundAndCalled
 refine wpAny_bind (wpAny_of_eq (F.attr_ValueError.ga.bind (.ref x)) ?_)
 refine wpAny_call (ztP X I c.base hf ?_)
 refine wpAny_call (class_get X I c.obj ?_)
 exact handed_on rfl (wpAny_pure h)
theorem zo8 (c : zs5 K D) : KitX K (.ref x) (.ref D) (fun h => ∃ ox od, InstAt h x ox D od) where
 ty := fun _ _ _ ⟨_, _, I⟩ => I.type
 it := fun _ _ X _ => by
  obtain ⟨cdD, hcD⟩ := xbb.mp c.cls
  unfold clsIn at hcD
  split at hcD
  ·rename_i c' d' cd' sl' ho
   intro A' Q' E' s' k q
   unfold isType loadHead
   exact wpAny_bind (wpAny_loadPart (k _ _ (X _ _ ho)) (wpAny_pure q))
  ·cases hcD
 ne := fun h tp dd its n sl X htp => by
  obtain ⟨cdD, hcD⟩ := xbb.mp c.cls
  refine Bool.eq_false_iff.mpr fun q => ?_
  have e : D = tp := Value.ref.inj (beq_iff_eq.mp q)
  subst e
  unfold clsIn at hcD
  split at hcD
  ·rename_i c' d' cd' sl' ho
   have z := (X _ _ ho).symm.trans htp
   cases z
  ·cases hcD
 ca := fun X ⟨_, _, I⟩ k => zmF c X I k
end
end L2
namespace L2
open PySem.Spec PyProof.Rows
section
variable {P : Program} {w : World} {K : xFg} {mg : Str -> Option Value} {base : Heap}
theorem Fun.okX {CX : CXT} {x qual : Str} {st : Stmt} {f : Addr} {fd : FuncData} {N ps : List Str} {k : Nat} {sp : Sp} (F : Fun K x qual st f fd) (S : zdg N ps (zah st)) (len : ∀ vs H Q E, sp vs H Q E -> vs.length = ps.length)
  (hbody : ∀ (cdv : Value) (A : Around) (outer : List Env) (s : Shared) (H : Hp) (vs : List V) (Q : VK) (E : XK), zfA k (A.deeper (envOfC qual (zah st) s.heap.objs.size f cdv)) -> sp vs H Q E ->
   ∃ t, PSs (zgQ CX P w K mg base N qual (zah st) f cdv A outer s H E) (zbC st) t /\ t { nx := fun _ H' => Q .non H', rt := Q } (start N vs) H) : zgR P w K mg base CX (k + 1) f fd ps sp := by
 obtain ⟨oc, od, kV, doc, pm, an, cdv, ct, osl, rfl, lk, hcd⟩ := F.ex
 exact zv4 lk hcd S len fun A outer s H vs Q E hr hsp => hbody cdv A outer s H vs Q E hr hsp
theorem zrS {N : List Str} {qual : Str} {scope : Scope} {f : Addr} {cdv : Value} {A : Around} {outer : List Env} {s : Shared} {H : Hp} {E : XK} : zii (CXe P w) (zgQ (CXe P w) P w K mg base N qual scope f cdv A outer s H E) E :=
 fun pins O H1 s1 e s' I h => zo7 (X := zgQ (CXe P w) P w K mg base N qual scope f cdv A outer s H E) I rfl rfl rfl h
theorem zwh {X : Cx} : zii (CXe P w) X E0 := fun _ _ _ _ _ _ _ h => by
 obtain ⟨_, _, _, _, _, _, _, _, _, _, _, _, _, z⟩ := h
 exact z.elim
end
theorem zrT {K : xFg} {h : Heap} {C : Addr} {bmB : List Value} {newId : String} (X : K.In h) (q : PySem.W.excIn K C bmB newId = true) :
  ∃ bm N nm qn bs hdct sn sub ab col dd k0 k1 k2 k3 k5 mN, h.get? C = some (excClassObj nm qn C N bs bm hdct sn sub ab col dd k0 k1 k2 k3 k5 newId) /\ h.Ns N mN /\ mN "__init__" = none /\ OwnTail h bmB bm := by
 unfold PySem.W.excIn at q
 split at q
 ·rename_i dd cd sl lk
  split at q
  ·rename_i C' bm k0 k1 k2 k3 nn k5 hm hs
   simp only [xay, beq_iff_eq, Bool.not_eq_true'] at q
   obtain ⟨⟨⟨⟨⟨rfl, rfl⟩, hdel⟩, ht⟩, hok⟩, hni⟩ := q
   obtain ⟨nm, bs, mro, ns, qn, hd, sn, sub, ab, col, del⟩ := cd
   dsimp only at hm hdel hok hni
   subst hm hdel
   obtain rfl : sl = #[k0, k1, k2, k3, some (.builtin nn), k5] := by
    obtain ⟨l⟩ := sl
    simp only at hs
    rw [hs]
   exact ⟨bm, ns, nm, qn, bs, hd, sn, sub, ab, col, dd, k0, k1, k2, k3, k5, _, X _ _ lk, .of_isNs (PySem.W.isNs_of_in X hok), PySem.W.nsMap_none_of_in X hok hni, PySem.W.tail_of_in X ht⟩
  ·cases q
 ·cases q
def ztQ (C : Addr) (ta : TA) (E : XK) : TS := fun _ O H => ta O H fun vs H1 => vs.length <= sizeLine /\ E (.ref C) none H1
section
variable {P : Program} {w : World} {K : xFg} {mg : Str -> Option Value} {base : Heap} {N : List Str} {qual : Str} {scope : Scope} {f : Addr} {cdv : Value} {A : Around} {outer : List Env} {s0 : Shared} {H0 : Hp} {E : XK}
theorem zo9 {x : Str} {C : Addr} {e0 : Expr} {zce : List Expr} {np cpos pos : Pos} {ta : TA} (q : PySem.W.excIn K C [.type "ValueError", .type "Exception", .type "BaseException", .type "object"] "ValueError.__new__" = true)
  (hg : Gl (zgQ (CXe P w) P w K mg base N qual scope f cdv A outer s0 H0 E) x) (hm : mg x = some (.ref C)) (ha : PA (zgQ (CXe P w) P w K mg base N qual scope f cdv A outer s0 H0 E) (e0 :: zce) ta)
  (hdb : (x == ("__debug__" : Str)) = false := by decide)
  (he : starEach (e0 :: zce) (envOfC qual scope s0.heap.objs.size f cdv) = (false, eval e0 (envOfC qual scope s0.heap.objs.size f cdv)) :: starEach zce (envOfC qual scope s0.heap.objs.size f cdv) := by rfl)
  (hpl : (backTo cpos (starEach zce (envOfC qual scope s0.heap.objs.size f cdv))).any (·.1) = false := by rfl) :
  PS (zgQ (CXe P w) P w K mg base N qual scope f cdv A outer s0 H0 E) (.Raise (some (.Call (.Name x np) (e0 :: zce) [] cpos)) none pos) (ztQ C ta E) := by
 intro pins s O H D I h
 obtain ⟨bm, Nn, nm, qn, bs, hdct, sn, sub, ab, col, dd, k0, k1, k2, k3, k5, mN, hC, hN, hni, T⟩ := zrT I.mod.kin q
 refine wpAny_Raise_call_subT (C := C) (nm := nm) (q := qn) (N := Nn) (bs := bs) (bm := bm) (hdct := hdct) (sn := sn) (sub := sub) (ab := ab) (col := col) (dd := dd) (k0 := k0) (k1 := k1) (k2 := k2) (k3 := k3) (k5 := k5)
  PySem.F.excBase_ValueError (mN := mN) (T.hasType PySem.F.excBase_ValueError.hasBase) (I.ok.hd rfl) (by
   show (backTo cpos (starEach (e0 :: zce) (envOfC qual scope s0.heap.objs.size f cdv))).any (·.1) = false
   rw [he]; show (false || (backTo cpos (starEach zce (envOfC qual scope s0.heap.objs.size f cdv))).any (·.1)) = false; rw [hpl]; rfl) hni (zfV I hg hm ⟨rfl, ?_⟩ hdb)
 have ha' := ha cpos pins s O H _ I h
 show wpAny _ _ (evalArgs (.ref C) true (backTo cpos (starEach (e0 :: zce) (envOfC qual scope s0.heap.objs.size f cdv))) []) _ _ _
 change wpAny _ _ (spliced (backTo cpos (starEach (e0 :: zce) (envOfC qual scope s0.heap.objs.size f cdv)))) _ _ _ at ha'
 rw [he] at ha' ⊢
 refine Calls.evalArgs_plain (thn ha' fun us s2 ⟨vs, H1, I1, r, hz, hE⟩ => ?_)
 have hl : us.length <= sizeLine := by rw [<- r.length]; exact hz
 exact ⟨rfl, hl, I1.bk _ _ hC, hN.keeps I1.bk, T.keeps I1.bk, fun h' e m => zlL (tk := s2.toks) I1 rfl rfl rfl m hE⟩
end
end L2
namespace L2
open PySem.Spec PyProof.Rows
abbrev TEX := St -> Hp -> VK -> XK -> Prop
abbrev TSX := zmc -> XK -> St -> Hp -> Prop
def XP (X : Cx) (CX : CXT) (pins : List (Addr × Obj)) (O : St) (E : XK) (e : Value) (s' : Shared) : Prop := ∃ s1 H1, Inv X pins O H1 s1 /\ CX X.stack H1 s1 E e s'
def PEX (X : Cx) (CX : CXT) (e : Expr) (t : TEX) : Prop :=
 ∀ (pins : List (Addr × Obj)) (s : Shared) (O : St) (H : Hp) (Q : VK) (E : XK), Inv X pins O H s -> t O H Q E -> wpAny (model X.prog X.w) X.A (eval e X.env) (EP X pins O Q) (XP X CX pins O E) s
def PSX (X : Cx) (CX : CXT) (st : Stmt) (t : TSX) : Prop :=
 ∀ (pins : List (Addr × Obj)) (s : Shared) (O : St) (H : Hp) (D : zmc) (E : XK), Inv X pins O H s -> t D E O H -> wpAny (model X.prog X.w) X.A (exec st X.env) (SP X pins D) (XP X CX pins O E) s
def zwi (X : Cx) (CX : CXT) (st : List Stmt) (t : TSX) : Prop :=
 ∀ (pins : List (Addr × Obj)) (s : Shared) (O : St) (H : Hp) (D : zmc) (E : XK), Inv X pins O H s -> t D E O H -> wpAny (model X.prog X.w) X.A (execs st X.env) (SP X pins D) (XP X CX pins O E) s
section
variable {X : Cx} {CX : CXT} {k : Nat} {f : Addr} {fd : FuncData} {ps : List Str} {sp : Sp} {dvs : List V} {ds : List Value} {x : Str} {p pos : Pos} {e : Expr} {es : List Expr} {t : TA}
def ztR (sp : Sp) (dvs : List V) (t : TA) : TEX := fun O H Q E => t O H fun vs H1 => sp (vs ++ dvs) H1 Q E
theorem zpa (F : zgR X.prog X.w X.K X.mg X.base CX k f fd ps sp) (hr : zfA k X.A) (hg : Gl X x) (hm : X.mg x = some (.ref f)) (hk : PySem.W.keepIn X.K (.ref f) = true) (hb : zfX X.K fd ps ds) (hd : zbg dvs ds)
  (ha : PA X.nox (e :: es) t) (hdb : (x == ("__debug__" : Str)) = false := by decide) (he : starEach (e :: es) X.env = (false, eval e X.env) :: starEach es X.env := by rfl) (hpl : (backTo pos (starEach es X.env)).any (·.1) = false := by rfl) :
  PEX X CX (.Call (.Name x p) (e :: es) [] pos) (ztR sp dvs t) := by
 intro pins s O H Q E I h
 refine wpAny_Call_Name_kw (zfV I hg hm ?_ hdb)
 refine PySem.W.callWith_K (h₀ := X.base) I.ok.mod.kin hk (wpAny_mono (ha pos pins s O H _ (I.wish _) h) (fun us s1 ⟨vs, H1, I1', r, q⟩ => ?_) fun _ _ z => False.elim z) he hpl
 have I1 : Inv X pins O H1 s1 := I1'.unwish
 refine ⟨I1.kIn, ?_⟩
 have r2 : zbg (vs ++ dvs) (us ++ ds) := r.append hd
 have hl : (us ++ ds).length = ps.length := by rw [<- r2.length]; exact F.len _ _ _ _ q
 refine wpAny_call (codeAny_mono (F.run X.A X.stack s1 H1 ⟨us, []⟩ (us ++ ds) (vs ++ dvs) Q E hr I1.env0 (hb s1 us I1.kIn hl) r2 q) fun r s' hq => ?_)
 cases r with
 | error e => exact ⟨s1, H1, I1, hq⟩
 | ok fl =>
  cases fl with
  | ret u => exact I1.after hq
  | next => exact False.elim hq
  | brk => exact False.elim hq
  | cont => exact False.elim hq
def zwj (t : TEX) : TSX := fun D E O H => t O H (fun _ H1 => D.nx O H1) E
theorem zpb {te : TEX} (he : PEX X CX e te) (hs : swapsWith e none pos.line X.env = pure false := by rfl) : PSX X CX (.Expr e pos) (zwj te) := by
 intro pins s O H D E I h
 exact wpAny_Expr_any (thn (he pins s O H _ E I h) fun v s1 ⟨y, H1, I1, r1, q1⟩ => ⟨O, H1, I1, q1⟩) I.quiet hs
theorem zpc {st : Stmt} {ts : TSX} (h1 : PSX X CX st ts) : zwi X CX [st] ts := by
 intro pins s O H D E I h
 refine wpAny_execs_cons (thn (h1 pins s O H D E I h) fun fl s1 q => ?_)
 cases fl with
 | next => exact wpAny_execs_nil q
 | ret v => exact q
 | brk => exact q
 | cont => exact q
end
theorem Inv.gone {X : Cx} {pins : List (Addr × Obj)} {O : St} {H : Hp} {s : Shared} {h' : Heap} {m : Str -> Option Value} {n : Str} {v : Option Value} {i : Nat} {tk : Nat} (I : Inv X pins O H s) (hN : X.N.Nodup) (hi : X.N[i]? = some n)
  (hm : ∀ (j : Nat) (y : Str) (v : V), X.N[j]? = some y -> O[j]? = some (some v) -> Vis X.env.scope y -> ∃ u, zbf v u /\ Look X.env s.heap m y u) (hn : h'.Ns X.env.locals (fun y => if y = n then v else m y)) (hs : Heap.SameBut X.env.locals s.heap h') :
  Inv X pins (O.set i none) H { s with heap := h', toks := tk } := by
 have neL : ∀ b o, X.s₀.heap.get? b = some o -> b ≠ X.env.locals := fun b o e => xam (xak (xab e) I.ok.above)
 have hiO : i < O.length := by rw [I.len]; exact (xaj.mp hi).1
 refine ⟨I.ok, I.os, I.bare, ⟨fun b o e nn hb hx => (hs.2 b (neL b o e)).trans (I.base.keep b o e nn hb hx), fun b o e nn hb hx => ?_, I.base.free, fun b o e hx => ?_, I.base.tups, I.base.frzs, I.base.tbls⟩, ⟨_, hn, fun j y v' e1 e2 e3 => ?_⟩, fun y c e => ?_, I.free, I.freeC, fun p hp => ?_, fun b ob e => ?_, by simpa using I.len⟩
 ·obtain ⟨sl, e1⟩ := I.base.slot b o e nn hb hx
  exact ⟨sl, (hs.2 b (neL b o e)).trans e1⟩
 ·obtain ⟨o', e1⟩ := I.base.there b o e hx
  exact ⟨o', (hs.2 b (neL b o e)).trans e1⟩
 ·have hj : j ≠ i := fun z => by rw [z, xa0 hiO] at e2; cases e2
  rw [xal (xax hj)] at e2
  obtain ⟨u, r, l⟩ := hm j y v' e1 e2 e3
  refine ⟨u, r, ?_⟩
  rcases l with ⟨k, e⟩ | ⟨k, c, e, z⟩
  ·have ny : y ≠ n := fun z => hj (zhH hN e1 (z ▸ hi))
   exact .inl ⟨k, by simp [ny, e]⟩
  ·exact .inr ⟨k, c, e, z.sameBut hs (I.cne y c e)⟩
 ·obtain ⟨w', z⟩ := I.cell y c e
  exact ⟨w', z.sameBut hs (I.cne y c e)⟩
 ·obtain ⟨e, nn, ne, nf, d⟩ := I.pin p hp
  exact ⟨(hs.2 p.1 ne).trans e, nn, ne, nf, d⟩
 ·refine (I.hok b ob e).stay (fun c w' hc q => (hs.2 c ?_).trans q) (fun _ q => q) fun _ _ q => q
  rintro rfl
  rcases hc with z | z
  ·rw [<- z, I.free] at e; cases e
  ·rw [I.free] at z; cases z
def hdl (X : Cx) (x : Addr) : Cx := { X with A := X.A.mark (some (.ref x)), calm := false, xe := fun _ _ => False }
section
variable {X : Cx} {pins : List (Addr × Obj)} {O : St} {H : Hp} {s : Shared} {x : Addr}
theorem Inv.hdl (I : Inv X pins O H s) (x : Addr) : Inv (hdl X x) pins O H s :=
 ⟨⟨I.ok.mod, I.ok.kind, I.ok.glob, I.ok.blt, I.ok.above, I.ok.inj, I.ok.has, I.ok.cab, fun z => absurd z (by show ¬ (false = true); decide), I.ok.frames, I.ok.stk, I.ok.exf, I.ok.bs, I.ok.bsz, I.ok.noex, I.ok.exfs, I.ok.funs, I.ok.frf⟩, I.os, I.bare, I.base, I.loc, I.cell, I.free, I.freeC, I.pin, I.hok, I.len⟩
theorem Inv.unhdl (I : Inv (L2.hdl X x) pins O H s) (ok : X.Ok) : Inv X pins O H s := ⟨ok, I.os, I.bare, I.base, I.loc, I.cell, I.free, I.freeC, I.pin, I.hok, I.len⟩
end
def tTry (K : xFg) (Dc : Addr) (i : Nat) (tb : TSX) (th : TS) : TS := fun D O H => ∃ E : XK, tb D E O H /\ ∀ (C : Addr) (dct : Option Addr) (H' : Hp) (x : Addr), E (.ref C) dct H' -> H' x = none ->
 PySem.W.exmOne K (.ref C) (.ref Dc) = some true /\ th { nx := fun O' H'' => D.nx (O'.set i none) H'', rt := fun _ _ => False } (O.set i (some (.ref x))) (upd H' x (zoM x C dct))
theorem ztS {X : Cx} {body : List Stmt} {c n : Str} {np hpos pos : Pos} {b0 : Stmt} {suite : List Stmt} {tb : TSX} {th : TS} {i : Nat} {Dc : Addr} (hst : X.stack = X.env :: X.outer) (hf : X.env.frame = some X.env.locals)
  (hN : X.N.Nodup) (hi : X.N[i]? = some n) (hn : X.env.scope.names.lookup n = some .local) (hg : Gl X c) (hm : X.mg c = some (.ref Dc)) (hb : zwi X (CXe X.prog X.w) body tb) (hh : ∀ x, PSs (hdl X x) (b0 :: suite) th)
  (hdb : (c == ("__debug__" : Str)) = false := by decide) : PS X (.Try body [.ExceptHandler (some (.Name c np)) (some n) (b0 :: suite) hpos] [] [] pos) (tTry X.K Dc i tb th) := by
 intro pins s O H D I h
 obtain ⟨Ex, hbody, hhand⟩ := h
 refine wpAny_Try_except (wpAny_mono (hb pins s O H D Ex I hbody) (fun fl s1 q => ?_) (fun e s1 q => ?_))
 ·cases fl with
  | next => exact wpAny_execs_nil q
  | ret v => exact q
  | brk => exact q
  | cont => exact q
 obtain ⟨s2, H2, I2, x, C, dct, H', B, rfl, ho, hg', un, hok, F, ib, nx, hE⟩ := q
 obtain ⟨hx, hth⟩ := hhand C dct H' x hE nx
 have hfr : X.A.frames = some (X.env :: X.outer) := by rw [<- hst]; exact I.ok.frames
 have F' : Fly B (X.env :: X.outer) x (.ref C) dct .none s1.heap := by rw [<- hst]; exact F
 refine zki hfr hf F' fun h1 F1 u1 => zfI F1 fun h2 F2 u2 => ?_
 have I3 := zg9 (tk := s1.toks) I2 ho hg' un hok (hst ▸ F2) ib (u1.trans u2) nx
 refine wpAny_handleBy_cons (codeAny_handlers_test ?_) (by intro z; cases z)
 refine zfV (X := hdl X x) (I3.hdl x) hg hm ?_ hdb
 obtain ⟨ox, vs, T, oT, ts, ex, hcl, _⟩ := F2.obj
 have LT : PySem.W.Looks (model X.prog X.w) h2 (typeOf (.ref x)) (.ref C) := hcl ▸ (PySem.W.Looks.ld ex).andThen .now
 refine (PySem.W.exm_one (M := model X.prog X.w) I3.kIn LT hx) _ _ _ _ (fun _ _ e => e) ?_
 refine codeAny_handlers_suite_as ?_
 refine zfI F2 fun h3 F3 u3 => ?_
 have I4 := zg9 (tk := s1.toks) I2 ho hg' un hok (hst ▸ F3) ib (u1.trans (u2.trans u3)) nx
 refine zdX (X := hdl X x) (v := .ref x) (I4.hdl x) hN hi (.inl hn) rfl (fun s5 I5 => ?_) (.inr hn)
 refine wpAny_mono (hh x pins s5 _ _ _ I5 hth) (fun fl s6 q6 => ?_) fun _ _ z => False.elim z
 cases fl with
 | ret v => obtain ⟨_, _, _, _, _, z⟩ := q6; exact False.elim z
 | brk => obtain ⟨_, _, _, z⟩ := q6; exact False.elim z
 | cont => obtain ⟨_, _, _, z⟩ := q6; exact False.elim z
 | next =>
  obtain ⟨O6, H6, I6, q⟩ := q6
  have I7 : Inv X pins O6 H6 s6 := I6.unhdl I.ok
  obtain ⟨m, hnm, hl⟩ := I7.loc
  have hp : (X.env.scope.kind == .class || (X.env.scope.kind == .module && X.env.locals != X.env.globals)) = false := by rw [I.ok.kind]; rfl
  exact wpAny_nameGoes_keeps hn hnm hp fun h' v hn' hs' => ⟨_, H6, I7.gone hN hi hl hn' hs', q⟩
theorem zmG {X : Cx} : zc0 X (.builtin "isinstance") (fun xs H Q => ∃ (a C : Addr) (c : V) (cv : Value) (b : Bool), xs = [.ref a, c] /\ H a = some (zoM a C none) /\ ((∃ D, c = .ref D /\ cv = .ref D) \/ ∃ T, c = .ty T /\ cv = .type T) /\ zs5 X.K C /\ PySem.W.kitOne X.K (.ref C) cv = some b /\ Q (.bl b) H) := by
 intro pins s O H xs us Q I r h
 obtain ⟨a, C, c, cv, b, rfl, ha, hc, ec, hk, q⟩ := h
 obtain ⟨u, w', rfl, ru, rw'⟩ := zrG r
 obtain rfl : u = Value.ref a := ru
 have e : w' = cv := by
  rcases hc with ⟨D, rfl, rfl⟩ | ⟨T, rfl, rfl⟩
  ·exact rw'
  ·exact rw'
 subst e
 obtain ⟨⟨o, e1, e2, e3, e4⟩, _, _⟩ := I.hok a _ ha
 have hI : PySem.W.InstAt s.heap a o C none := ⟨e1, e2, e4, by rw [e3]; trivial⟩
 exact PySem.W.kia_one (zo8 ec) I.kIn ⟨o, none, hI⟩ hk (fun z => nomatch z) fun tk => ⟨.bl b, H, I.tok tk, rfl, q⟩
end L2
namespace L2
open PySem.Spec PyProof.Rows
section
variable {X : Cx}
theorem zmH (bs : List Bool) : (List.range bs.length).all (fun i => bs.getD i false) = bs.all id := by
 rw [xcl]
 simp only [xa1, xa3, id]
 constructor
 ·intro h b hb
  obtain ⟨i, hi, rfl⟩ := List.mem_iff_getElem.mp hb
  have q := h i hi
  simpa [List.getD, hi] using q
 ·intro h i hi
  have q := h _ (xb4 hi)
  simpa [List.getD, hi] using q
theorem zpd {bs : List Bool} {its : List Value} (r : zbg (bs.map V.bl) its) {i : Nat} {v : Value} (h : its.toArray[i]? = some v) : v = .bool (bs.getD i false) := by
 have hl := r.length
 rw [xag] at hl
 have hi : i < bs.length := by
  rw [hl]
  have : its[i]? = some v := by simpa using h
  exact (xaj.mp this).1
 obtain ⟨u, hu, ru⟩ := r.get (i := i) (x := .bl bs[i]) (by simp [hi])
 have e : its[i]? = some v := by simpa using h
 rw [hu] at e
 cases e
 rw [show v = .bool bs[i] from ru]
 simp [List.getD, hi]
theorem zpe (hc : X.calm = true) : zc0 X (.builtin "all") (fun xs H Q => ∃ (p : Addr) (bs : List Bool), xs = [.ref p] /\ SqL X.K H p (bs.map V.bl) /\ Q (.bl (bs.all id)) H) := by
 intro pins s O H xs us Q I r h
 obtain ⟨p, bs, rfl, hq, q⟩ := h
 obtain ⟨u, rfl, e⟩ := zhI r
 cases e
 obtain ⟨its, rv, pl, hz⟩ := I.list hq
 have hl : its.toArray.size = bs.length := by rw [xah, <- rv.length, xag]
 have hlt : p < s.heap.objs.size := by obtain ⟨o, e, _⟩ := pl.isList; exact xab e
 refine call_all_walk (wpAny_pyIter_list pl.isList ⟨_, _, _, _, _, _, fun i => bs.getD i false, rfl, Walks.list (A := X.A.in1) (I.ok.hd hc) s.heap.objs.size p (xam hlt) its.toArray, ⟨⟨_, xar _ rfl, rfl, rfl⟩, pl.isList.push _⟩, fun i v s' Q' E' hv hQ => ?_, fun h' tk k => ?_⟩)
 ·rw [zpd rv hv]; exact wpAny_truthy_bool hQ
 ·refine ⟨.bl (bs.all id), H, I.kept fun b o e => k b o (fun z => xam (xab e) (by simpa using z)) (xaa _ e), ?_, q⟩
  rw [hl, zmH]; rfl
end
end L2
namespace Mth
def zaG (x y z : Int) : Int := if z ≠ 0 then z else if y ≠ 0 then y else x
def g3 (x y z : Int) : Nat := Nat.gcd (Nat.gcd x.natAbs y.natAbs) z.natAbs
def zdE (x y z : Int) : Int := if zaG x y z < 0 then 0 - ((g3 x y z : Nat) : Int) else ((g3 x y z : Nat) : Int)
abbrev NZ (x y z : Int) : Prop := ¬ (x = 0 /\ y = 0 /\ z = 0)
theorem zco {x y z : Int} (h : NZ x y z) : zhM (zdE x y z) x y z (x.fdiv (zdE x y z)) (y.fdiv (zdE x y z)) (z.fdiv (zdE x y z)) := by
 obtain ⟨x', y', z', p⟩ := zlK x y z h
 have key : ∃ x' y' z', zhM (zdE x y z) x y z x' y' z' := by
  unfold zdE
  by_cases c : zaG x y z < 0
  ·rw [if_pos c]; exact ⟨-x', -y', -z', p.neg⟩
  ·rw [if_neg c]; exact ⟨x', y', z', p⟩
 obtain ⟨x', y', z', p⟩ := key
 rw [zhN p.ne p.x, zhN p.ne p.y, zhN p.ne p.z]
 exact p
theorem zhM.nz {s x y z x' y' z' : Int} (p : zhM s x y z x' y' z') (h : NZ x y z) : NZ x' y' z' := fun q => h (by rw [p.x, p.y, p.z, q.1, q.2.1, q.2.2]; simp)
theorem zwk {x y z : Int} (h : NZ x y z) : g3 x y z ≠ 0 := by
 unfold g3
 intro e
 have e1 := Nat.eq_zero_of_gcd_eq_zero_left e
 have e2 := Nat.eq_zero_of_gcd_eq_zero_right e
 have e3 := Nat.eq_zero_of_gcd_eq_zero_left e1
 have e4 := Nat.eq_zero_of_gcd_eq_zero_right e1
 exact h ⟨by omega, by omega, by omega⟩
theorem zkk (x y z : Int) : (zdE x y z).natAbs = g3 x y z := by
 unfold zdE
 split <;> omega
theorem zmI (s x y z : Int) : g3 (s * x) (s * y) (s * z) = s.natAbs * g3 x y z := by
 unfold g3
 rw [xcp, xcp, xcp, Nat.gcd_mul_left, Nat.gcd_mul_left]
theorem zlM {s : Int} (hs : s ≠ 0) (x y z : Int) : zaG (s * x) (s * y) (s * z) = s * zaG x y z := by
 unfold zaG
 by_cases hz : z = 0
 ·subst hz
  by_cases hy : y = 0
  ·subst hy; simp
  ·have : s * y ≠ 0 := fun e => by rcases xaz.mp e with q | q <;> contradiction
   simp [hy, this]
 ·have : s * z ≠ 0 := fun e => by rcases xaz.mp e with q | q <;> contradiction
  simp [hz, this]
theorem zix {x y z : Int} (h : NZ x y z) : zaG x y z ≠ 0 := by
 unfold zaG
 by_cases hz : z = 0
 ·by_cases hy : y = 0
  ·have : x ≠ 0 := fun e => h ⟨e, hy, hz⟩
   simp [hz, hy, this]
  ·simp [hz, hy]
 ·simp [hz]
theorem zpf {x y z x' y' z' : Int} (h : NZ x y z) (p : zhM (zdE x y z) x y z x' y' z') : zdE x' y' z' = 1 := by
 have hg : g3 x y z = (zdE x y z).natAbs * g3 x' y' z' := by
  have e := zmI (zdE x y z) x' y' z'
  rw [<- p.x, <- p.y, <- p.z] at e
  exact e
 rw [zkk] at hg
 have n0 := zwk h
 have g1 : g3 x' y' z' = 1 := by
  have : g3 x y z * 1 = g3 x y z * g3 x' y' z' := by rw [Nat.mul_one]; exact hg
  exact (Nat.eq_of_mul_eq_mul_left (Nat.pos_of_ne_zero n0) this).symm
 have hl : zaG x y z = zdE x y z * zaG x' y' z' := by
  have e := zlM p.ne x' y' z'
  rw [<- p.x, <- p.y, <- p.z] at e
  exact e
 have ln := zix (p.nz h)
 have lp : 0 < zaG x' y' z' := by
  by_cases c : zaG x y z < 0
  ·have es : zdE x y z < 0 := by unfold zdE; rw [if_pos c]; omega
   rcases (show 0 < zaG x' y' z' \/ zaG x' y' z' <= 0 by omega) with q | q
   ·exact q
   ·have q' : zaG x' y' z' < 0 := by omega
    have := Int.mul_pos_of_neg_of_neg es q'
    rw [<- hl] at this; omega
  ·have es : 0 < zdE x y z := by unfold zdE; rw [if_neg c]; omega
   rcases (show 0 < zaG x' y' z' \/ zaG x' y' z' <= 0 by omega) with q | q
   ·exact q
   ·have q' : zaG x' y' z' < 0 := by omega
    have := Int.mul_neg_of_pos_of_neg es q'
    rw [<- hl] at this; omega
 unfold zdE
 rw [if_neg (by omega), g1]; rfl
theorem zdZ (x : Int) : x.fdiv 1 = x := by
 rw [Int.fdiv_eq_ediv_of_nonneg _ (by decide)]; exact Int.ediv_one x
theorem zwl {x y z : Int} {B : Nat} (hx : x.natAbs <= B) (hy : y.natAbs <= B) (hz : z.natAbs <= B) : g3 x y z <= B := zf2 (zf2 hx hy) hz
theorem zrU {x y z : Int} {B : Nat} (hx : x.natAbs <= B) (hy : y.natAbs <= B) (hz : z.natAbs <= B) : (zdE x y z).natAbs <= B := by rw [zkk]; exact zwl hx hy hz
end Mth
namespace Mth
abbrev P3 := Int × Int × Int
def dot (p q : P3) : Int := p.1 * q.1 + p.2.1 * q.2.1 + p.2.2 * q.2.2
def crs (p q : P3) : P3 := (p.2.1 * q.2.2 - p.2.2 * q.2.1, p.2.2 * q.1 - p.1 * q.2.2, p.1 * q.2.1 - p.2.1 * q.1)
abbrev Nz (p : P3) : Prop := NZ p.1 p.2.1 p.2.2
abbrev sOf (p : P3) : Int := zdE p.1 p.2.1 p.2.2
def low (p : P3) : P3 := (p.1.fdiv (sOf p), p.2.1.fdiv (sOf p), p.2.2.fdiv (sOf p))
structure Nrm (p : P3) : Prop where
 nz : Nz p
 one : sOf p = 1
theorem zcA {p : P3} (h : Nz p) : sOf p ≠ 0 /\ p.1 = sOf p * (low p).1 /\ p.2.1 = sOf p * (low p).2.1 /\ p.2.2 = sOf p * (low p).2.2 :=
 ⟨(zco h).ne, (zco h).x, (zco h).y, (zco h).z⟩
theorem zbi {p : P3} (h : Nz p) : Nrm (low p) := ⟨(zco h).nz h, zpf h (zco h)⟩
theorem Nrm.low {p : P3} (h : Nrm p) : Mth.low p = p := by
 unfold Mth.low; rw [h.one, zdZ, zdZ, zdZ]
theorem zjD {p q : P3} (h : Nz q) : dot p (low q) = 0 ↔ dot p q = 0 := by
 obtain ⟨h0, h1, h2, h3⟩ := zcA h
 have e : dot p q = sOf q * dot p (low q) := by unfold dot; grind
 rw [e, xaz]
 exact ⟨.inr, fun z => z.resolve_left h0⟩
theorem zrV {p : P3} (h : Nz p) : (low p).1.natAbs <= p.1.natAbs /\ (low p).2.1.natAbs <= p.2.1.natAbs /\ (low p).2.2.natAbs <= p.2.2.natAbs := by
 obtain ⟨h0, h1, h2, h3⟩ := zcA h
 exact ⟨zeE h0 h1, zeE h0 h2, zeE h0 h3⟩
theorem Nrm.last {p : P3} (h : Nrm p) : 0 < zaG p.1 p.2.1 p.2.2 /\ g3 p.1 p.2.1 p.2.2 = 1 := by
 have h1 := h.one
 have h2 := zix h.nz
 unfold sOf zdE at h1
 split at h1 <;> constructor <;> omega
theorem zlN {p q : P3} (hp : Nz p) (hq : Nz q) (h : crs p q = (0, 0, 0)) :
  zaG q.1 q.2.1 q.2.2 * p.1 = zaG p.1 p.2.1 p.2.2 * q.1 /\ zaG q.1 q.2.1 q.2.2 * p.2.1 = zaG p.1 p.2.1 p.2.2 * q.2.1 /\ zaG q.1 q.2.1 q.2.2 * p.2.2 = zaG p.1 p.2.1 p.2.2 * q.2.2 := by
 obtain ⟨a, b, c⟩ := p
 obtain ⟨x, y, z⟩ := q
 simp only [crs, Prod.mk.injEq] at h
 obtain ⟨h1, h2, h3⟩ := h
 simp only [Nz, NZ] at hp hq
 unfold zaG
 simp only
 by_cases hc : c = 0
 ·subst hc
  by_cases hz : z = 0
  ·subst hz
   by_cases hb : b = 0
   ·subst hb
    by_cases hy : y = 0
    ·subst hy; grind
    ·have : a = 0 := by
      have := h3
      simp at this
      exact (xaz.mp this).resolve_right hy
     exact absurd ⟨this, rfl, rfl⟩ hp
   ·by_cases hy : y = 0
    ·subst hy
     have : x = 0 := by
      have := h3
      simp at this
      exact (xaz.mp this).resolve_left hb
     exact absurd ⟨this, rfl, rfl⟩ hq
    ·simp only [ne_eq, not_true_eq_false, if_false, hb, hy, not_false_eq_true, if_true]
     grind
  ·have hb : b = 0 := by
    have := h1
    simp at this
    exact (xaz.mp this).resolve_right hz
   have ha : a = 0 := by
    have := h2
    simp at this
    exact (xaz.mp this).resolve_right hz
   exact absurd ⟨ha, hb, rfl⟩ hp
 ·by_cases hz : z = 0
  ·subst hz
   have hy : y = 0 := by
    have := h1
    simp at this
    exact (xaz.mp this).resolve_left hc
   have hx : x = 0 := by
    have := h2
    simp at this
    exact (xaz.mp this).resolve_left hc
   exact absurd ⟨hx, hy, rfl⟩ hq
  ·simp only [ne_eq, hc, hz, not_false_eq_true, if_true]
   grind
theorem zd0 {p q : P3} (hp : Nrm p) (hq : Nrm q) (h : p ≠ q) : Nz (crs p q) := by
 intro hz
 apply h
 obtain ⟨e1, e2, e3⟩ := zlN hp.nz hq.nz (xap hz.1 (xap hz.2.1 hz.2.2))
 obtain ⟨sp, gp⟩ := hp.last
 obtain ⟨sq, gq⟩ := hq.last
 have g1 := zmI (zaG q.1 q.2.1 q.2.2) p.1 p.2.1 p.2.2
 have g2 := zmI (zaG p.1 p.2.1 p.2.2) q.1 q.2.1 q.2.2
 rw [e1, e2, e3, g2, gp, gq] at g1
 have e : zaG q.1 q.2.1 q.2.2 = zaG p.1 p.2.1 p.2.2 := by omega
 rw [e] at e1 e2 e3
 have ne : zaG p.1 p.2.1 p.2.2 ≠ 0 := by omega
 exact xap (xcm ne e1) (xap (xcm ne e2) (xcm ne e3))
def Col (ps : List P3) : Prop := ∀ p ∈ ps, ∀ q ∈ ps, ∀ r ∈ ps, dot p (crs q r) = 0
theorem zrW {L p q r : P3} (hL : Nz L) (hp : dot p L = 0) (hq : dot q L = 0) (hr : dot r L = 0) : dot p (crs q r) = 0 := by
 have e1 : dot p (crs q r) * L.1 = 0 := by unfold dot crs at *; grind
 have e2 : dot p (crs q r) * L.2.1 = 0 := by unfold dot crs at *; grind
 have e3 : dot p (crs q r) * L.2.2 = 0 := by unfold dot crs at *; grind
 by_cases h : dot p (crs q r) = 0
 ·exact h
 ·exact absurd ⟨(xaz.mp e1).resolve_left h, (xaz.mp e2).resolve_left h, (xaz.mp e3).resolve_left h⟩ hL
theorem Col.iff {ps : List P3} {p0 o : P3} (h0 : p0 ∈ ps) (ho : o ∈ ps) (hL : Nz (crs p0 o)) : Col ps ↔ ∀ p ∈ ps, dot p (crs p0 o) = 0 :=
 ⟨fun c p hp => c p hp p0 h0 o ho, fun c p hp q hq r hr => zrW hL (c p hp) (c q hq) (c r hr)⟩
theorem Col.same {ps : List P3} {p0 : P3} (h : ∀ p ∈ ps, p = p0) : Col ps := fun p hp q hq r hr => by
 rw [h p hp, h q hq, h r hr]; unfold dot crs; grind
end Mth
namespace Mth
abbrev M3 := P3 × P3 × P3
def mul (m : M3) (p : P3) : P3 := (dot m.1 p, dot m.2.1 p, dot m.2.2 p)
def det (m : M3) : Int := dot m.1 (crs m.2.1 m.2.2)
theorem zwm (m : M3) (p : P3) : det m * p.1 = dot m.1 p * (crs m.2.1 m.2.2).1 + dot m.2.1 p * (crs m.2.2 m.1).1 + dot m.2.2 p * (crs m.1 m.2.1).1 := by unfold det dot crs; grind
theorem zwn (m : M3) (p : P3) : det m * p.2.1 = dot m.1 p * (crs m.2.1 m.2.2).2.1 + dot m.2.1 p * (crs m.2.2 m.1).2.1 + dot m.2.2 p * (crs m.1 m.2.1).2.1 := by unfold det dot crs; grind
theorem zwo (m : M3) (p : P3) : det m * p.2.2 = dot m.1 p * (crs m.2.1 m.2.2).2.2 + dot m.2.1 p * (crs m.2.2 m.1).2.2 + dot m.2.2 p * (crs m.1 m.2.1).2.2 := by unfold det dot crs; grind
theorem za0 {a b : Int} (h : a ≠ 0) (e : a * b = 0) : b = 0 := (xaz.mp e).resolve_left h
theorem zqg {m : M3} {p : P3} (h : det m ≠ 0) (hp : Nz p) : Nz (mul m p) := by
 rintro ⟨h1, h2, h3⟩
 have h1 : dot m.1 p = 0 := h1
 have h2 : dot m.2.1 p = 0 := h2
 have h3 : dot m.2.2 p = 0 := h3
 exact hp ⟨za0 h (by rw [zwm, h1, h2, h3]; simp), za0 h (by rw [zwn, h1, h2, h3]; simp), za0 h (by rw [zwo, h1, h2, h3]; simp)⟩
def tms (s : Int) (p : P3) : P3 := (s * p.1, s * p.2.1, s * p.2.2)
theorem zdh {p : P3} (h : Nz p) : p = tms (sOf p) (low p) := by
 obtain ⟨_, h1, h2, h3⟩ := zcA h
 exact xap h1 (xap h2 h3)
theorem zjE (s t : Int) (p q : P3) : crs (tms s p) (tms t q) = tms (s * t) (crs p q) := by
 unfold crs tms; exact xap (by grind) (xap (by grind) (by grind))
theorem zd1 {s : Int} {p : P3} (hs : s ≠ 0) (h : tms s p = (0, 0, 0)) : p = (0, 0, 0) := by
 unfold tms at h
 simp only [Prod.mk.injEq] at h
 exact xap (za0 hs h.1) (xap (za0 hs h.2.1) (za0 hs h.2.2))
theorem zf3 {p : P3} (h : Nz p) : p ≠ (0, 0, 0) := fun e => h (by rw [e]; exact ⟨rfl, rfl, rfl⟩)
theorem zlO {p : P3} (h : p ≠ (0, 0, 0)) : Nz p := fun ⟨a, b, c⟩ => h (xap a (xap b c))
theorem zqh {s : Int} {p : P3} (hs : s ≠ 0) (h : Nz p) : Nz (tms s p) := zlO fun e => zf3 h (zd1 hs e)
theorem zbE {a b : Int} (ha : a ≠ 0) (hb : b ≠ 0) : a * b ≠ 0 := fun e => by rcases xaz.mp e with q | q <;> contradiction
theorem zrX {u v : P3} (hu : Nz u) (hv : Nz v) (h : crs u v = (0, 0, 0)) : low u = low v := by
 refine xa9 fun hne => ?_
 have hz := zd0 (zbi hu) (zbi hv) hne
 have e := h
 rw [zdh hu, zdh hv, zjE] at e
 exact zf3 hz (zd1 (zbE (zcA hu).1 (zcA hv).1) e)
theorem zrY {u v : P3} (hu : Nz u) (hv : Nz v) (h : low u = low v) : crs u v = (0, 0, 0) := by
 rw [zdh hu, zdh hv, zjE, h]
 unfold tms crs
 exact xap (by grind) (xap (by grind) (by grind))
theorem zha {s : Int} {p : P3} (hs : s ≠ 0) (h : Nz p) : low (tms s p) = low p := zrX (zqh hs h) h (by unfold crs tms; exact xap (by grind) (xap (by grind) (by grind)))
end Mth
namespace Mth
def zrZ (ns : List Int) : Nat := ns.foldl (fun g n => Nat.gcd g n.natAbs) 0
def zaH : List Int -> Int
 | [] => 0
 | n :: ns => if n = 0 then zaH ns else n
def zd8 (ns : List Int) : Int := if zaH ns < 0 then -((zrZ ns : Nat) : Int) else ((zrZ ns : Nat) : Int)
def zs6 (ns : List Int) : List Int := ns.map fun n => n.fdiv (zd8 ns)
theorem ziy : ∀ (ns : List Int) (g : Nat), (ns.foldl (fun g n => Nat.gcd g n.natAbs) g ∣ g) /\ ∀ n ∈ ns, ns.foldl (fun g n => Nat.gcd g n.natAbs) g ∣ n.natAbs
 | [], g => ⟨Nat.dvd_refl _, fun n h => by cases h⟩
 | m :: ns, g => by
  obtain ⟨h1, h2⟩ := ziy ns (Nat.gcd g m.natAbs)
  refine ⟨Nat.dvd_trans h1 (xcy _ _), fun n hn => ?_⟩
  rcases xaf.mp hn with rfl | hn
  ·exact Nat.dvd_trans h1 (Nat.gcd_dvd_right _ _)
  ·exact h2 n hn
theorem zf4 {c : Int} (hc : c ≠ 0) : ∀ ns : List Int, zaH (ns.map (c * ·)) = c * zaH ns
 | [] => by simp [zaH]
 | n :: ns => by
  rw [xa7]
  unfold zaH
  by_cases h : n = 0
  ·subst h; simp [zf4 hc ns]
  ·rw [if_neg h, if_neg (zbE hc h)]
theorem zep : ∀ {ns : List Int}, zaH ns ≠ 0 -> zaH ns ∈ ns
 | [], h => absurd rfl h
 | n :: ns, h => by
  unfold zaH at h ⊢
  by_cases e : n = 0
  ·rw [if_pos e] at h ⊢; exact xae _ (zep h)
  ·rw [if_neg e]; exact xan
theorem zhb : ∀ {ns : List Int} {n : Int}, n ∈ ns -> n ≠ 0 -> zaH ns ≠ 0
 | m :: ns, n, h, hn => by
  unfold zaH
  by_cases e : m = 0
  ·rw [if_pos e]
   rcases xaf.mp h with rfl | h
   ·exact absurd e hn
   ·exact zhb h hn
  ·rw [if_neg e]; exact e
theorem zhO {ns : List Int} {n : Int} (h : n ∈ ns) : ((zrZ ns : Nat) : Int) ∣ n := Int.ofNat_dvd_left.mpr ((ziy ns 0).2 n h)
theorem zr0 {ns : List Int} (h : zaH ns ≠ 0) : zrZ ns ≠ 0 := fun e => h (by
 have := zhO (zep h)
 rw [e] at this
 obtain ⟨k, hk⟩ := this
 rw [hk]; simp)
theorem ze5 {ns : List Int} (h : zaH ns ≠ 0) : zd8 ns ≠ 0 := by
 have := zr0 h
 unfold zd8; split <;> omega
theorem zpg {ns : List Int} {n : Int} (h : n ∈ ns) : zd8 ns ∣ n := by
 unfold zd8; split
 ·exact Int.neg_dvd.mpr (zhO h)
 ·exact zhO h
theorem ze6 {ns : List Int} (h : zaH ns ≠ 0) {n : Int} (hn : n ∈ ns) : n = zd8 ns * n.fdiv (zd8 ns) := by
 obtain ⟨k, hk⟩ := zpg hn
 rw [zhN (ze5 h) hk]; exact hk
theorem zph {ns : List Int} (h : zaH ns ≠ 0) {n : Int} (hn : n ∈ ns) : (n.fdiv (zd8 ns)).natAbs <= n.natAbs := zeE (ze5 h) (ze6 h hn)
theorem zkl : ∀ (ns : List Int) (g : Nat) (k : Nat), g <= k -> (∀ n ∈ ns, n.natAbs <= k) -> ns.foldl (fun g n => Nat.gcd g n.natAbs) g <= k
 | [], g, k, hg, _ => hg
 | m :: ns, g, k, hg, h => zkl ns _ k (zf2 hg (h m xan)) fun n hn => h n (xae _ hn)
theorem zr1 {ns : List Int} {k : Nat} (h : ∀ n ∈ ns, n.natAbs <= k) : (zd8 ns).natAbs <= k := by
 have := zkl ns 0 k (xch _) h
 unfold zd8 zrZ; split <;> omega
end Mth
namespace Mth
theorem zmJ {s : Int} {p : P3} (h : Nz (tms s p)) : Nz p := zlO fun e => zf3 h (by rw [e]; unfold tms; simp)
theorem zcB (p q : P3) : dot p q = dot q p := by unfold dot; grind
end Mth
namespace Mth
def zaf (x y z : P3) : Int := dot x (crs y z)
end Mth
namespace Mth
theorem zpi (p : P3) : crs p p = (0, 0, 0) := by unfold crs; exact xap (by grind) (xap (by grind) (by grind))
theorem zkm (p q : P3) : dot p (crs p q) = 0 := by unfold dot crs; grind
end Mth
namespace Mth
def C3 (x y z : P3) : Prop := zaf x y z = 0
theorem zpj (x y z : P3) : zaf y x z = - zaf x y z := by unfold zaf dot crs; grind
theorem zwp (x y z : P3) : zaf x z y = - zaf x y z := by unfold zaf dot crs; grind
theorem C3.s12 {x y z : P3} (h : C3 x y z) : C3 y x z := by unfold C3 at *; rw [zpj, h]; rfl
theorem C3.s23 {x y z : P3} (h : C3 x y z) : C3 x z y := by unfold C3 at *; rw [zwp, h]; rfl
theorem C3.rot {x y z : P3} (h : C3 x y z) : C3 z x y := h.s23.s12
theorem C3.aab (x y : P3) : C3 x x y := by unfold C3 zaf dot crs; grind
theorem C3.aba (x y : P3) : C3 x y x := (C3.aab x y).s23
theorem C3.baa (x y : P3) : C3 y x x := (C3.aba x y).s12
end Mth
namespace Mth
abbrev P6 := P3 × P3
def qv (q : P6) (p : P3) : Int := q.1.1 * p.1 * p.1 + q.1.2.1 * p.2.1 * p.2.1 + q.1.2.2 * p.2.2 * p.2.2 + q.2.1 * p.1 * p.2.1 + q.2.2.1 * p.1 * p.2.2 + q.2.2.2 * p.2.1 * p.2.2
def bl (q : P6) (p r : P3) : Int := 2 * q.1.1 * p.1 * r.1 + 2 * q.1.2.1 * p.2.1 * r.2.1 + 2 * q.1.2.2 * p.2.2 * r.2.2 + q.2.1 * (p.1 * r.2.1 + p.2.1 * r.1) + q.2.2.1 * (p.1 * r.2.2 + p.2.2 * r.1) + q.2.2.2 * (p.2.1 * r.2.2 + p.2.2 * r.2.1)
def zar (q : P6) : List Int := [q.1.1, q.1.2.1, q.1.2.2, q.2.1, q.2.2.1, q.2.2.2]
def prd (l m : P3) : P6 := ((l.1 * m.1, l.2.1 * m.2.1, l.2.2 * m.2.2), (l.1 * m.2.1 + l.2.1 * m.1, l.1 * m.2.2 + l.2.2 * m.1, l.2.1 * m.2.2 + l.2.2 * m.2.1))
def comb (x y : Int) (q r : P6) : P6 := ((x * q.1.1 - y * r.1.1, x * q.1.2.1 - y * r.1.2.1, x * q.1.2.2 - y * r.1.2.2), (x * q.2.1 - y * r.2.1, x * q.2.2.1 - y * r.2.2.1, x * q.2.2.2 - y * r.2.2.2))
theorem zqi (l m p : P3) : qv (prd l m) p = dot l p * dot m p := by unfold qv prd dot; grind
theorem zr2 (x y : Int) (q r : P6) (p : P3) : qv (comb x y q r) p = x * qv q p - y * qv r p := by unfold qv comb; grind
theorem zqj (q : P6) (s : Int) (p : P3) : qv q (tms s p) = s * s * qv q p := by unfold qv tms; grind
def zc7 (x y z : Int) (a b c : P3) : P3 := (x * a.1 + y * b.1 + z * c.1, x * a.2.1 + y * b.2.1 + z * c.2.1, x * a.2.2 + y * b.2.2 + z * c.2.2)
theorem zmK (q : P6) (x y z : Int) (a b c : P3) : qv q (zc7 x y z a b c) = x * x * qv q a + y * y * qv q b + z * z * qv q c + x * y * bl q a b + x * z * bl q a c + y * z * bl q b c := by
 unfold qv bl zc7; grind
theorem zjF (a b c p : P3) : zc7 (zaf p b c) (zaf a p c) (zaf a b p) a b c = tms (zaf a b c) p := by
 unfold zc7 tms zaf dot crs; exact xap (by grind) (xap (by grind) (by grind))
def mx (a b c p : P3) : P3 := (zaf p b c * zaf a p c, zaf p b c * zaf a b p, zaf a p c * zaf a b p)
def ub (q : P6) (a b c : P3) : P3 := (bl q a b, bl q a c, bl q b c)
theorem zpk {q : P6} {a b c : P3} (ha : qv q a = 0) (hb : qv q b = 0) (hc : qv q c = 0) (p : P3) : zaf a b c * zaf a b c * qv q p = dot (mx a b c p) (ub q a b c) := by
 have e := zmK q (zaf p b c) (zaf a p c) (zaf a b p) a b c
 rw [zjF, zqj, ha, hb, hc] at e
 rw [e]; unfold dot mx ub; grind
theorem zwq (a b c d e : P3) : zaf d b c * zaf a e c - zaf a d c * zaf e b c = zaf a b c * zaf d e c := by
 unfold zaf dot crs; grind
def Nz6 (q : P6) : Prop := zaH (zar q) ≠ 0
theorem zr3 {q : P6} (h : Nz6 q) : ∃ x ∈ zar q, x ≠ 0 := ⟨_, zep h, h⟩
theorem zr4 {q : P6} (h : ∀ p, qv q p = 0) : ∀ x ∈ zar q, x = 0 := by
 have a1 := h (1, 0, 0)
 have a2 := h (0, 1, 0)
 have a3 := h (0, 0, 1)
 have a4 := h (1, 1, 0)
 have a5 := h (1, 0, 1)
 have a6 := h (0, 1, 1)
 unfold qv at a1 a2 a3 a4 a5 a6
 simp only [xbz, Int.mul_one, Int.add_zero, Int.zero_add] at a1 a2 a3 a4 a5 a6
 intro x hx
 simp only [zar, xaf, xaq, or_false] at hx
 rcases hx with rfl | rfl | rfl | rfl | rfl | rfl <;> omega
theorem ztT {q : P6} {p : P3} (h : qv q p ≠ 0) : Nz6 q := fun e => by
 have z : ∀ x ∈ zar q, x = 0 := fun x hx => by
  refine xa9 fun hne => ?_
  exact zhb hx hne e
 have a1 := z q.1.1 (by simp [zar])
 have a2 := z q.1.2.1 (by simp [zar])
 have a3 := z q.1.2.2 (by simp [zar])
 have a4 := z q.2.1 (by simp [zar])
 have a5 := z q.2.2.1 (by simp [zar])
 have a6 := z q.2.2.2 (by simp [zar])
 exact h (by unfold qv; rw [a1, a2, a3, a4, a5, a6]; simp)
theorem zpl {ns : List Int} (h : zaH ns ≠ 0) : ns = (zs6 ns).map (zd8 ns * ·) := by
 unfold zs6
 rw [xb5]
 conv => lhs; rw [<- List.map_id ns]
 exact List.map_congr_left fun n hn => ze6 h hn
theorem zr5 {ns : List Int} (h : zaH ns ≠ 0) : zaH (zs6 ns) ≠ 0 := fun e => by
 have e2 := zf4 (ze5 h) (zs6 ns)
 rw [<- zpl h, e, xbz] at e2
 exact h e2
def zfC (q : P6) : P6 := ((q.1.1.fdiv (zd8 (zar q)), q.1.2.1.fdiv (zd8 (zar q)), q.1.2.2.fdiv (zd8 (zar q))), (q.2.1.fdiv (zd8 (zar q)), q.2.2.1.fdiv (zd8 (zar q)), q.2.2.2.fdiv (zd8 (zar q))))
theorem ziz (q : P6) : zar (zfC q) = zs6 (zar q) := rfl
theorem zqk {q : P6} (h : Nz6 q) (p : P3) : qv q p = zd8 (zar q) * qv (zfC q) p := by
 have m : ∀ x ∈ zar q, x = zd8 (zar q) * x.fdiv (zd8 (zar q)) := fun x hx => ze6 h hx
 have a1 := m q.1.1 (by simp [zar])
 have a2 := m q.1.2.1 (by simp [zar])
 have a3 := m q.1.2.2 (by simp [zar])
 have a4 := m q.2.1 (by simp [zar])
 have a5 := m q.2.2.1 (by simp [zar])
 have a6 := m q.2.2.2 (by simp [zar])
 have e : qv q p = qv ((zd8 (zar q) * (zfC q).1.1, zd8 (zar q) * (zfC q).1.2.1, zd8 (zar q) * (zfC q).1.2.2), (zd8 (zar q) * (zfC q).2.1, zd8 (zar q) * (zfC q).2.2.1, zd8 (zar q) * (zfC q).2.2.2)) p := by
  congr 1
  exact xap (xap a1 (xap a2 a3)) (xap a4 (xap a5 a6))
 rw [e]
 generalize zd8 (zar q) = s
 generalize zfC q = r
 unfold qv; grind
theorem zbP {q : P6} (h : Nz6 q) {p : P3} : qv (zfC q) p = 0 ↔ qv q p = 0 := by
 rw [zqk h p]
 constructor
 ·intro e; rw [e, xbz]
 ·intro e; exact za0 (ze5 h) e
def zeq (a b c d e : P3) : P6 := comb (dot (low (crs a c)) e * dot (low (crs b d)) e) (dot (low (crs a b)) e * dot (low (crs c d)) e) (prd (low (crs a b)) (low (crs c d))) (prd (low (crs a c)) (low (crs b d)))
theorem zmL (a b c d e p : P3) : qv (zeq a b c d e) p = dot (low (crs a c)) e * dot (low (crs b d)) e * (dot (low (crs a b)) p * dot (low (crs c d)) p) - dot (low (crs a b)) e * dot (low (crs c d)) e * (dot (low (crs a c)) p * dot (low (crs b d)) p) := by
 unfold zeq; rw [zr2, zqi, zqi]
structure G5 (a b c d e : P3) : Prop where
 abc : ¬ C3 a b c
 abd : ¬ C3 a b d
 abe : ¬ C3 a b e
 acd : ¬ C3 a c d
 ace : ¬ C3 a c e
 ade : ¬ C3 a d e
 bcd : ¬ C3 b c d
 bce : ¬ C3 b c e
 bde : ¬ C3 b d e
 cde : ¬ C3 c d e
theorem zav {a b c : P3} (h : ¬ C3 a b c) : Nz (crs a b) := fun ⟨z1, z2, z3⟩ => h (by
 refine C3.rot (C3.rot (?_ : C3 c a b))
 show dot c (crs a b) = 0
 unfold dot; rw [z1, z2, z3]; simp)
theorem zjy {a b p : P3} (h : Nz (crs a b)) : dot (low (crs a b)) p = 0 ↔ C3 p a b := by
 rw [zcB, zjD h]; rfl
theorem zmM {a b c d e : P3} (g : G5 a b c d e) : Nz6 (zeq a b c d e) := by
 have zab := zav g.abc
 have zac := zav (fun h => g.abc (C3.s23 h) : ¬ C3 a c b)
 have zcd := zav g.cde
 have zbd := zav g.bde
 refine ztT (p := zc7 1 1 0 a b c) ?_
 rw [zmL]
 have ld : ∀ l : P3, dot l (zc7 1 1 0 a b c) = dot l a + dot l b := fun l => by unfold dot zc7; grind
 have z1 : dot (low (crs a b)) a = 0 := (zjy zab).mpr (C3.aab _ _)
 have z2 : dot (low (crs a b)) b = 0 := (zjy zab).mpr (C3.aba _ _)
 have z3 : dot (low (crs a c)) a = 0 := (zjy zac).mpr (C3.aab _ _)
 have z4 : dot (low (crs b d)) b = 0 := (zjy zbd).mpr (C3.aab _ _)
 have y1 : dot (low (crs a c)) b ≠ 0 := fun z => g.abc (C3.s12 ((zjy zac).mp z))
 have y2 : dot (low (crs b d)) a ≠ 0 := fun z => g.abd ((zjy zbd).mp z)
 have y3 : dot (low (crs a b)) e ≠ 0 := fun z => g.abe (C3.rot (C3.rot ((zjy zab).mp z)))
 have y4 : dot (low (crs c d)) e ≠ 0 := fun z => g.cde (C3.rot (C3.rot ((zjy zcd).mp z)))
 rw [ld, ld, ld, ld, z1, z2, z3, z4]
 intro h
 have : dot (low (crs a b)) e * dot (low (crs c d)) e * (dot (low (crs a c)) b * dot (low (crs b d)) a) = 0 := by
  simp only [Int.add_zero, Int.zero_add, Int.zero_mul, xbz, xc7] at h
  omega
 exact zbE (zbE y3 y4) (zbE y1 y2) this
theorem zql {a b c d e : P3} (g : G5 a b c d e) : qv (zeq a b c d e) a = 0 /\ qv (zeq a b c d e) b = 0 /\ qv (zeq a b c d e) c = 0 /\ qv (zeq a b c d e) d = 0 /\ qv (zeq a b c d e) e = 0 := by
 have zab := zav g.abc
 have zac := zav (fun h => g.abc (C3.s23 h) : ¬ C3 a c b)
 have zcd := zav g.cde
 have zbd := zav g.bde
 have z1 : dot (low (crs a b)) a = 0 := (zjy zab).mpr (C3.aab _ _)
 have z2 : dot (low (crs a b)) b = 0 := (zjy zab).mpr (C3.aba _ _)
 have z3 : dot (low (crs a c)) a = 0 := (zjy zac).mpr (C3.aab _ _)
 have z4 : dot (low (crs a c)) c = 0 := (zjy zac).mpr (C3.aba _ _)
 have z5 : dot (low (crs c d)) c = 0 := (zjy zcd).mpr (C3.aab _ _)
 have z6 : dot (low (crs c d)) d = 0 := (zjy zcd).mpr (C3.aba _ _)
 have z7 : dot (low (crs b d)) b = 0 := (zjy zbd).mpr (C3.aab _ _)
 have z8 : dot (low (crs b d)) d = 0 := (zjy zbd).mpr (C3.aba _ _)
 refine ⟨?_, ?_, ?_, ?_, ?_⟩ <;> rw [zmL]
 ·rw [z1, z3]; simp
 ·rw [z2, z7]; simp
 ·rw [z5, z4]; simp
 ·rw [z6, z8]; simp
 ·rw [Int.mul_comm (dot (low (crs a b)) e * dot (low (crs c d)) e)]; omega
end Mth
namespace Mth
theorem zhP (q : P6) (x : P3) : bl q x x = 2 * qv q x := by unfold bl qv; grind
theorem zf5 (q : P6) (x y : P3) : bl q x y = bl q y x := by unfold bl; grind
theorem ztU (q : P6) (w x y z : Int) (a b c p : P3) : bl q (zc7 x y z a b c) p = x * bl q a p + y * bl q b p + z * bl q c p := by unfold bl zc7; grind
theorem ztV (q : P6) (s : Int) (x p : P3) : bl q (tms s x) p = s * bl q x p := by unfold bl tms; grind
theorem zwr {q : P6} {a b c d e : P3} (g : G5 a b c d e) (hq : Nz6 q) (qa : qv q a = 0) (qb : qv q b = 0) (qc : qv q c = 0) (qd : qv q d = 0) (qe : qv q e = 0) : bl q a b ≠ 0 := by
 intro h0
 have D0 : zaf a b c ≠ 0 := g.abc
 have k1 := zpk qa qb qc d
 have k2 := zpk qa qb qc e
 rw [qd, xbz] at k1
 rw [qe, xbz] at k2
 have zd : zaf a b d ≠ 0 := g.abd
 have ze : zaf a b e ≠ 0 := g.abe
 have m1 : zaf d b c * bl q a c + zaf a d c * bl q b c = 0 := by
  refine za0 zd ?_
  unfold dot mx ub at k1; simp only [h0] at k1; rw [k1]; grind
 have m2 : zaf e b c * bl q a c + zaf a e c * bl q b c = 0 := by
  refine za0 ze ?_
  unfold dot mx ub at k2; simp only [h0] at k2; rw [k2]; grind
 have pl := zwq a b c d e
 have nz : zaf a b c * zaf d e c ≠ 0 := zbE D0 (fun h => g.cde (C3.rot h))
 have e1 : bl q a c = 0 := by
  refine za0 nz ?_
  rw [<- pl]
  have x1 : zaf a e c * (zaf d b c * bl q a c + zaf a d c * bl q b c) = 0 := by rw [m1]; simp
  have x2 : zaf a d c * (zaf e b c * bl q a c + zaf a e c * bl q b c) = 0 := by rw [m2]; simp
  grind
 have e2 : bl q b c = 0 := by
  refine za0 nz ?_
  rw [<- pl]
  have x1 : zaf e b c * (zaf d b c * bl q a c + zaf a d c * bl q b c) = 0 := by rw [m1]; simp
  have x2 : zaf d b c * (zaf e b c * bl q a c + zaf a e c * bl q b c) = 0 := by rw [m2]; simp
  grind
 obtain ⟨x, hx, hx0⟩ := zr3 hq
 refine hx0 (zr4 (fun p => ?_) x hx)
 have k := zpk qa qb qc p
 have : dot (mx a b c p) (ub q a b c) = 0 := by unfold dot ub; rw [h0, e1, e2]; simp
 rw [this] at k
 exact za0 (zbE D0 D0) k
structure On5 (q : P6) (a b c d e : P3) : Prop where
 g : G5 a b c d e
 nz : Nz6 q
 a : qv q a = 0
 b : qv q b = 0
 c : qv q c = 0
 d : qv q d = 0
 e : qv q e = 0
theorem G5.rot3 {a b c d e : P3} (g : G5 a b c d e) : G5 b c a d e := ⟨fun h => g.abc h.rot, g.bcd, g.bce, fun h => g.abd h.s12, fun h => g.abe h.s12, g.bde, fun h => g.acd h.s12, fun h => g.ace h.s12, g.cde, g.ade⟩
theorem On5.rot3 {q : P6} {a b c d e : P3} (o : On5 q a b c d e) : On5 q b c a d e := ⟨o.g.rot3, o.nz, o.b, o.c, o.a, o.d, o.e⟩
theorem On5.ab {q : P6} {a b c d e : P3} (o : On5 q a b c d e) : bl q a b ≠ 0 := zwr o.g o.nz o.a o.b o.c o.d o.e
theorem On5.bc {q : P6} {a b c d e : P3} (o : On5 q a b c d e) : bl q b c ≠ 0 := o.rot3.ab
theorem On5.ac {q : P6} {a b c d e : P3} (o : On5 q a b c d e) : bl q a c ≠ 0 := by rw [zf5]; exact o.rot3.rot3.ab
theorem On5.by3 {q : P6} {a b c d e : P3} (o : On5 q a b c d e) (x : P3) :
  zaf a b c * bl q x a = zaf a x c * bl q a b + zaf a b x * bl q a c /\ zaf a b c * bl q x b = zaf x b c * bl q a b + zaf a b x * bl q b c /\ zaf a b c * bl q x c = zaf x b c * bl q a c + zaf a x c * bl q b c := by
 have h := fun p => ztU q 0 (zaf x b c) (zaf a x c) (zaf a b x) a b c p
 simp only [zjF, ztV] at h
 have ha := h a
 have hb := h b
 have hc := h c
 rw [zhP, o.a] at ha
 rw [zhP, o.b] at hb
 rw [zhP, o.c] at hc
 rw [zf5 q b a, zf5 q c a] at ha
 rw [zf5 q c b] at hb
 refine ⟨?_, ?_, ?_⟩ <;> omega
theorem On5.touch {q : P6} {a b c d e : P3} (o : On5 q a b c d e) {x : P3} (h0 : bl q a x = 0) (hq : qv q x = 0) : crs a x = (0, 0, 0) := by
 obtain ⟨h1, _, _⟩ := o.by3 x
 rw [zf5, h0, xbz] at h1
 have k := zpk o.a o.b o.c x
 rw [hq, xbz] at k
 have n1 := o.ab
 have n2 := o.ac
 have n3 := o.bc
 have D0 : zaf a b c ≠ 0 := o.g.abc
 have z : zaf a x c * zaf a b x = 0 := by
  refine za0 n3 ?_
  unfold dot mx ub at k
  simp only at k
  generalize zaf x b c = x1 at *
  generalize zaf a x c = x2 at *
  generalize zaf a b x = x3 at *
  have y1 : x1 * (x2 * bl q a b + x3 * bl q a c) = 0 := by rw [<- h1]; simp
  grind
 have e2 : zaf a x c = 0 /\ zaf a b x = 0 := by
  rcases xaz.mp z with z | z
  ·rw [z] at h1; exact ⟨z, za0 n2 (by rw [Int.mul_comm]; omega)⟩
  ·rw [z] at h1; exact ⟨za0 n1 (by rw [Int.mul_comm]; omega), z⟩
 have l := zjF a b c x
 rw [e2.1, e2.2] at l
 refine zd1 D0 ?_
 have : tms (zaf a b c) (crs a x) = crs a (tms (zaf a b c) x) := by unfold tms crs; exact xap (by grind) (xap (by grind) (by grind))
 rw [this, <- l]
 unfold zc7 crs; exact xap (by grind) (xap (by grind) (by grind))
theorem ziA (A B M : P3) : crs (crs A B) M = zc7 (dot A M) (- dot B M) 0 B A A := by
 unfold crs zc7 dot; exact xap (by grind) (xap (by grind) (by grind))
theorem zd2 (L b c : P3) : crs L (crs b c) = zc7 (dot L c) (- dot L b) 0 b c c := by
 unfold crs zc7 dot; exact xap (by grind) (xap (by grind) (by grind))
def q0 (a b c d e x : P3) : Int := zaf e a c * zaf e b d * (zaf x a b * zaf x c d) - zaf e a b * zaf e c d * (zaf x a c * zaf x b d)
def b0 (a b c d e p : P3) : Int := zaf e a c * zaf e b d * (zaf p a b * zaf a c d) - zaf e a b * zaf e c d * (zaf p a c * zaf a b d)
def x6 (a c d p : P3) : P3 := crs (crs a p) (crs c d)
def x7 (a b d e : P3) : P3 := crs (crs a b) (crs d e)
def x8 (a b c d e p : P3) : P3 := crs (crs (x6 a c d p) (x7 a b d e)) (crs b c)
def x9 (a b c d e p : P3) : P3 := crs (crs a p) (crs e (x8 a b c d e p))
theorem d67 (u v s r : Int) (c d e x : P3) : dot (crs (zc7 v (-u) 0 c d d) (zc7 s (-r) 0 d e e)) x = v * s * zaf x c d - v * r * zaf x c e + u * r * zaf x d e := by
 unfold dot crs zc7 zaf dot crs; grind
theorem d8 (β γ : Int) (b c e x : P3) : dot x (crs e (zc7 β (-γ) 0 b c c)) = β * zaf x e b - γ * zaf x e c := by
 unfold dot crs zc7 zaf dot crs; grind
theorem zws (a c d p : P3) : x6 a c d p = zc7 (zaf d a p) (- zaf c a p) 0 c d d := by
 unfold x6; rw [zd2, zcB (crs a p), zcB (crs a p)]; rfl
theorem ztW (a b d e : P3) : x7 a b d e = zc7 (zaf e a b) (- zaf d a b) 0 d e e := by
 unfold x7; rw [zd2, zcB (crs a b), zcB (crs a b)]; rfl
def be (a b c d e p : P3) : Int := zaf d a p * zaf e a b * zaf c c d - zaf d a p * zaf d a b * zaf c c e + zaf c a p * zaf d a b * zaf c d e
def ga (a b c d e p : P3) : Int := zaf d a p * zaf e a b * zaf b c d - zaf d a p * zaf d a b * zaf b c e + zaf c a p * zaf d a b * zaf b d e
theorem zwt (a b c d e p : P3) : x8 a b c d e p = zc7 (be a b c d e p) (- ga a b c d e p) 0 b c c := by
 unfold x8; rw [zd2, zws, ztW, d67, d67]; rfl
theorem co1 (c d e x y : P3) : zaf c d e * zaf c x y = zaf c x e * zaf c d y - zaf c d x * zaf c y e := by unfold zaf dot crs; grind
theorem co2 (c d e x y : P3) : zaf c d e * zaf d x y = zaf c d x * zaf y d e - zaf x d e * zaf c d y := by unfold zaf dot crs; grind
theorem co3 (c d e x y : P3) : zaf c d e * zaf e x y = zaf x d e * zaf c y e - zaf c x e * zaf y d e := by unfold zaf dot crs; grind
theorem ztX (c d e x y z : P3) : zaf c d e * zaf x y z = zaf x d e * zaf c y z + zaf c x e * zaf d y z + zaf c d x * zaf e y z := by unfold zaf dot crs; grind
theorem rot3 (x y z : P3) : zaf x y z = zaf y z x := by unfold zaf dot crs; grind
theorem ztY (a b c d e p : P3) (hD : zaf c d e ≠ 0) : be a b c d e p * zaf p e b - ga a b c d e p * zaf p e c = - q0 a b c d e p := by
 have k1 : zaf c c d = 0 := C3.aab _ _
 have k2 : zaf c c e = 0 := C3.aab _ _
 have u := co1 c d e a p
 have v := co2 c d e a p
 have s := co3 c d e a b
 have r := co2 c d e a b
 have w := co3 c d e b p
 have t1 := co1 c d e p a
 have t2 := co2 c d e p b
 have t3 := ztX c d e p a b
 have t4 := co1 c d e a b
 have f1 : zaf p e b = zaf e b p := rot3 _ _ _
 have f2 : zaf p e c = zaf c p e := (rot3 _ _ _).symm
 have f3 : zaf b c d = zaf c d b := rot3 _ _ _
 have f4 : zaf b c e = - zaf c b e := zpj _ _ _
 have f5 : zaf e a c = - zaf c a e := by unfold zaf dot crs; grind
 have f6 : zaf e b d = zaf b d e := rot3 _ _ _
 have f7 : zaf p c d = zaf c d p := rot3 _ _ _
 have f8 : zaf e c d = zaf c d e := rot3 _ _ _
 have f9 : zaf p a c = zaf c p a := (rot3 _ _ _).symm
 have f10 : zaf p b d = zaf d p b := (rot3 _ _ _).symm
 unfold be ga q0
 rw [k1, k2, f1, f2, f3, f4, f5, f6, f7, f8, f9, f10]
 generalize zaf c a p = U at *
 generalize zaf d a p = V at *
 generalize zaf e a b = S at *
 generalize zaf d a b = Rr at *
 generalize zaf e b p = W at *
 generalize zaf c p a = T1 at *
 generalize zaf d p b = T2 at *
 generalize zaf p a b = T3 at *
 generalize zaf c a b = T4 at *
 generalize zaf c d e = Dd at *
 generalize zaf c a e = a2 at *
 generalize zaf c d a = a3 at *
 generalize zaf a d e = a1 at *
 generalize zaf c b e = b2 at *
 generalize zaf c d b = b3 at *
 generalize zaf b d e = b1 at *
 generalize zaf c p e = p2 at *
 generalize zaf c d p = p3 at *
 generalize zaf p d e = p1 at *
 have n3 := zbE (zbE hD hD) hD
 have fin : Dd * Dd * Dd * ((V * S * 0 - V * Rr * 0 + U * Rr * Dd) * W - (V * S * b3 - V * Rr * -b2 + U * Rr * b1) * p2 + (-a2 * b1 * (T3 * p3) - S * Dd * (T1 * T2))) = 0 := by
  have e1 : Dd * Dd * Dd * ((V * S * 0 - V * Rr * 0 + U * Rr * Dd) * W - (V * S * b3 - V * Rr * -b2 + U * Rr * b1) * p2 + (-a2 * b1 * (T3 * p3) - S * Dd * (T1 * T2)))
   = Dd * ((Dd * U) * (Dd * Rr) * (Dd * W) - ((Dd * V) * (Dd * S) * b3 + (Dd * V) * (Dd * Rr) * b2 + (Dd * U) * (Dd * Rr) * b1) * p2 - a2 * b1 * (p1 * (Dd * T4) + p2 * (Dd * Rr) + p3 * (Dd * S)) * p3 - (Dd * S) * (Dd * T1) * (Dd * T2)) + Dd * Dd * a2 * b1 * p3 * (p1 * T4 + p2 * Rr + p3 * S - Dd * T3) := by grind
  rw [e1, u, v, s, r, w, t1, t2, t4, t3]
  grind
 have := za0 n3 fin
 omega
theorem ztZ (a b c d e p : P3) (hD : zaf c d e ≠ 0) : be a b c d e p * zaf a e b - ga a b c d e p * zaf a e c = - b0 a b c d e p := by
 have k1 : zaf c c d = 0 := C3.aab _ _
 have k2 : zaf c c e = 0 := C3.aab _ _
 have u := co1 c d e a p
 have v := co2 c d e a p
 have s := co3 c d e a b
 have r := co2 c d e a b
 have w := co3 c d e b a
 have t3 := ztX c d e p a b
 have t4 := co1 c d e a b
 have f1 : zaf a e b = - zaf e a b := zpj _ _ _
 have f2 : zaf a e c = zaf c a e := (rot3 _ _ _).symm
 have f3 : zaf b c d = zaf c d b := rot3 _ _ _
 have f4 : zaf b c e = - zaf c b e := zpj _ _ _
 have f5 : zaf e a c = - zaf c a e := by unfold zaf dot crs; grind
 have f6 : zaf e b d = zaf b d e := rot3 _ _ _
 have f7 : zaf a c d = zaf c d a := rot3 _ _ _
 have f8 : zaf e c d = zaf c d e := rot3 _ _ _
 have f9 : zaf p a c = - zaf c a p := by unfold zaf dot crs; grind
 have f10 : zaf a b d = zaf d a b := (rot3 _ _ _).symm
 unfold be ga b0
 rw [k1, k2, f1, f2, f3, f4, f5, f6, f7, f8, f9, f10]
 generalize zaf c a p = U at *
 generalize zaf d a p = V at *
 generalize zaf e a b = S at *
 generalize zaf d a b = Rr at *
 generalize zaf p a b = T3 at *
 generalize zaf c a b = T4 at *
 generalize zaf c d e = Dd at *
 generalize zaf c a e = a2 at *
 generalize zaf c d a = a3 at *
 generalize zaf a d e = a1 at *
 generalize zaf c b e = b2 at *
 generalize zaf c d b = b3 at *
 generalize zaf b d e = b1 at *
 generalize zaf c p e = p2 at *
 generalize zaf c d p = p3 at *
 generalize zaf p d e = p1 at *
 have n3 := zbE (zbE hD hD) hD
 have fin : Dd * Dd * Dd * ((V * S * 0 - V * Rr * 0 + U * Rr * Dd) * -S - (V * S * b3 - V * Rr * -b2 + U * Rr * b1) * a2 + (-a2 * b1 * (T3 * a3) - S * Dd * (-U * Rr))) = 0 := by
  have e1 : Dd * Dd * Dd * ((V * S * 0 - V * Rr * 0 + U * Rr * Dd) * -S - (V * S * b3 - V * Rr * -b2 + U * Rr * b1) * a2 + (-a2 * b1 * (T3 * a3) - S * Dd * (-U * Rr)))
   = Dd * (- ((Dd * V) * (Dd * S) * b3 + (Dd * V) * (Dd * Rr) * b2 + (Dd * U) * (Dd * Rr) * b1) * a2 - a2 * b1 * (p1 * (Dd * T4) + p2 * (Dd * Rr) + p3 * (Dd * S)) * a3) + Dd * Dd * a2 * b1 * a3 * (p1 * T4 + p2 * Rr + p3 * S - Dd * T3) := by grind
  rw [e1, u, v, s, r, t4, t3]
  grind
 have := za0 n3 fin
 omega
theorem zt0 (a b c d e p : P3) (hD : zaf c d e ≠ 0) : x9 a b c d e p = zc7 (q0 a b c d e p) (- b0 a b c d e p) 0 a p p := by
 unfold x9
 rw [ziA, zwt, d8, d8, ztY a b c d e p hD, ztZ a b c d e p hD]
 unfold zc7; exact xap (by grind) (xap (by grind) (by grind))
end Mth
namespace Mth
theorem ziB {x l m : P3} (h1 : dot x l = 0) (h2 : dot x m ≠ 0) (hl : Nz l) : Nz (crs l m) := zlO fun e => by
 have k : crs x (crs l m) = zc7 (dot x m) (- dot x l) 0 l m m := zd2 x l m
 rw [e, h1] at k
 refine zf3 hl (zd1 h2 ?_)
 have z : crs x (0, 0, 0) = (0, 0, 0) := by unfold crs; simp
 rw [z] at k
 rw [k]; unfold tms zc7; simp
theorem ziC {u v : P3} (hu : Nz u) (hv : Nz v) (h : Nz (crs u v)) : low u ≠ low v := fun e => zf3 h (zrY hu hv e)
theorem ze7 {u v : P3} (hu : Nz u) (hv : Nz v) (h : Nz (crs u v)) : Nz (crs (low u) (low v)) /\ low (crs (low u) (low v)) = low (crs u v) := by
 have e : crs u v = tms (sOf u * sOf v) (crs (low u) (low v)) := by
  conv => lhs; rw [zdh hu, zdh hv]
  exact zjE _ _ _ _
 rw [e] at h
 have z := zmJ h
 exact ⟨z, by rw [e, zha (zbE (zcA hu).1 (zcA hv).1) z]⟩
theorem zfj {a b : P3} (h : Nz (crs a b)) (x : P3) : zaf x a b = sOf (crs a b) * dot (low (crs a b)) x := by
 have e := zdh h
 show dot x (crs a b) = _
 conv => lhs; rw [e]
 generalize sOf (crs a b) = s
 generalize low (crs a b) = l
 unfold dot tms; grind
theorem zt1 {a b c d e : P3} (g : G5 a b c d e) : ∃ k, k ≠ 0 /\ ∀ x, q0 a b c d e x = k * qv (zeq a b c d e) x := by
 have zab := zav g.abc
 have zac := zav (fun h => g.abc (C3.s23 h) : ¬ C3 a c b)
 have zcd := zav g.cde
 have zbd := zav g.bde
 refine ⟨sOf (crs a c) * sOf (crs b d) * (sOf (crs a b) * sOf (crs c d)), zbE (zbE (zcA zac).1 (zcA zbd).1) (zbE (zcA zab).1 (zcA zcd).1), fun x => ?_⟩
 unfold q0
 rw [zmL, zfj zac e, zfj zbd e, zfj zab x, zfj zcd x, zfj zab e, zfj zcd e, zfj zac x, zfj zbd x]
 grind
theorem zt2 (a b c d e p : P3) : q0 a b c d e (zc7 1 1 0 a p p) = q0 a b c d e p + b0 a b c d e p := by
 have l : ∀ y z : P3, zaf (zc7 1 1 0 a p p) y z = zaf a y z + zaf p y z := fun y z => by unfold zaf zc7 dot; grind
 have z1 : zaf a a b = 0 := C3.aab _ _
 have z2 : zaf a a c = 0 := C3.aab _ _
 unfold q0 b0
 rw [l, l, l, l, z1, z2]
 grind
def ziD (q : P6) (a p : P3) : P3 := zc7 (qv q p) (- bl q a p) 0 a p p
theorem zmN {a b c d e : P3} (g : G5 a b c d e) (p : P3) : ∃ k, k ≠ 0 /\ x9 a b c d e p = tms k (ziD (zfC (zeq a b c d e)) a p) := by
 obtain ⟨k, hk, h⟩ := zt1 g
 have zn := zmM g
 have hq : ∀ x, q0 a b c d e x = k * zd8 (zar (zeq a b c d e)) * qv (zfC (zeq a b c d e)) x := fun x => by rw [h x, zqk zn x, Int.mul_assoc]
 have ks := zbE hk (ze5 zn)
 generalize k * zd8 (zar (zeq a b c d e)) = K at hq ks
 have qa : qv (zfC (zeq a b c d e)) a = 0 := (zbP zn).mpr (zql g).1
 refine ⟨K, ks, ?_⟩
 have hb : b0 a b c d e p = K * bl (zfC (zeq a b c d e)) a p := by
  have e1 := zt2 a b c d e p
  rw [hq, hq, zmK, qa] at e1
  generalize b0 a b c d e p = u at *
  generalize bl (zfC (zeq a b c d e)) a p = w at *
  generalize qv (zfC (zeq a b c d e)) p = v at *
  grind
 rw [zt0 a b c d e p g.cde, hq, hb]
 unfold ziD zc7 tms; exact xap (by grind) (xap (by grind) (by grind))
theorem On5.meet_nz {q : P6} {a b c d e : P3} (o : On5 q a b c d e) {p : P3} (h : Nz (crs a p)) : Nz (ziD q a p) := zlO fun z => by
 have e1 : crs a (ziD q a p) = tms (- bl q a p) (crs a p) := by unfold ziD zc7 tms crs; exact xap (by grind) (xap (by grind) (by grind))
 have e2 : crs (ziD q a p) p = tms (qv q p) (crs a p) := by unfold ziD zc7 tms crs; exact xap (by grind) (xap (by grind) (by grind))
 have z1 : crs a (0, 0, 0) = (0, 0, 0) := by unfold crs; simp
 have z2 : crs (0, 0, 0) p = (0, 0, 0) := by unfold crs; simp
 rw [z, z1] at e1
 rw [z, z2] at e2
 have b1 : bl q a p = 0 := xa9 fun n => zf3 h (zd1 (s := - bl q a p) (by omega) e1.symm)
 have q1 : qv q p = 0 := xa9 fun n => zf3 h (zd1 n e2.symm)
 exact zf3 h (o.touch b1 q1)
theorem zr6 {q : P6} {a : P3} (qa : qv q a = 0) (p : P3) : qv q (ziD q a p) = 0 := by
 unfold ziD
 rw [zmK, qa]
 have e : bl q p p = 2 * qv q p := zhP q p
 generalize bl q a p = w at *
 generalize qv q p = v at *
 grind
theorem zpm (q : P6) (a p : P3) : zaf a p (ziD q a p) = 0 := by
 unfold ziD zaf zc7 dot crs; grind
theorem zmO {a b c d e : P3} (g : G5 a b c d e) : On5 (zfC (zeq a b c d e)) a b c d e := by
 have zn := zmM g
 obtain ⟨a0, a1, a2, a3, a4⟩ := zql g
 exact ⟨g, zr5 zn, (zbP zn).mpr a0, (zbP zn).mpr a1, (zbP zn).mpr a2, (zbP zn).mpr a3, (zbP zn).mpr a4⟩
structure zwu (a b c d e p : P3) : Prop where
 l : Nz (crs a p)
 cd : Nz (crs c d)
 ab : Nz (crs a b)
 de : Nz (crs d e)
 bc : Nz (crs b c)
 n6 : Nz (x6 a c d p)
 n7 : Nz (x7 a b d e)
 l67 : Nz (crs (x6 a c d p) (x7 a b d e))
 n8 : Nz (x8 a b c d e p)
 l48 : Nz (crs e (x8 a b c d e p))
 n9 : Nz (x9 a b c d e p)
theorem zt3 {a b c d e p : P3} (g : G5 a b c d e) (h : Nz (crs a p)) : zwu a b c d e p := by
 have cd : Nz (crs c d) := zav g.cde
 have ab : Nz (crs a b) := zav g.abc
 have de : Nz (crs d e) := zav (fun h => g.ade h.rot : ¬ C3 d e a)
 have bc : Nz (crs b c) := zav g.bcd
 have n6 : Nz (x6 a c d p) := ziB (x := a) (zkm a p) g.acd h
 have n7 : Nz (x7 a b d e) := ziB (x := a) (zkm a b) g.ade ab
 have on1 : ∀ u v : P3, dot v (crs u v) = 0 := fun u v => by unfold dot crs; grind
 have on2 : ∀ u v : P3, dot (crs u v) v = 0 := fun u v => by unfold dot crs; grind
 have l67 : Nz (crs (x6 a c d p) (x7 a b d e)) := by
  refine ziB (x := crs c d) (by rw [zcB]; exact on2 _ _) ?_ n6
  have : dot (crs c d) (x7 a b d e) = - (zaf d a b * zaf e c d) := by rw [ztW]; unfold zaf zc7 dot crs; grind
  rw [this]
  have := zbE (show zaf d a b ≠ 0 from fun h => g.abd (C3.rot (C3.rot h))) (show zaf e c d ≠ 0 from fun h => g.cde (C3.rot (C3.rot h)))
  omega
 have n8 : Nz (x8 a b c d e p) := by
  refine ziB (x := x7 a b d e) (on1 _ _) ?_ l67
  have : dot (x7 a b d e) (crs b c) = - (zaf b d e * zaf a b c) := by unfold x7; rw [ziA]; unfold zaf zc7 dot crs; grind
  rw [this]
  have := zbE (show zaf b d e ≠ 0 from g.bde) (show zaf a b c ≠ 0 from g.abc)
  omega
 have l48 : Nz (crs e (x8 a b c d e p)) := by
  have hh : Nz (crs (x8 a b c d e p) e) := ziB (x := crs b c) (by rw [zcB]; exact on2 _ _) (by rw [zcB]; exact (show zaf e b c ≠ 0 from fun h => g.bce (C3.rot (C3.rot h)))) n8
  refine zlO fun z => zf3 hh ?_
  have : crs (x8 a b c d e p) e = tms (-1) (crs e (x8 a b c d e p)) := by unfold crs tms; exact xap (by grind) (xap (by grind) (by grind))
  rw [this, z]; unfold tms; simp
 obtain ⟨k, hk, e9⟩ := zmN g p
 exact ⟨h, cd, ab, de, bc, n6, n7, l67, n8, l48, by rw [e9]; exact zqh hk ((zmO g).meet_nz h)⟩
theorem zwu.low9 {a b c d e p : P3} (g : G5 a b c d e) (D : zwu a b c d e p) : low (x9 a b c d e p) = low (ziD (zfC (zeq a b c d e)) a p) := by
 obtain ⟨k, hk, e9⟩ := zmN g p
 have := D.n9
 rw [e9] at this ⊢
 rw [zha hk (zmJ this)]
end Mth
namespace SetT
open PySem.SetTable
theorem zkn : ∀ (n : Nat) (l : List Nat), (∀ j, j < n -> j ∈ l) -> n <= l.length
 | 0, _, _ => xch _
 | n + 1, l, h => by
  have hn : n ∈ l := h n (xcz _)
  have := zkn n (l.erase n) fun j hj => (List.mem_erase_of_ne (by omega)).mpr (h j (by omega))
  rw [List.length_erase_of_mem hn] at this
  have : 0 < l.length := List.length_pos_of_mem hn
  omega
theorem no_has (j : Nat) : has #[] j = false := rfl
theorem slot_cases {t : SetTable} (hd : t.dummies = #[]) (j : Nat) : t.slot j = .empty \/ ∃ i, t.slot j = .live i /\ t.place[i]? = some j := by
 unfold slot
 simp only
 by_cases h : (t.place[below t.place j]? == some j) = true
 ·rw [if_pos h]
  exact .inr ⟨_, rfl, eq_of_beq h⟩
 ·rw [if_neg h, hd, no_has]
  exact .inl rfl
theorem zlP {t : SetTable} (hd : t.dummies = #[]) {n : Nat} (hn : t.place.size < n) : ∃ j, j < n /\ t.slot j = .empty := by
 refine xa9 fun h => ?_
 have : n <= t.place.toList.length := zkn n _ fun j hj => by
  rcases slot_cases hd j with e | ⟨i, _, hi⟩
  ·exact absurd ⟨j, hj, e⟩ h
  ·rw [<- xaw] at hi
   exact xbe hi
 rw [xat] at this
 omega
def iter (t : SetTable) : Nat -> Probe -> Probe
 | 0, p => p
 | k + 1, p => iter t k (t.advance p)
theorem iter_add (t : SetTable) : ∀ (a b : Nat) (p : Probe), iter t (a + b) p = iter t b (iter t a p)
 | 0, b, p => by rw [xbm]; rfl
 | a + 1, b, p => by rw [Nat.succ_add]; exact iter_add t a b (t.advance p)
theorem adv_dummy (t : SetTable) (p : Probe) : (t.advance p).dummy = p.dummy := by
 unfold advance; split <;> rfl
def start (mask i perturb : Nat) : Probe := { j := i, more := runEnd mask i - i, i, perturb, dummy := none }
theorem zko (mask i : Nat) : runEnd mask i - i <= 9 := by unfold runEnd; split <;> omega
theorem zmP {t : SetTable} : ∀ (m : Nat) (p : Probe), p.more = m -> p.dummy = none -> iter t (m + 1) p = start t.mask (leap t.mask p.i p.perturb).1 (leap t.mask p.i p.perturb).2
 | 0, p, hm, hd => by
  show t.advance p = _
  unfold advance start
  rw [if_neg (by omega), hd]
 | m + 1, p, hm, hd => by
  show iter t (m + 1) (t.advance p) = _
  have e : t.advance p = { p with j := p.j + 1, more := p.more - 1 } := by unfold advance; rw [if_pos (by omega)]
  rw [e]
  exact zmP m { p with j := p.j + 1, more := p.more - 1 } (by show p.more - 1 = m; omega) hd
def zbj (mask : Nat) : Nat -> Nat × Nat -> Nat × Nat
 | 0, s => s
 | n + 1, s => zbj mask n (leap mask s.1 s.2)
theorem zer (mask : Nat) : ∀ (n : Nat) (s : Nat × Nat), zbj mask (n + 1) s = leap mask (zbj mask n s).1 (zbj mask n s).2
 | 0, _ => rfl
 | n + 1, s => zer mask n (leap mask s.1 s.2)
theorem zf6 {t : SetTable} : ∀ (n : Nat) (s : Nat × Nat), ∃ k, k <= 10 * n /\ iter t k (start t.mask s.1 s.2) = start t.mask (zbj t.mask n s).1 (zbj t.mask n s).2
 | 0, s => ⟨0, xad _, rfl⟩
 | n + 1, s => by
  obtain ⟨k, hk, e⟩ := zf6 n (leap t.mask s.1 s.2)
  have hr := zmP (t := t) _ (start t.mask s.1 s.2) rfl rfl
  refine ⟨(runEnd t.mask s.1 - s.1 + 1) + k, ?_, ?_⟩
  ·have := zko t.mask s.1; omega
  ·rw [iter_add]
   have hr : iter t (runEnd t.mask s.1 - s.1 + 1) (start t.mask s.1 s.2) = start t.mask (leap t.mask s.1 s.2).1 (leap t.mask s.1 s.2).2 := hr
   rw [hr]; exact e
theorem zea (mask : Nat) : ∀ (n : Nat) (s : Nat × Nat), (zbj mask n s).2 = s.2 / 32 ^ n
 | 0, s => by simp [zbj]
 | n + 1, s => by
  rw [zer]
  show (zbj mask n s).2 / 32 = _
  rw [zea mask n s, Nat.div_div_eq_div_mul, <- Nat.pow_succ]
def zt4 (mask : Nat) : Nat -> Nat -> Nat
 | 0, i => i
 | n + 1, i => zt4 mask n ((i * 5 + 1) % (mask + 1))
theorem zf7 (mask : Nat) : ∀ (n i : Nat), zbj mask n (i, 0) = (zt4 mask n i, 0)
 | 0, i => rfl
 | n + 1, i => by
  show zbj mask n (leap mask i 0) = _
  have : leap mask i 0 = ((i * 5 + 1) % (mask + 1), 0) := by unfold leap; simp
  rw [this, zf7 mask n]; rfl
theorem zhc (mask : Nat) : ∀ (a b : Nat) (s : Nat × Nat), zbj mask (a + b) s = zbj mask b (zbj mask a s)
 | 0, b, s => by rw [xbm]; rfl
 | a + 1, b, s => by rw [Nat.succ_add]; exact zhc mask a b (leap mask s.1 s.2)
theorem all7 : (List.range 8).all (fun i => (List.range 8).all fun j => (List.range 8).any fun n => zt4 7 n i == j) = true := by decide +kernel
theorem zwv : (List.range 32).all (fun i => (List.range 32).all fun j => (List.range 32).any fun n => zt4 31 n i == j) = true := by decide +kernel
theorem zpn {mask : Nat} (hm : mask = 7 \/ mask = 31) {i j : Nat} (hi : i <= mask) (hj : j <= mask) : ∃ n, n <= mask /\ zt4 mask n i = j := by
 rcases hm with rfl | rfl
 ·have h := xa1.mp (xa1.mp all7 i (xa3.mpr (by omega))) j (xa3.mpr (by omega))
  obtain ⟨n, h1, h2⟩ := List.any_eq_true.mp h
  exact ⟨n, by have := xa3.mp h1; omega, eq_of_beq h2⟩
 ·have h := xa1.mp (xa1.mp zwv i (xa3.mpr (by omega))) j (xa3.mpr (by omega))
  obtain ⟨n, h1, h2⟩ := List.any_eq_true.mp h
  exact ⟨n, by have := xa3.mp h1; omega, eq_of_beq h2⟩
theorem zmQ {mask : Nat} (n : Nat) {s : Nat × Nat} (hs : s.1 <= mask) : (zbj mask n s).1 <= mask := by
 cases n with
 | zero => exact hs
 | succ n =>
  rw [zer]
  show (_ % (mask + 1)) <= mask
  have := xcq ((zbj mask n s).1 * 5 + 1 + (zbj mask n s).2 / 32) (show 0 < mask + 1 by omega)
  omega
theorem zhd {mask : Nat} (hm : mask = 7 \/ mask = 31) {s : Nat × Nat} (hs : s.1 <= mask) (hb : s.2 < 2 ^ 64) {j : Nat} (hj : j <= mask) : ∃ n, n <= mask + 13 /\ (zbj mask n s).1 = j := by
 have e : (zbj mask 13 s).2 = 0 := by rw [zea]; exact Nat.div_eq_of_lt (xak hb (by decide))
 obtain ⟨n, h1, h2⟩ := zpn hm (zmQ 13 hs) hj
 refine ⟨13 + n, by omega, ?_⟩
 rw [zhc]
 have : zbj mask 13 s = ((zbj mask 13 s).1, 0) := xap rfl e
 rw [this, zf7]; exact h2
theorem zmR (h : Int) : bits h < 2 ^ 64 := by
 unfold bits
 have h1 := xbu h (show (2 ^ 64 : Int) ≠ 0 by decide)
 have h2 := xb0 h (show (0 : Int) < 2 ^ 64 by decide)
 omega
theorem meets_empty {t : SetTable} (hd : t.dummies = #[]) (hm : t.mask = 7 \/ t.mask = 31) (hs : t.place.size <= t.mask) (h : Int) : ∃ k, k < 10 * turns t.mask /\ t.slot (iter t k (t.probeStart h)).j = .empty := by
 obtain ⟨j, hj, he⟩ := zlP hd (n := t.mask + 1) (by omega)
 have hi : bits h % (t.mask + 1) <= t.mask := by have := xcq (bits h) (show 0 < t.mask + 1 by omega); omega
 obtain ⟨n, h1, h2⟩ := zhd hm (s := (bits h % (t.mask + 1), bits h)) hi (zmR h) (show j <= t.mask by omega)
 obtain ⟨k, hk, e⟩ := zf6 (t := t) n (bits h % (t.mask + 1), bits h)
 refine ⟨k, by unfold turns; omega, ?_⟩
 have e : iter t k (t.probeStart h) = _ := e
 rw [e]
 show t.slot (zbj t.mask n (bits h % (t.mask + 1), bits h)).1 = .empty
 rw [h2]; exact he
theorem fm_all {α β : Type} (f : α -> Option β) : ∀ l : List α, (∀ a ∈ l, (f a).isSome = true) -> (l.filterMap f).length = l.length
 | [], _ => rfl
 | a :: l, h => by
  obtain ⟨b, hb⟩ := xbb.mp (h a xan)
  rw [xa2 hb, xas, xas, fm_all f l fun x hx => h x (xae _ hx)]
theorem zhQ {β : Type} (f : Nat -> Option β) : ∀ l : List Nat, (l.filterMap fun j => (f j).map (j, ·)).length = (l.filterMap f).length
 | [] => rfl
 | a :: l => by
  cases h : f a with
  | none => rw [xbc (by rw [h]; rfl), xbc h, zhQ f l]
  | some b => rw [xa2 (by rw [h]; rfl), xa2 h, xas, xas, zhQ f l]
theorem zkp {β : Type} {f g : Nat -> Option β} : ∀ l : List Nat, (∀ x ∈ l, g x = f x) -> l.filterMap g = l.filterMap f
 | [], _ => rfl
 | a :: l, h => by
  have ih := zkp l fun x hx => h x (xae _ hx)
  have ha := h a xan
  cases e : f a with
  | none => rw [xbc e, xbc (by rw [ha]; exact e), ih]
  | some b => rw [xa2 e, xa2 (by rw [ha]; exact e), ih]
theorem zqm {β : Type} {f g : Nat -> Option β} {j : Nat} (hj : f j = none) (hg : (g j).isSome = true) (ho : ∀ i, i ≠ j -> g i = f i) : ∀ l : List Nat, l.Nodup -> j ∈ l -> (l.filterMap g).length = (l.filterMap f).length + 1
 | a :: l, hn, hm => by
  rw [xcj] at hn
  by_cases e : a = j
  ·subst e
   obtain ⟨b, hb⟩ := xbb.mp hg
   have same : l.filterMap g = l.filterMap f := zkp l fun x hx => ho x fun z => hn.1 (z ▸ hx)
   rw [xa2 hb, xbc hj, xas, same]
  ·have hm' : j ∈ l := (xaf.mp hm).elim (fun z => absurd z.symm e) id
   have ih := zqm hj hg ho l hn.2 hm'
   cases h : f a with
   | none => rw [xbc h, xbc (by rw [ho a e]; exact h), ih]
   | some b => rw [xa2 h, xa2 (by rw [ho a e]; exact h), xas, xas, ih]
def cnt (n : Nat) (owner : Array (Option Nat)) : Nat := ((List.range n).filterMap fun j => owner.getD j none).length
theorem zpo {n : Nat} {owner : Array (Option Nat)} (h : cnt n owner < n) : ∃ j, j < n /\ owner.getD j none = none := by
 refine xa9 fun q => ?_
 have : cnt n owner = (List.range n).length := fm_all _ _ fun j hj => by
  cases e : owner.getD j none with
  | none => exact absurd ⟨j, xa3.mp hj, e⟩ q
  | some b => rfl
 rw [List.length_range] at this
 omega
theorem zhR {owner : Array (Option Nat)} {j : Nat} (h : j < owner.size) (a b : Option Nat) : owner.getD j a = owner.getD j b := by
 rw [xav, xav, xbh h]; rfl
theorem zr7 {mask : Nat} {owner : Array (Option Nat)} : ∀ (n fuel i perturb : Nat), (owner.getD (zbj mask n (i, perturb)).1 (some 0)).isNone = true -> n < fuel -> ∃ j, SetTable.layClean.free mask owner fuel i perturb = some j /\ (owner.getD j (some 0)).isNone = true := by
 intro n
 induction n with
 | zero =>
  intro fuel i perturb h hf
  obtain ⟨f, rfl⟩ : ∃ f, fuel = f + 1 := ⟨fuel - 1, by omega⟩
  unfold SetTable.layClean.free
  cases hx : (List.range (runEnd mask i + 1 - i)).find? fun k => (owner.getD (i + k) (some 0)).isNone with
  | some k => exact ⟨i + k, rfl, List.find?_some (p := fun k => (owner.getD (i + k) (some 0)).isNone) hx⟩
  | none =>
   have := List.find?_eq_none.mp hx 0 (xa3.mpr (by unfold runEnd; split <;> omega))
   exact absurd h this
 | succ n ih =>
  intro fuel i perturb h hf
  obtain ⟨f, rfl⟩ : ∃ f, fuel = f + 1 := ⟨fuel - 1, by omega⟩
  unfold SetTable.layClean.free
  cases hx : (List.range (runEnd mask i + 1 - i)).find? fun k => (owner.getD (i + k) (some 0)).isNone with
  | some k => exact ⟨i + k, rfl, List.find?_some (p := fun k => (owner.getD (i + k) (some 0)).isNone) hx⟩
  | none => exact ih f _ _ h (by omega)
theorem zmS {mask : Nat} (hm : mask = 7 \/ mask = 31) : ∀ (hs : List Int) (owner : Array (Option Nat)) (k : Nat), owner.size = mask + 1 -> cnt (mask + 1) owner = k -> (∀ j v, owner.getD j none = some v -> v < k) -> k + hs.length <= mask + 1 ->
  ∃ owner', hs.foldl (fun acc h => do
   let (owner, k) <- acc
   let j <- SetTable.layClean.free mask owner (turns mask) (bits h % (mask + 1)) (bits h)
   pure (owner.setIfInBounds j (some k), k + 1)) (some (owner, k)) = some (owner', k + hs.length) /\ cnt (mask + 1) owner' = k + hs.length /\ ∀ j v, owner'.getD j none = some v -> v < k + hs.length
 | [], owner, k, _, h2, h3, _ => ⟨owner, rfl, h2, h3⟩
 | h :: hs, owner, k, h1, h2, h3, h4 => by
  rw [xas] at h4 ⊢
  obtain ⟨j, hj, he⟩ := zpo (n := mask + 1) (owner := owner) (by omega)
  have hi : bits h % (mask + 1) <= mask := by have := xcq (bits h) (show 0 < mask + 1 by omega); omega
  obtain ⟨n, q1, q2⟩ := zhd hm (s := (bits h % (mask + 1), bits h)) hi (zmR h) (show j <= mask by omega)
  obtain ⟨j', f1, f2⟩ := zr7 (mask := mask) (owner := owner) n (turns mask) (bits h % (mask + 1)) (bits h) (by rw [q2, zhR (by omega) (some 0) none, he]; rfl) (by unfold turns; omega)
  have hj' : j' < owner.size := by
   refine xa9 fun z => ?_
   rw [xav, Array.getElem?_eq_none (by omega)] at f2
   cases f2
  have hn : owner.getD j' none = none := by
   rw [zhR hj' none (some 0)]
   exact Option.isNone_iff_eq_none.mp f2
  have hset : ∀ i, (owner.setIfInBounds j' (some k)).getD i none = if i = j' then some k else owner.getD i none := by
   intro i
   rw [xav, xav, Array.getElem?_setIfInBounds]
   by_cases e : i = j'
   ·subst e; rw [if_pos rfl, if_pos rfl, if_pos hj']; rfl
   ·rw [if_neg (xax e), if_neg e]
  obtain ⟨o', g1, g2, g3⟩ := zmS hm hs (owner.setIfInBounds j' (some k)) (k + 1) (by rw [Array.size_setIfInBounds]; exact h1) (by
   unfold cnt
   rw [zqm (f := fun j => owner.getD j none) (j := j') hn (by rw [hset, if_pos rfl]; rfl) (fun i hi => by rw [hset, if_neg hi]) _ List.nodup_range (xa3.mpr (by omega))]
   rw [<- h2]; rfl) (by
   intro i v hv
   rw [hset] at hv
   by_cases e : i = j'
   ·rw [if_pos e] at hv; cases hv; omega
   ·rw [if_neg e] at hv; have := h3 i v hv; omega) (by omega)
  refine ⟨o', ?_, by rw [g2]; omega, fun i v hv => by have := g3 i v hv; omega⟩
  rw [List.foldl_cons]
  have e1 : (do
   let (owner, k) <- some (owner, k)
   let j <- SetTable.layClean.free mask owner (turns mask) (bits h % (mask + 1)) (bits h)
   pure (owner.setIfInBounds j (some k), k + 1)) = some (owner.setIfInBounds j' (some k), k + 1) := by
   show (SetTable.layClean.free mask owner (turns mask) (bits h % (mask + 1)) (bits h)).bind _ = _
   rw [f1]; rfl
  rw [e1, g1]
  congr 2
  omega
theorem zmT (t : SetTable) (hashes : Array Int) {n : Nat} (hn : hashes.size = n) (h : n <= 32) : ∃ t' order, t.relaid hashes 20 = some (t', order) /\ t'.mask = 31 /\ t'.dummies = #[] /\ t'.place.size = n /\ order.size = n /\ ∀ k ∈ order.toList, k < n := by
 have e0 : sizeAbove 20 - 1 = 31 := by decide
 obtain ⟨o, g1, g2, g3⟩ := zmS (mask := 31) (.inr rfl) hashes.toList (Array.replicate 32 none) 0 (by simp) (by decide) (by
  intro j v hv
  rw [xav, Array.getElem?_replicate] at hv
  split at hv <;> cases hv) (by rw [xat]; omega)
 rw [xbm, xat, hn] at g2
 have hl : layClean 31 hashes = some o := by
  unfold layClean
  rw [<- Array.foldl_toList, g1]; rfl
 unfold relaid
 rw [e0]
 unfold laid
 rw [hl]
 refine ⟨_, _, rfl, rfl, rfl, ?_, ?_, ?_⟩
 ·show (List.toArray _).size = n
  rw [xah, xag, zhQ, <- g2]; rfl
 ·show (List.toArray _).size = n
  rw [xah, xag, zhQ, <- g2]; rfl
 ·intro k hk
  rw [xda] at hk
  obtain ⟨⟨j, v⟩, hm, rfl⟩ := xbf.mp hk
  obtain ⟨i, hi, hv⟩ := xbp.mp hm
  cases hx : o.getD i none with
  | none => rw [hx] at hv; cases hv
  | some u =>
   rw [hx] at hv
   have hv : some (i, u) = some (j, v) := hv
   cases hv
   have := g3 _ _ hx
   rw [xbm, xat, hn] at this
   exact this
end SetT
namespace SetT
open PySem.SetTable
theorem zt5 {t : SetTable} : ∀ (k : Nat) (p : Probe), k <= p.more -> (iter t k p).j = p.j + k
 | 0, p, _ => rfl
 | k + 1, p, h => by
  show (iter t k (t.advance p)).j = _
  have e : t.advance p = { p with j := p.j + 1, more := p.more - 1 } := by unfold advance; rw [if_pos (by omega)]
  rw [e, zt5 k _ (by show k <= p.more - 1; omega)]
  show p.j + 1 + k = _
  omega
theorem zqn (mask i : Nat) (h : i <= mask) : i + (runEnd mask i - i) <= mask := by unfold runEnd; split <;> omega
theorem zmU {t : SetTable} : ∀ (k : Nat) (p : Probe), p.j + p.more <= t.mask -> (iter t k p).j <= t.mask
 | 0, p, h => by show p.j <= _; omega
 | k + 1, p, h => by
  show (iter t k (t.advance p)).j <= _
  refine zmU k _ ?_
  unfold advance
  split
  ·show p.j + 1 + (p.more - 1) <= _; omega
  ·refine zqn _ _ ?_
   show (_ % (t.mask + 1)) <= t.mask
   have := xcq (p.i * 5 + 1 + p.perturb / 32) (show 0 < t.mask + 1 by omega)
   omega
theorem zlQ {t : SetTable} {owner : Array (Option Nat)} : ∀ (fuel i perturb j : Nat), SetTable.layClean.free t.mask owner fuel i perturb = some j ->
  ∃ m, m < 10 * fuel /\ (iter t m (start t.mask i perturb)).j = j /\ (owner.getD j (some 0)).isNone = true /\ ∀ m', m' < m -> (owner.getD (iter t m' (start t.mask i perturb)).j (some 0)).isNone = false := by
 intro fuel
 induction fuel with
 | zero => intro i perturb j h; cases h
 | succ f ih =>
  intro i perturb j h
  unfold SetTable.layClean.free at h
  have hr := zko t.mask i
  have jk : ∀ k, k <= runEnd t.mask i - i -> (iter t k (start t.mask i perturb)).j = i + k := fun k hk => zt5 k (start t.mask i perturb) hk
  cases hx : (List.range (runEnd t.mask i + 1 - i)).find? fun k => (owner.getD (i + k) (some 0)).isNone with
  | some k =>
   rw [hx] at h
   have h : some (i + k) = some j := h
   cases h
   have hp : (owner.getD (i + k) (some 0)).isNone = true := List.find?_some (p := fun k => (owner.getD (i + k) (some 0)).isNone) hx
   obtain ⟨_, as, bs, e, nb⟩ := List.find?_eq_some_iff_append.mp hx
   have hk : k < runEnd t.mask i + 1 - i := by
    have := List.mem_of_find?_eq_some hx
    exact xa3.mp this
   have re : i <= runEnd t.mask i := by unfold runEnd; split <;> omega
   refine ⟨k, by omega, jk k (by omega), hp, fun m' hm => ?_⟩
   rw [jk m' (by omega)]
   have : m' ∈ as := by
    have e2 : (as ++ k :: bs)[m']? = some m' := by rw [<- e, List.getElem?_range (by omega)]
    have ek : as.length = k := by
     have e3 : (as ++ k :: bs)[as.length]? = some k := by rw [xcd (xad _), Nat.sub_self]; rfl
     rw [<- e, List.getElem?_range] at e3
     ·exact Option.some.inj e3
     ·have := congrArg List.length e
      rw [List.length_range, xby, xas] at this
      omega
    rw [xb3 (by omega)] at e2
    exact xbe e2
   simpa using nb m' this
  | none =>
   rw [hx] at h
   have h : SetTable.layClean.free t.mask owner f (leap t.mask i perturb).1 (leap t.mask i perturb).2 = some j := h
   obtain ⟨m, m1, m2, m3, m4⟩ := ih _ _ j h
   have rt : iter t (runEnd t.mask i - i + 1) (start t.mask i perturb) = start t.mask (leap t.mask i perturb).1 (leap t.mask i perturb).2 := zmP (t := t) _ (start t.mask i perturb) rfl rfl
   have no := List.find?_eq_none.mp hx
   have re : i <= runEnd t.mask i := by unfold runEnd; split <;> omega
   refine ⟨(runEnd t.mask i - i + 1) + m, by omega, by rw [iter_add, rt]; exact m2, m3, fun m' hm => ?_⟩
   by_cases hc : m' <= runEnd t.mask i - i
   ·rw [jk m' hc]
    exact Bool.eq_false_iff.mpr (no m' (xa3.mpr (by omega)))
   ·obtain ⟨u, rfl⟩ : ∃ u, m' = (runEnd t.mask i - i + 1) + u := ⟨m' - (runEnd t.mask i - i + 1), by omega⟩
    rw [iter_add, rt]
    exact m4 u (by omega)
def zww (t : SetTable) (owner : Array (Option Nat)) (hf : Nat -> Int) (k : Nat) : Prop :=
 ∀ c, c < k -> ∃ j, j <= t.mask /\ owner.getD j none = some c /\ ∃ m, m < 10 * turns t.mask /\ (iter t m (t.probeStart (hf c))).j = j /\ ∀ m', m' < m -> (owner.getD (iter t m' (t.probeStart (hf c))).j none).isSome = true
theorem zhS {t : SetTable} (h : Int) (m : Nat) : (iter t m (t.probeStart h)).j <= t.mask := by
 refine zmU m _ ?_
 show bits h % (t.mask + 1) + (runEnd t.mask (bits h % (t.mask + 1)) - bits h % (t.mask + 1)) <= t.mask
 refine zqn _ _ ?_
 have := xcq (bits h) (show 0 < t.mask + 1 by omega)
 omega
theorem ziE {t : SetTable} (hf : Nat -> Int) : ∀ (hs : List Int) (owner owner' : Array (Option Nat)) (k k' : Nat), owner.size = t.mask + 1 -> (∀ i, i < hs.length -> hs[i]? = some (hf (k + i))) -> zww t owner hf k ->
  hs.foldl (fun acc h => do
   let (owner, k) <- acc
   let j <- SetTable.layClean.free t.mask owner (turns t.mask) (bits h % (t.mask + 1)) (bits h)
   pure (owner.setIfInBounds j (some k), k + 1)) (some (owner, k)) = some (owner', k') -> owner'.size = t.mask + 1 /\ zww t owner' hf (k + hs.length)
 | [], owner, owner', k, k', h1, _, h3, e => by
  have e : some (owner, k) = some (owner', k') := e
  cases e
  exact ⟨h1, h3⟩
 | h :: hs, owner, owner', k, k', h1, h2, h3, e => by
  rw [List.foldl_cons] at e
  have hh : hf k = h := by have := h2 0 (by simp); simpa using this.symm
  cases hfr : SetTable.layClean.free t.mask owner (turns t.mask) (bits h % (t.mask + 1)) (bits h) with
  | none =>
   exfalso
   have e1 : (do
    let (owner, k) <- some (owner, k)
    let j <- SetTable.layClean.free t.mask owner (turns t.mask) (bits h % (t.mask + 1)) (bits h)
    pure (owner.setIfInBounds j (some k), k + 1)) = (none : Option (Array (Option Nat) × Nat)) := by
    show (SetTable.layClean.free t.mask owner (turns t.mask) (bits h % (t.mask + 1)) (bits h)).bind _ = _
    rw [hfr]; rfl
   rw [e1] at e
   have nn : ∀ l : List Int, l.foldl (fun acc h => do
    let (owner, k) <- acc
    let j <- SetTable.layClean.free t.mask owner (turns t.mask) (bits h % (t.mask + 1)) (bits h)
    pure (owner.setIfInBounds j (some k), k + 1)) (none : Option (Array (Option Nat) × Nat)) = none := by
    intro l
    induction l with
    | nil => rfl
    | cons a l ih => rw [List.foldl_cons]; exact ih
   rw [nn] at e
   cases e
  | some j' =>
   have e1 : (do
    let (owner, k) <- some (owner, k)
    let j <- SetTable.layClean.free t.mask owner (turns t.mask) (bits h % (t.mask + 1)) (bits h)
    pure (owner.setIfInBounds j (some k), k + 1)) = some (owner.setIfInBounds j' (some k), k + 1) := by
    show (SetTable.layClean.free t.mask owner (turns t.mask) (bits h % (t.mask + 1)) (bits h)).bind _ = _
    rw [hfr]; rfl
   rw [e1] at e
   obtain ⟨m, m1, m2, m3, m4⟩ := zlQ (t := t) _ _ _ _ hfr
   have m2 : (iter t m (t.probeStart h)).j = j' := m2
   have m4 : ∀ m', m' < m -> (owner.getD (iter t m' (t.probeStart h)).j (some 0)).isNone = false := m4
   have jl : j' <= t.mask := by rw [<- m2]; exact zhS h m
   have hn : owner.getD j' none = none := by
    rw [zhR (by omega) none (some 0)]
    exact Option.isNone_iff_eq_none.mp m3
   have hset : ∀ i, (owner.setIfInBounds j' (some k)).getD i none = if i = j' then some k else owner.getD i none := by
    intro i
    rw [xav, xav, Array.getElem?_setIfInBounds]
    by_cases e : i = j'
    ·subst e; rw [if_pos rfl, if_pos rfl, if_pos (by omega)]; rfl
    ·rw [if_neg (xax e), if_neg e]
   have keep : ∀ i, (owner.getD i none).isSome = true -> ((owner.setIfInBounds j' (some k)).getD i none).isSome = true := fun i hi => by
    rw [hset]; split
    ·rfl
    ·exact hi
   have L2 : zww t (owner.setIfInBounds j' (some k)) hf (k + 1) := by
    intro c hc
    by_cases ec : c = k
    ·subst ec
     refine ⟨j', jl, by rw [hset, if_pos rfl], m, m1, by rw [hh]; exact m2, fun m' hm => ?_⟩
     rw [hh]
     refine keep _ ?_
     have := m4 m' hm
     rw [zhR (by have := zhS (t := t) h m'; omega) none (some 0)]
     cases hx : owner.getD (iter t m' (t.probeStart h)).j (some 0) with
     | none => rw [hx] at this; cases this
     | some _ => rfl
    ·obtain ⟨j, j1, j2, m, n1, n2, n3⟩ := h3 c (by omega)
     refine ⟨j, j1, ?_, m, n1, n2, fun m' hm => keep _ (n3 m' hm)⟩
     rw [hset, if_neg (fun z => by rw [z, hn] at j2; cases j2)]
     exact j2
   have := ziE hf hs _ owner' (k + 1) k' (by rw [Array.size_setIfInBounds]; exact h1) (fun i hi => by
    have := h2 (i + 1) (by simp; omega)
    rw [xcu] at this
    rw [this, show k + (i + 1) = k + 1 + i by omega]) L2 e
   rw [xas, show k + (hs.length + 1) = k + 1 + hs.length by omega]
   exact this
theorem fm_get {α β : Type} (f : α -> Option β) : ∀ (l : List α), (∀ a ∈ l, (f a).isSome = true) -> ∀ i : Nat, (l.filterMap f)[i]? = (l[i]?).bind f
 | [], _, i => by simp
 | a :: l, h, i => by
  obtain ⟨b, hb⟩ := xbb.mp (h a xan)
  rw [xa2 hb]
  cases i with
  | zero => simp [hb]
  | succ i => rw [xcu, xcu]; exact fm_get f l (fun x hx => h x (xae _ hx)) i
theorem zmV {β : Type} (f : Nat -> Option β) : ∀ l : List Nat, l.Pairwise (· < ·) -> ((l.filterMap fun j => (f j).map (j, ·)).map (·.1)).Pairwise (· < ·)
 | [], _ => List.Pairwise.nil
 | a :: l, h => by
  rw [List.pairwise_cons] at h
  cases e : f a with
  | none => rw [xbc (by rw [e]; rfl)]; exact zmV f l h.2
  | some b =>
   rw [xa2 (b := (a, b)) (by rw [e]; rfl), xa7, List.pairwise_cons]
   refine ⟨fun x hx => ?_, zmV f l h.2⟩
   obtain ⟨⟨j, v⟩, hm, rfl⟩ := xbf.mp hx
   obtain ⟨i, hi, hv⟩ := xbp.mp hm
   cases hx : f i with
   | none => rw [hx] at hv; cases hv
   | some u =>
    rw [hx] at hv
    have hv : some (i, u) = some (j, v) := hv
    cases hv
    exact h.1 _ hi
theorem zqo {β : Type} {f : Nat -> Option β} {l : List Nat} {j : Nat} {b : β} (hj : j ∈ l) (hb : f j = some b) : (j, b) ∈ l.filterMap fun j => (f j).map (j, ·) := xbp.mpr ⟨j, hj, by rw [hb]; rfl⟩
end SetT
namespace DL
open L2
inductive D where
 | non | bl (b : Bool) | int (i : Int) | str (x : Str) | ty (n : String) | cls (c : Str)
 | tup (xs : List D) | lst (xs : List D) | dct (ks : List Key) (vs : List D) | exc (c : Str) (as : List D)
instance : Inhabited D := ⟨.non⟩
inductive R (α : Type) where
 | ok (a : α) | err (e : D) | bad
def R.bind {α β : Type} : R α -> (α -> R β) -> R β
 | .ok a, k => k a
 | .err e, _ => .err e
 | .bad, _ => .bad
def RW {α : Type} (r : R α) (Q : α -> Prop) (E : D -> Prop) : Prop := match r with
 | .ok a => Q a
 | .err e => E e
 | .bad => False
theorem RW.mono {α : Type} {r : R α} {Q Q' : α -> Prop} {E E' : D -> Prop} (h : RW r Q E) (hq : ∀ a, r = .ok a -> Q a -> Q' a) (he : ∀ e, E e -> E' e) : RW r Q' E' := by
 cases r with
 | ok a => exact hq a rfl h
 | err e => exact he e h
 | bad => exact h
theorem RW.of_bind {α β : Type} {r : R α} {k : α -> R β} {Q : β -> Prop} {E : D -> Prop} (h : RW (r.bind k) Q E) : RW r (fun a => RW (k a) Q E) E := by
 cases r with
 | ok a => exact h
 | err e => exact h
 | bad => exact h
def zcC : List Str := ["ChalkError", "NoPlace", "Same", "NoFloor", "Endless", "NoDeed", "NoText", "NoName", "TooMany", "NoChange", "NoFrame", "NoValue", "Unlike", "NoRatio", "NoBow", "NoRow"]
def zjz (c d : Str) : Option Bool := bif zcC.contains c && zcC.contains d then some (c == d || d == "ChalkError") else none
structure zoN (K : xFg) (mg : Str -> Option Value) (c : Str) (C : Addr) : Prop where
 here : mg c = some (.ref C)
 exc : zs5 K C
 isi : ∀ d Dd b, zjz c d = some b -> mg d = some (.ref Dd) -> PySem.W.kitOne K (.ref C) (.ref Dd) = some b
 val : PySem.W.kitOne K (.ref C) (.type "ValueError") = some true
 ctc : ∀ d Dd, zjz c d = some true -> mg d = some (.ref Dd) -> PySem.W.exmOne K (.ref C) (.ref Dd) = some true
def zmW (G : Hp) (dct : Option Addr) (vs : List V) : Prop := (dct = none /\ vs = []) \/ ∃ dx v, dct = some dx /\ vs = [v] /\ G dx = some (.xd [("at", v)])
mutual
def Rep (K : xFg) (mg : Str -> Option Value) (G : Hp) : D -> V -> Prop
 | .non, v => v = .non
 | .bl b, v => v = .bl b
 | .int i, v => v = .int i
 | .str x, v => v = .str x
 | .ty n, v => v = .ty n
 | .cls c, v => ∃ C, v = .ref C /\ mg c = some (.ref C)
 | .tup ds, v => ∃ a vs, v = .ref a /\ SqT K G a vs /\ Reps K mg G ds vs
 | .lst ds, v => ∃ a vs, v = .ref a /\ SqL K G a vs /\ Reps K mg G ds vs
 | .dct ks ds, v => ∃ a vs, v = .ref a /\ Rd G a (.dK (ks.zip vs)) /\ ks.length = vs.length /\ Reps K mg G ds vs
 | .exc c as, v => ∃ x C dct vs, v = .ref x /\ G x = some (zoM x C dct) /\ zoN K mg c C /\ zmW G dct vs /\ Reps K mg G as vs
def Reps (K : xFg) (mg : Str -> Option Value) (G : Hp) : List D -> List V -> Prop
 | [], vs => vs = []
 | d :: ds, vs => ∃ v r, vs = v :: r /\ Rep K mg G d v /\ Reps K mg G ds r
end
def ExcR (K : xFg) (mg : Str -> Option Value) (G : Hp) (e : D) (C : Addr) (dct : Option Addr) : Prop := ∃ c as vs, e = .exc c as /\ zoN K mg c C /\ zmW G dct vs /\ Reps K mg G as vs
section
variable {K : xFg} {mg : Str -> Option Value} {G G' H H' : Hp}
theorem zay.sqT {a : Addr} {xs : List V} (e : zay G G') (h : SqT K G a xs) : SqT K G' a xs := e.tup h
theorem zay.rd {a : Addr} {u : HO} (e : zay G G') (h : Rd G a u) : Rd G' a u := by
 rcases h with h | ⟨o, h⟩
 ·exact .inl (e _ _ h)
 ·exact .inr ⟨o, e _ _ h⟩
theorem zmW.mono {dct : Option Addr} {vs : List V} (e : zay G G') (h : zmW G dct vs) : zmW G' dct vs := by
 rcases h with h | ⟨dx, v, h1, h2, h3⟩
 ·exact .inl h
 ·exact .inr ⟨dx, v, h1, h2, e _ _ h3⟩
mutual
theorem Rep.mono (e : zay G G') : ∀ {d : D} {v : V}, Rep K mg G d v -> Rep K mg G' d v
 | .non, _, h => h
 | .bl _, _, h => h
 | .int _, _, h => h
 | .str _, _, h => h
 | .ty _, _, h => h
 | .cls _, _, h => h
 | .tup _, _, ⟨a, vs, h1, h2, h3⟩ => ⟨a, vs, h1, zay.sqT e h2, Reps.mono e h3⟩
 | .lst _, _, ⟨a, vs, h1, h2, h3⟩ => ⟨a, vs, h1, e.seq h2, Reps.mono e h3⟩
 | .dct _ _, _, ⟨a, vs, h1, h2, h3, h4⟩ => ⟨a, vs, h1, zay.rd e h2, h3, Reps.mono e h4⟩
 | .exc _ _, _, ⟨x, C, dct, vs, h1, h2, h3, h4, h5⟩ => ⟨x, C, dct, vs, h1, e _ _ h2, h3, h4.mono e, Reps.mono e h5⟩
theorem Reps.mono (e : zay G G') : ∀ {ds : List D} {vs : List V}, Reps K mg G ds vs -> Reps K mg G' ds vs
 | [], _, h => h
 | _ :: _, _, ⟨v, r, h1, h2, h3⟩ => ⟨v, r, h1, Rep.mono e h2, Reps.mono e h3⟩
end
theorem Reps.length : ∀ {ds : List D} {vs : List V}, Reps K mg G ds vs -> ds.length = vs.length
 | [], _, h => by cases h; rfl
 | _ :: _, _, ⟨v, r, h1, _, h3⟩ => by cases h1; rw [xas, xas, Reps.length h3]
theorem Reps.nil : Reps K mg G [] [] := rfl
theorem Reps.cons {d : D} {v : V} {ds : List D} {vs : List V} (h : Rep K mg G d v) (t : Reps K mg G ds vs) : Reps K mg G (d :: ds) (v :: vs) := ⟨v, vs, rfl, h, t⟩
theorem Reps.append : ∀ {ds es : List D} {vs ws : List V}, Reps K mg G ds vs -> Reps K mg G es ws -> Reps K mg G (ds ++ es) (vs ++ ws)
 | [], _, _, _, h, t => by cases h; exact t
 | _ :: _, _, _, _, ⟨v, r, h1, h2, h3⟩, t => by cases h1; exact ⟨v, r ++ _, rfl, h2, h3.append t⟩
theorem Reps.get : ∀ {ds : List D} {vs : List V} {i : Nat} {d : D}, Reps K mg G ds vs -> ds[i]? = some d -> ∃ v, vs[i]? = some v /\ Rep K mg G d v
 | [], _, _, _, _, e => by simp at e
 | _ :: _, _, 0, _, ⟨v, r, h1, h2, _⟩, e => by simp at e; subst e; subst h1; exact ⟨v, rfl, h2⟩
 | _ :: ds, _, i + 1, d, ⟨v, r, h1, _, h3⟩, e => by
  subst h1
  obtain ⟨w, e1, e2⟩ := Reps.get (i := i) (d := d) h3 (by simpa using e)
  exact ⟨w, by simpa using e1, e2⟩
theorem Reps.set : ∀ {ds : List D} {vs : List V} {d : D} {v : V} (i : Nat), Reps K mg G ds vs -> Rep K mg G d v -> Reps K mg G (ds.set i d) (vs.set i v)
 | [], _, _, _, _, h, _ => by cases h; exact rfl
 | _ :: _, _, _, _, 0, ⟨_, r, h1, _, h3⟩, h => by subst h1; exact ⟨_, r, rfl, h, h3⟩
 | _ :: _, _, _, _, i + 1, ⟨w, r, h1, h2, h3⟩, h => by subst h1; exact ⟨w, _, rfl, h2, h3.set i h⟩
theorem Reps.drop : ∀ {ds : List D} {vs : List V} (n : Nat), Reps K mg G ds vs -> Reps K mg G (ds.drop n) (vs.drop n)
 | _, _, 0, h => h
 | [], _, _ + 1, h => by cases h; exact rfl
 | _ :: _, _, n + 1, ⟨_, _, h1, _, h3⟩ => by subst h1; exact h3.drop n
theorem Reps.take : ∀ {ds : List D} {vs : List V} (n : Nat), Reps K mg G ds vs -> Reps K mg G (ds.take n) (vs.take n)
 | _, _, 0, h => by simp only [List.take_zero]; exact rfl
 | [], _, _ + 1, h => by cases h; exact rfl
 | _ :: _, _, n + 1, ⟨v, _, h1, h2, h3⟩ => by subst h1; exact ⟨v, _, rfl, h2, h3.take n⟩
theorem Reps.ints (ns : List Int) : Reps K mg G (ns.map D.int) (ns.map V.int) := by
 induction ns with
 | nil => exact rfl
 | cons n r ih => exact ⟨_, _, rfl, rfl, ih⟩
theorem Reps.of_ints : ∀ {ns : List Int} {vs : List V}, Reps K mg G (ns.map D.int) vs -> vs = ns.map V.int
 | [], _, h => h
 | _ :: _, _, ⟨_, _, h1, h2, h3⟩ => by subst h1; cases h2; rw [Reps.of_ints h3]; rfl
theorem Reps.of_bools : ∀ {bs : List Bool} {vs : List V}, Reps K mg G (bs.map D.bl) vs -> vs = bs.map V.bl
 | [], _, h => h
 | _ :: _, _, ⟨_, _, h1, h2, h3⟩ => by subst h1; cases h2; rw [Reps.of_bools h3]; rfl
theorem Reps.at {ds : List D} {vs : List V} {i : Int} {d : D} (h : Reps K mg G ds vs) (e : atI ds i = some d) : ∃ v, atI vs i = some v /\ Rep K mg G d v := by
 unfold atI at e ⊢
 rw [h.length] at e
 cases q : ixN vs.length i with
 | none => rw [q] at e; cases e
 | some j => rw [q] at e; exact h.get e
structure zbk (G H G' H' : Hp) : Prop where
 g : zay G G'
 h : zay H H'
 e : zay G' H'
 c : ∀ a o, H a = some o -> G a = none -> G' a = none
theorem zbk.refl (e : zay G H) : zbk G H G H := ⟨zay.refl _, zay.refl _, e, fun _ _ _ h => h⟩
theorem zbk.trans {G1 H1 : Hp} (a : zbk G H G1 H1) (b : zbk G1 H1 G' H') : zbk G H G' H' :=
 ⟨a.g.trans b.g, a.h.trans b.h, b.e, fun x o p q => b.c x o (a.h x o p) (a.c x o p q)⟩
theorem zci {p : Addr} {o : HO} (h : H p = none) : zay H (upd H p o) := zo6 h o
theorem zbk.pub {p : Addr} {o : HO} (e : zay G H) (h : H p = none) : zbk G H (upd G p o) (upd H p o) := by
 refine ⟨zci (e.free h), zci h, fun b u q => ?_, fun a u p1 q1 => ?_⟩
 ·by_cases hb : b = p
  ·subst hb; rw [zap] at q ⊢; exact q
  ·rw [zam hb] at q ⊢; exact e b u q
 ·have hb : a ≠ p := zai p1 h
  rw [zam hb]; exact q1
theorem zbk.hid {p : Addr} {o : HO} (e : zay G H) (h : H p = none) : zbk G H G (upd H p o) :=
 ⟨zay.refl _, zci h, e.trans (zci h), fun _ _ _ q => q⟩
theorem zbk.heap (e : zay G H) (h : zay H H') : zbk G H G H' := ⟨zay.refl _, h, e.trans h, fun _ _ _ q => q⟩
end
abbrev DSt := List (Option D)
structure Ok0 (K : xFg) (mg : Str -> Option Value) (Od : DSt) (O : St) (G H : Hp) : Prop where
 ext : zay G H
 len : Od.length = O.length
 val : ∀ (i : Nat) (d : D), Od[i]? = some (some d) -> ∃ v, O[i]? = some (some v) /\ Rep K mg G d v
section
variable {K : xFg} {mg : Str -> Option Value} {G G' H H' : Hp} {Od : DSt} {O : St}
theorem Ok0.step (o : Ok0 K mg Od O G H) (s : zbk G H G' H') : Ok0 K mg Od O G' H' :=
 ⟨s.e, o.len, fun i d q => let ⟨v, h1, h2⟩ := o.val i d q; ⟨v, h1, h2.mono s.g⟩⟩
theorem Ok0.set {i : Nat} {d : D} {v : V} (o : Ok0 K mg Od O G H) (h : Rep K mg G d v) : Ok0 K mg (Od.set i (some d)) (O.set i (some v)) G H := by
 refine ⟨o.ext, by simp [o.len], fun j e q => ?_⟩
 by_cases hj : j = i
 ·subst hj
  have hl : j < Od.length := by have := (xaj.mp q).1; simpa using this
  rw [xa0 hl] at q
  cases q
  exact ⟨v, by rw [xa0 (by rw [<- o.len]; exact hl)], h⟩
 ·rw [xal (xax hj)] at q ⊢
  exact o.val j e q
theorem Ok0.cons {x : Option D} {y : Option V} (o : Ok0 K mg Od O G H) (h : ∀ d, x = some d -> ∃ v, y = some v /\ Rep K mg G d v) : Ok0 K mg (x :: Od) (y :: O) G H := by
 refine ⟨o.ext, by simp [o.len], fun j e q => ?_⟩
 cases j with
 | zero =>
  have q' : x = some e := by simpa using q
  obtain ⟨v, h1, h2⟩ := h e q'
  exact ⟨v, by simp [h1], h2⟩
 | succ j => exact o.val j e (by simpa using q)
theorem Ok0.nones (o : Ok0 K mg Od O G H) : ∀ k : Nat, Ok0 K mg (List.replicate k none ++ Od) (List.replicate k none ++ O) G H
 | 0 => o
 | k + 1 => (Ok0.nones o k).cons (x := none) (y := none) (fun d e => by cases e)
end
section
variable (K : xFg) (mg : Str -> Option Value) (E : XK)
def zao (Q : VK) (G H : Hp) (d : D) : Prop := ∀ v G' H', zbk G H G' H' -> Rep K mg G' d v -> Q v H'
def zeF (Q : Bool -> Hp -> Prop) (G H : Hp) (b : Bool) : Prop := ∀ G' H', zbk G H G' H' -> Q b H'
def zkq (Q : List V -> Hp -> Prop) (G H : Hp) (ds : List D) : Prop := ∀ vs G' H', zbk G H G' H' -> Reps K mg G' ds vs -> Q vs H'
def zdH (Q : VK) (G H : Hp) (ds : List D) : Prop := ∀ a vs G' H', zbk G H G' H' -> H a = none -> H' a = some (.lst vs) -> G' a = none -> Reps K mg G' ds vs -> Q (.ref a) H'
def zaI (G H : Hp) (e : D) : Prop := ∀ G' H' C dct, zbk G H G' H' -> ExcR K mg G' e C dct -> E (.ref C) dct H'
def tE (f : DSt -> R D) : TE := fun O H Q => ∃ G Od, Ok0 K mg Od O G H /\ RW (f Od) (zao K mg Q G H) (zaI K mg E G H)
def tT (f : DSt -> R Bool) : TT := fun O H Q => ∃ G Od, Ok0 K mg Od O G H /\ RW (f Od) (zeF Q G H) (zaI K mg E G H)
def tAr (f : DSt -> R (List D)) : TA := fun O H Q => ∃ G Od, Ok0 K mg Od O G H /\ RW (f Od) (zkq K mg Q G H) (zaI K mg E G H)
def tFr (f : DSt -> R (List D)) : TE := fun O H Q => ∃ G Od, Ok0 K mg Od O G H /\ RW (f Od) (zdH K mg Q G H) (zaI K mg E G H)
end
def DE (X : Cx) (E : XK) (e : Expr) (f : DSt -> R D) : Prop := PE X e (tE X.K X.mg E f)
def DT (X : Cx) (E : XK) (e : Expr) (f : DSt -> R Bool) : Prop := PT X e (tT X.K X.mg E f)
def DW (X : Cx) (E : XK) (e : Expr) (f : DSt -> R Bool) : Prop := PW X e (tT X.K X.mg E f)
def DA (X : Cx) (E : XK) (es : List Expr) (f : DSt -> R (List D)) : Prop := PA X es (tAr X.K X.mg E f)
def DF (X : Cx) (E : XK) (e : Expr) (f : DSt -> R (List D)) : Prop := PE X e (tFr X.K X.mg E f)
section
variable {X : Cx} {E : XK} {K : xFg} {mg : Str -> Option Value} {G G1 H H1 : Hp}
theorem PE.mono' {e : Expr} {t t' : TE} (h : PE X e t) (m : ∀ O H Q, t' O H Q -> t O H Q) : PE X e t' := fun pins s O H Q I q => h pins s O H Q I (m O H Q q)
theorem PT.mono' {e : Expr} {t t' : TT} (h : PT X e t) (m : ∀ O H Q, t' O H Q -> t O H Q) : PT X e t' := fun pins s O H Q I q => h pins s O H Q I (m O H Q q)
theorem PW.mono' {e : Expr} {t t' : TT} (h : PW X e t) (m : ∀ O H Q, t' O H Q -> t O H Q) : PW X e t' := fun wh pins s O H Q I q => h wh pins s O H Q I (m O H Q q)
theorem PA.mono' {es : List Expr} {t t' : TA} (h : PA X es t) (m : ∀ O H Q, t' O H Q -> t O H Q) : PA X es t' := fun pos pins s O H Q I q => h pos pins s O H Q I (m O H Q q)
theorem PS.mono' {st : Stmt} {t t' : TS} (h : PS X st t) (m : ∀ D O H, t' D O H -> t D O H) : PS X st t' := fun pins s O H D I q => h pins s O H D I (m D O H q)
theorem PSs.mono' {st : List Stmt} {t t' : TS} (h : PSs X st t) (m : ∀ D O H, t' D O H -> t D O H) : PSs X st t' := fun pins s O H D I q => h pins s O H D I (m D O H q)
theorem zao.step {Q : VK} {d : D} (h : zao K mg Q G H d) (s : zbk G H G1 H1) : zao K mg Q G1 H1 d := fun v G' H' s' r => h v G' H' (s.trans s') r
theorem zaI.step {e : D} (h : zaI K mg E G H e) (s : zbk G H G1 H1) : zaI K mg E G1 H1 e := fun G' H' C dct s' r => h G' H' C dct (s.trans s') r
theorem zeF.step {Q : Bool -> Hp -> Prop} {b : Bool} (h : zeF Q G H b) (s : zbk G H G1 H1) : zeF Q G1 H1 b := fun G' H' s' => h G' H' (s.trans s')
theorem zdH.step {Q : VK} {ds : List D} (h : zdH K mg Q G H ds) (s : zbk G H G1 H1) : zdH K mg Q G1 H1 ds := fun a vs G' H' s' n e g r => h a vs G' H' (s.trans s') (s.h.free n) e g r
theorem zao.now {Q : VK} {d : D} {v : V} (h : zao K mg Q G H d) (e : zay G H) (r : Rep K mg G d v) : Q v H := h v G H (.refl e) r
theorem DF.de {e : Expr} {f : DSt -> R (List D)} (h : DF X E e f) : DE X E e (fun O => (f O).bind fun ds => .ok (.lst ds)) := by
 refine PE.mono' h fun O H Q ⟨G, Od, ok, q⟩ => ⟨G, Od, ok, q.of_bind.mono (fun ds _ q => ?_) fun _ z => z⟩
 intro a vs G' H' s n e g r
 have q' : zao X.K X.mg Q G H (.lst ds) := q
 have sg : zay G' (upd G' a (.lst vs)) := zci g
 refine q' (.ref a) (upd G' a (.lst vs)) H' ⟨s.g.trans sg, s.h, fun b u p => ?_, fun b u p1 p2 => ?_⟩ ⟨a, vs, rfl, SqL.of zap, r.mono sg⟩
 ·by_cases hb : b = a
  ·subst hb; rw [zap] at p; cases p; exact e
  ·rw [zam hb] at p; exact s.e b u p
 ·have hb : b ≠ a := zai p1 n
  rw [zam hb]; exact s.c b u p1 p2
def zae (i : Nat) : DSt -> R D := fun O => match O[i]? with
 | some (some d) => .ok d
 | _ => .bad
theorem zt6 (i : Nat) {x : Str} {pos : Pos} (hN : X.N[i]? = some x := by rfl) (hv : Vis X.env.scope x := by first | exact Or.inl rfl | exact Or.inr (Or.inl rfl) | exact Or.inr (Or.inr rfl)) (hd : (x == ("__debug__" : Str)) = false := by decide)
  (hcd : (x == ("__classdict__" : Str)) = false := by decide) : DE X E (.Name x pos) (zae i) := by
 refine PE.mono' (pv i hN hv hd hcd) fun O H Q ⟨G, Od, ok, q⟩ => ?_
 unfold zae at q
 split at q
 ·rename_i d e
  obtain ⟨v, h1, h2⟩ := ok.val i d e
  exact ⟨v, h1, zao.now q ok.ext h2⟩
 ·exact q.elim
def eC (d : D) : DSt -> R D := fun _ => .ok d
theorem zdI {i j pos} : DE X E (.Constant (.int i) j pos) (eC (.int i)) := PE.mono' ztg fun _ _ _ ⟨_, _, ok, q⟩ => zao.now q ok.ext rfl
theorem zwx {b j pos} : DE X E (.Constant (.bool b) j pos) (eC (.bl b)) := PE.mono' zvN fun _ _ _ ⟨_, _, ok, q⟩ => zao.now q ok.ext rfl
theorem zt7 {j pos} : DE X E (.Constant .none j pos) (eC .non) := PE.mono' zth fun _ _ _ ⟨_, _, ok, q⟩ => zao.now q ok.ext rfl
theorem zmX {x j pos} : DE X E (.Constant (.str x) j pos) (eC (.str x)) := PE.mono' ztj fun _ _ _ ⟨_, _, ok, q⟩ => zao.now q ok.ext rfl
theorem zmY {x : Str} {d : D} {v : V} {u : Value} {pos : Pos} (hm : X.mg x = some u) (r : zbf v u) (rp : ∀ G, Rep X.K X.mg G d v) (hg : Gl X x := by rfl) (hd : (x == ("__debug__" : Str)) = false := by decide) : DE X E (.Name x pos) (eC d) :=
 PE.mono' (zrs hg hm r hd) fun _ _ _ ⟨_, _, ok, q⟩ => zao.now q ok.ext (rp _)
theorem zqp {x : Str} {C : Addr} {pos : Pos} (hm : X.mg x = some (.ref C)) (hg : Gl X x := by rfl) (hd : (x == ("__debug__" : Str)) = false := by decide) : DE X E (.Name x pos) (eC (.cls x)) :=
 zmY hm (v := .ref C) rfl (fun _ => ⟨C, rfl, hm⟩) hg hd
theorem ziF {x : Str} {n : String} {pos : Pos} (hm : X.mg x = none) (hv : bootBuiltins x = some (.type n) := by rfl) (hg : Gl X x := by rfl) (hn : x ≠ "__name__" := by decide) (hd : (x == ("__debug__" : Str)) = false := by decide) : DE X E (.Name x pos) (eC (.ty n)) :=
 PE.mono' (zrt hg hm hv (v := .ty n) rfl hn hd) fun _ _ _ ⟨_, _, ok, q⟩ => zao.now q ok.ext rfl
def zs7 {α : Type} : DSt -> R α := fun _ => .bad
def OpD (K : xFg) (mg : Str -> Option Value) (r : R2) (g : D -> D -> R D) : Prop :=
 ∀ (G H : Hp) (a b : D) (x y : V) (Q : VK), zay G H -> Rep K mg G a x -> Rep K mg G b y -> RW (g a b) (zao K mg Q G H) (fun _ => False) -> r x y H Q
def eOp (g : D -> D -> R D) (fa fb : DSt -> R D) : DSt -> R D := fun O => (fa O).bind fun x => (fb O).bind fun y => g x y
theorem zc1 {f : DSt -> R D} {α : Type} {k : D -> R α} {O : St} {H : Hp} {Q : VK} {P : Hp -> Hp -> α -> Prop} {G : Hp} {Od : DSt}
  (ok : Ok0 K mg Od O G H) (q : RW ((f Od).bind k) (P G H) (zaI K mg E G H))
  (h : ∀ d v G' H', zbk G H G' H' -> Ok0 K mg Od O G' H' -> Rep K mg G' d v -> RW (k d) (P G H) (zaI K mg E G' H') -> Q v H') : tE K mg E f O H Q :=
 ⟨G, Od, ok, q.of_bind.mono (fun d _ q v G' H' s r => h d v G' H' s (ok.step s) r (q.mono (fun _ _ z => z) fun e z => z.step s)) fun _ z => z⟩
theorem noX {α : Type} {r : R α} {Q : α -> Prop} {E' : D -> Prop} (hr : ∀ e, r ≠ .err e) (h : RW r Q E') : RW r Q (fun _ => False) := by
 cases r with
 | ok a => exact h
 | err e => exact absurd rfl (hr e)
 | bad => exact h
def ze8 (g : D -> D -> R D) : Prop := ∀ a b e, g a b ≠ .err e
theorem zkr {r : R2} {g : D -> D -> R D} (hd : OpD X.K X.mg r g) (hn : ze8 g) {fa fb : DSt -> R D} {O : St} {H : Hp} {Q : VK} (h : tE X.K X.mg E (eOp g fa fb) O H Q) : tOp r (tE X.K X.mg E fa) (tE X.K X.mg E fb) O H Q := by
 obtain ⟨G, Od, ok, q⟩ := h
 refine zc1 (P := zao X.K X.mg Q) ok q fun a x G1 H1 s1 ok1 r1 q1 => ?_
 refine zc1 (P := fun _ _ => zao X.K X.mg Q G H) ok1 q1 fun b y G2 H2 s2 ok2 r2 q2 => ?_
 exact hd G2 H2 a b x y Q ok2.ext (r1.mono s2.g) r2 (noX (hn a b) (q2.mono (fun _ _ z => z.step (s1.trans s2)) fun _ z => z))
variable {a b c : Expr} {fa fb fc : DSt -> R D} {pos : Pos}
theorem zlR {op : Operator} {r : R2} {g : D -> D -> R D} (ho : OpR X (binaryOp op) r) (hd : OpD X.K X.mg r g) (hn : ze8 g) (ha : DE X E a fa) (hb : DE X E b fb) : DE X E (.BinOp a op b pos) (eOp g fa fb) :=
 PE.mono' (zvW ho ha hb) fun _ _ _ h => zkr hd hn h
theorem zt8 {op : CmpOp} {r : R2} {g : D -> D -> R D} (ho : OpR X (compareOp op) r) (hd : OpD X.K X.mg r g) (hn : ze8 g) (ha : DE X E a fa) (hb : DE X E b fb) (hm : behindInMarks op b = false := by first | exact zaZ _ (by decide) (by decide) | rfl) : DE X E (.Compare a [op] [b] pos) (eOp g fa fb) :=
 PE.mono' (zrD ho ha hb hm) fun _ _ _ h => zkr hd hn h
def asB : D -> R Bool
 | .bl b => .ok b
 | _ => .bad
def zaw (f : DSt -> R D) : DSt -> R Bool := fun O => (f O).bind asB
theorem zhT {t : TE} {f : DSt -> R D} (h : ∀ O H Q, tE X.K X.mg E f O H Q -> t O H Q) {O : St} {H : Hp} {Q : Bool -> Hp -> Prop} (q : tT X.K X.mg E (zaw f) O H Q) : zrE t O H Q := by
 obtain ⟨G, Od, ok, q⟩ := q
 refine h O H _ ⟨G, Od, ok, q.of_bind.mono (fun d _ q v G' H' s r => ?_) fun _ z => z⟩
 cases d with
 | bl k => cases r; exact ⟨k, rfl, (show zeF Q G H k from q) G' H' s⟩
 | _ => exact (show False from q).elim
theorem zt9 {op : CmpOp} {r : R2} {g : D -> D -> R D} (ho : OpR X (compareOp op) r) (hd : OpD X.K X.mg r g) (hn : ze8 g) (ha : DE X E a fa) (hb : DE X E b fb) (hm : behindInMarks op b = false := by first | exact zaZ _ (by decide) (by decide) | rfl) : DT X E (.Compare a [op] [b] pos) (zaw (eOp g fa fb)) :=
 PT.mono' (zrF ho ha hb hm) fun _ _ _ q => zhT (fun _ _ _ h => zkr hd hn h) q
def zhe (g g' : D -> D -> R D) (fa fb fc : DSt -> R D) : DSt -> R D := fun O => (fa O).bind fun x => (fb O).bind fun y => (g x y).bind fun z => (asB z).bind fun k => bif k then (fc O).bind fun w => g' y w else .ok (.bl false)
theorem zmZ {r r' : R2} {g g' : D -> D -> R D} (hd : OpD X.K X.mg r g) (hn : ze8 g) (hd' : OpD X.K X.mg r' g') (hn' : ze8 g') {O : St} {H : Hp} {Q : VK} (h : tE X.K X.mg E (zhe g g' fa fb fc) O H Q) :
  zqc r r' (tE X.K X.mg E fa) (tE X.K X.mg E fb) (tE X.K X.mg E fc) O H Q := by
 obtain ⟨G, Od, ok, q⟩ := h
 refine zc1 (P := zao X.K X.mg Q) ok q fun a x G1 H1 s1 ok1 r1 q1 => ?_
 refine zc1 (P := fun _ _ => zao X.K X.mg Q G H) ok1 q1 fun b y G2 H2 s2 ok2 r2 q2 => ?_
 refine hd G2 H2 a b x y _ ok2.ext (r1.mono s2.g) r2 ?_
 have s12 := s1.trans s2
 cases ez : g a b with
 | bad => rw [ez] at q2; exact q2.elim
 | err e => exact absurd ez (hn a b e)
 | ok z =>
  rw [ez] at q2
  intro v G3 H3 s3 r3
  cases z with
  | bl k =>
   cases r3
   have ok3 := ok2.step s3
   have s13 := s12.trans s3
   refine ⟨k, rfl, ?_⟩
   cases k with
   | false =>
    rw [if_neg xau]
    have q3 : zao X.K X.mg Q G H (.bl false) := q2
    exact q3 _ G3 H3 s13 rfl
   | true =>
    rw [if_pos rfl]
    have q3 : RW ((fc Od).bind fun w => g' b w) (zao X.K X.mg Q G H) (zaI X.K X.mg E G2 H2) := q2
    refine zc1 (k := fun w => g' b w) (P := fun _ _ => zao X.K X.mg Q G H) ok3 (q3.mono (fun _ _ z => z) fun _ z => z.step s3) fun c w G4 H4 s4 ok4 r4 q4 => ?_
    exact hd' G4 H4 b c y w Q ok4.ext (r2.mono (s3.g.trans s4.g)) r4 (noX (hn' b c) (q4.mono (fun _ _ z => z.step (s13.trans s4)) fun _ z => z))
  | _ => exact (show False from q2).elim
theorem zpp {op op' : CmpOp} {r r' : R2} {g g' : D -> D -> R D} (ho : OpR X (compareOp op) r) (hd : OpD X.K X.mg r g) (hn : ze8 g) (ho' : OpR X (compareOp op') r') (hd' : OpD X.K X.mg r' g') (hn' : ze8 g') (ha : DE X E a fa) (hb : DE X E b fb) (hc : DE X E c fc)
  (hm : lastMarks [op, op'] [b, c] = false := by with_unfolding_all rfl) : DT X E (.Compare a [op, op'] [b, c] pos) (zaw (zhe g g' fa fb fc)) :=
 PT.mono' (zoX ho ho' ha hb hc hm) fun _ _ _ q => zhT (fun _ _ _ h => zmZ hd hn hd' hn' h) q
theorem zfk {e : Expr} {f : DSt -> R D} (h : DE X E e f) (he : ∀ whole, isTrue e X.env whole = (do let v <- whole; standAt e.pos; holding [v] (truthy v)) := by intro _; rfl) : DT X E e (zaw f) :=
 PT.mono' (ztk h he) fun O H Q q => zhT (t := tE X.K X.mg E f) (fun _ _ _ h => h) q
theorem DW.dt {e : Expr} {f : DSt -> R Bool} (h : DW X E e f) : DT X E e f := h _
variable {zce : List Expr} {ga gb : DSt -> R Bool}
def zr8 (fa fb : DSt -> R Bool) : DSt -> R Bool := fun O => (fa O).bind fun k => bif k then fb O else .ok false
def eOr (fa fb : DSt -> R Bool) : DSt -> R Bool := fun O => (fa O).bind fun k => bif k then .ok true else fb O
def zjG (fa : DSt -> R Bool) : DSt -> R Bool := fun O => (fa O).bind fun k => .ok (!k)
theorem zjH {f : DSt -> R Bool} {α : Type} {k : Bool -> R α} {O : St} {H : Hp} {Q : Bool -> Hp -> Prop} {P : α -> Prop} {G : Hp} {Od : DSt}
  (ok : Ok0 K mg Od O G H) (q : RW ((f Od).bind k) P (zaI K mg E G H))
  (h : ∀ b G' H', zbk G H G' H' -> Ok0 K mg Od O G' H' -> RW (k b) P (zaI K mg E G' H') -> Q b H') : tT K mg E f O H Q :=
 ⟨G, Od, ok, q.of_bind.mono (fun d _ q G' H' s => h d G' H' s (ok.step s) (q.mono (fun _ _ z => z) fun e z => z.step s)) fun _ z => z⟩
theorem zjI (ha : DT X E a ga) : DW X E (.BoolOp .And [a] pos) ga := zru ha
theorem zm0 (ha : DT X E a ga) : DW X E (.BoolOp .Or [a] pos) ga := ztl ha
theorem zm1 (ha : DT X E a ga) (hb : DW X E (.BoolOp .And (b :: zce) pos) gb) : DW X E (.BoolOp .And (a :: b :: zce) pos) (zr8 ga gb) := by
 refine PW.mono' (ztm ha hb) fun O H Q ⟨G, Od, ok, q⟩ => ?_
 refine zjH ok q fun k G' H' s ok' q' => ?_
 cases k with
 | true => rw [if_pos rfl]; exact ⟨G', Od, ok', q'.mono (fun _ _ z => z.step s) fun _ z => z⟩
 | false => rw [if_neg xau]; exact (show zeF Q G H false from q') G' H' s
theorem zjJ (ha : DT X E a ga) (hb : DW X E (.BoolOp .Or (b :: zce) pos) gb) : DW X E (.BoolOp .Or (a :: b :: zce) pos) (eOr ga gb) := by
 refine PW.mono' (zvO ha hb) fun O H Q ⟨G, Od, ok, q⟩ => ?_
 refine zjH ok q fun k G' H' s ok' q' => ?_
 cases k with
 | true => rw [if_pos rfl]; exact (show zeF Q G H true from q') G' H' s
 | false => rw [if_neg xau]; exact ⟨G', Od, ok', q'.mono (fun _ _ z => z.step s) fun _ z => z⟩
theorem zeb (ha : DT X E a ga) : DT X E (.UnaryOp .Not a pos) (zjG ga) := by
 refine PT.mono' (ztn ha) fun O H Q ⟨G, Od, ok, q⟩ => ?_
 exact zjH ok q fun k G' H' s _ q' => (show zeF Q G H (!k) from q') G' H' s
def zpq (fa fb : DSt -> R D) : DSt -> R D := fun O => (fa O).bind fun x => (asB x).bind fun k => bif k then fb O else .ok (.bl false)
def vOr (fa fb : DSt -> R D) : DSt -> R D := fun O => (fa O).bind fun x => (asB x).bind fun k => bif k then .ok (.bl true) else fb O
def zvx (fa : DSt -> R D) : DSt -> R D := fun O => (fa O).bind fun x => (asB x).bind fun k => .ok (.bl !k)
theorem zqq {op} {f : DSt -> R D} (h : DE X E a f) : DE X E (.BoolOp op [a] pos) f := ztp h
theorem ziG (ha : DE X E a fa) (hb : DE X E (.BoolOp .And (b :: zce) pos) fb) : DE X E (.BoolOp .And (a :: b :: zce) pos) (zpq fa fb) := by
 refine PE.mono' (ztq ha hb) fun O H Q ⟨G, Od, ok, q⟩ => ?_
 refine zc1 (P := zao X.K X.mg Q) ok q fun d v G' H' s ok' r q' => ?_
 cases d with
 | bl k =>
  cases r
  refine ⟨k, rfl, ?_⟩
  cases k with
  | true => rw [if_pos rfl]; exact ⟨G', Od, ok', q'.mono (fun _ _ z => z.step s) fun _ z => z⟩
  | false => rw [if_neg xau]; exact (show zao X.K X.mg Q G H (.bl false) from q') _ G' H' s rfl
 | _ => exact (show False from q').elim
theorem zqr (ha : DE X E a fa) : DE X E (.UnaryOp .Not a pos) (zvx fa) := by
 refine PE.mono' (ztr ha) fun O H Q ⟨G, Od, ok, q⟩ => ?_
 refine zc1 (P := zao X.K X.mg Q) ok q fun d v G' H' s ok' r q' => ?_
 cases d with
 | bl k => cases r; exact ⟨k, rfl, (show zao X.K X.mg Q G H (.bl !k) from q') _ G' H' s rfl⟩
 | _ => exact (show False from q').elim
def eIf (c : DSt -> R Bool) (fa fb : DSt -> R D) : DSt -> R D := fun O => (c O).bind fun k => bif k then fa O else fb O
def UnD (K : xFg) (mg : Str -> Option Value) (r : V -> Hp -> VK -> Prop) (g : D -> R D) : Prop :=
 ∀ (G H : Hp) (a : D) (x : V) (Q : VK), zay G H -> Rep K mg G a x -> RW (g a) (zao K mg Q G H) (fun _ => False) -> r x H Q
def eUn (g : D -> R D) (fa : DSt -> R D) : DSt -> R D := fun O => (fa O).bind g
theorem zwy {op : UnaryOp} {r : V -> Hp -> VK -> Prop} {g : D -> R D} (ho : UnR X (unaryOp op) r) (hd : UnD X.K X.mg r g) (hn : ∀ a e, g a ≠ .err e) (ha : DE X E a fa) : DE X E (.UnaryOp op a pos) (eUn g fa) := by
 refine PE.mono' (zvX ho ha) fun O H Q ⟨G, Od, ok, q⟩ => ?_
 refine zc1 (P := zao X.K X.mg Q) ok q fun d v G' H' s ok' r q' => ?_
 exact hd G' H' d v Q ok'.ext r (noX (hn d) (q'.mono (fun _ _ z => z.step s) fun _ z => z))
def zak : DSt -> R (List D) := fun _ => .ok []
def zaa (fa : DSt -> R D) (fs : DSt -> R (List D)) : DSt -> R (List D) := fun O => (fa O).bind fun x => (fs O).bind fun xs => .ok (x :: xs)
variable {es : List Expr} {fs : DSt -> R (List D)}
theorem zbF : DA X E [] zak := PA.mono' zqd fun O H Q ⟨G, Od, ok, q⟩ => (show zkq X.K X.mg Q G H [] from q) [] G H (.refl ok.ext) Reps.nil
theorem zaB (ha : DE X E a fa) (hr : DA X E es fs) (hs : starEach (a :: es) X.env = (false, eval a X.env) :: starEach es X.env := by rfl) : DA X E (a :: es) (zaa fa fs) := by
 refine PA.mono' (zmq ha hr hs) fun O H Q ⟨G, Od, ok, q⟩ => ?_
 refine zc1 (P := zkq X.K X.mg Q) ok q fun d v G' H' s ok' r q' => ?_
 refine ⟨G', Od, ok', q'.of_bind.mono (fun ds _ z vs G2 H2 s2 r2 => ?_) fun _ z => z⟩
 exact (show zkq X.K X.mg Q G H (d :: ds) from z) _ G2 H2 (s.trans s2) (Reps.cons (r.mono s2.g) r2)
def few (n : Nat) : Bool := decide (n <= 1000)
theorem zm2 {n : Nat} (h : few n = true) : n <= sizeLine := zwg (of_decide_eq_true h)
def zfl (fs : DSt -> R (List D)) : DSt -> R D := fun O => (fs O).bind fun ds => bif few ds.length then .ok (.tup ds) else .bad
theorem zm3 {α : Type} {k : List D -> R α} {O : St} {H : Hp} {Q : List V -> Hp -> Prop} {P : α -> Prop} {G : Hp} {Od : DSt}
  (ok : Ok0 K mg Od O G H) (q : RW ((fs Od).bind k) P (zaI K mg E G H))
  (h : ∀ ds vs G' H', zbk G H G' H' -> Ok0 K mg Od O G' H' -> Reps K mg G' ds vs -> RW (k ds) P (zaI K mg E G' H') -> Q vs H') : tAr K mg E fs O H Q :=
 ⟨G, Od, ok, q.of_bind.mono (fun ds _ q vs G' H' s r => h ds vs G' H' s (ok.step s) r (q.mono (fun _ _ z => z) fun e z => z.step s)) fun _ z => z⟩
theorem zua {x1} (h : DA X E es fs) : DE X E (.Tuple es x1 pos) (zfl fs) := by
 refine PE.mono' (ztE h) fun O H Q ⟨G, Od, ok, q⟩ => ?_
 refine zm3 (P := zao X.K X.mg Q G H) ok q fun ds vs G' H' s ok' r q' => ?_
 cases hf : few ds.length with
 | false => rw [hf] at q'; exact (show False from q').elim
 | true =>
  rw [hf] at q'
  have q2 : zao X.K X.mg Q G H (.tup ds) := q'
  refine ⟨by rw [<- r.length]; exact zm2 hf, fun p hp => ?_⟩
  have s2 : zbk G' H' (upd G' p (.tup vs)) (upd H' p (.tup vs)) := .pub ok'.ext hp
  exact q2 _ _ _ (s.trans s2) ⟨p, vs, rfl, SqT.of zap, r.mono s2.g⟩
def zfD (fs : DSt -> R (List D)) : DSt -> R (List D) := fun O => (fs O).bind fun ds => bif few ds.length then .ok ds else .bad
theorem zub (h : DA X E es fs) : DF X E (.List es pos) (zfD fs) := by
 refine PE.mono' (ztF h) fun O H Q ⟨G, Od, ok, q⟩ => ?_
 refine zm3 (P := zdH X.K X.mg Q G H) ok q fun ds vs G' H' s ok' r q' => ?_
 cases hf : few ds.length with
 | false => rw [hf] at q'; exact (show False from q').elim
 | true =>
  rw [hf] at q'
  have q2 : zdH X.K X.mg Q G H ds := q'
  refine ⟨by rw [<- r.length]; exact zm2 hf, fun p hp => ?_⟩
  exact q2 p vs G' _ (s.trans (.hid ok'.ext hp)) (s.h.free hp) zap (ok'.ext.free hp) r
def gIx : D -> D -> R D
 | .tup xs, .int i => match atI xs i with
  | some d => .ok d
  | none => .bad
 | .lst xs, .int i => match atI xs i with
  | some d => .ok d
  | none => .bad
 | _, _ => .bad
theorem zwz : ze8 gIx := by
 intro a b e h
 cases a <;> cases b <;> simp only [gIx] at h <;> first | exact absurd h (by simp) | (split at h <;> cases h)
theorem zwA : OpD K mg (fun x y H Q => rIxL K x y H Q \/ rIxT K x y H Q) gIx := by
 intro G H a b x y Q e ra rb q
 cases b with
 | int i =>
  cases rb
  cases a with
  | lst xs =>
   obtain ⟨p, vs, rfl, h1, h2⟩ := ra
   cases ed : atI xs i with
   | none => simp only [gIx, ed] at q; exact q.elim
   | some d =>
    simp only [gIx, ed] at q
    obtain ⟨v, h3, h4⟩ := h2.at ed
    exact .inl ⟨p, vs, i, v, rfl, rfl, e.seq h1, h3, zao.now q e h4⟩
  | tup xs =>
   obtain ⟨p, vs, rfl, h1, h2⟩ := ra
   cases ed : atI xs i with
   | none => simp only [gIx, ed] at q; exact q.elim
   | some d =>
    simp only [gIx, ed] at q
    obtain ⟨v, h3, h4⟩ := h2.at ed
    exact .inr ⟨p, vs, i, v, rfl, rfl, zay.sqT e h1, h3, zao.now q e h4⟩
  | _ => exact (show False from q).elim
 | _ => cases a <;> exact (show False from q).elim
theorem zpr (ha : DE X E a fa) (hb : DE X E b fb) (hs : zmw b := by intro _ _; rfl) : DE X E (.Subscript a b pos) (eOp gIx fa fb) :=
 PE.mono' (zv6 (zrM.or ztK) ha hb hs) fun _ _ _ h => zkr zwA zwz h
end
def spD (K : xFg) (mg : Str -> Option Value) (m : List D -> R D) : Sp := fun vs H Q E => ∃ G ds, zay G H /\ Reps K mg G ds vs /\ RW (m ds) (zao K mg Q G H) (zaI K mg E G H)
structure zaF (P : Program) (w : World) (K : xFg) (mg : Str -> Option Value) (base : Heap) (k : Nat) (x : Str) (m : List D -> R D) : Prop where
 ex : ∃ (f : Addr) (fd : FuncData) (ps : List Str), zgR P w K mg base (CXe P w) k f fd ps (spD K mg m) /\ mg x = some (.ref f) /\ PySem.W.keepIn K (.ref f) = true /\ zfX K fd ps []
theorem zaF.mono {P : Program} {w : World} {K : xFg} {mg : Str -> Option Value} {base : Heap} {j k : Nat} {x : Str} {m : List D -> R D} (F : zaF P w K mg base j x m) (h : j <= k) : zaF P w K mg base k x m := by
 obtain ⟨f, fd, ps, h1, h2⟩ := F.ex
 exact ⟨f, fd, ps, h1.mono h, h2⟩
structure XC (X : Cx) (E : XK) (k : Nat) : Prop where
 calm : X.calm = true
 room : zfA k X.A
 pass : zii (CXe X.prog X.w) X E
def zat (m : List D -> R D) (fs : DSt -> R (List D)) : DSt -> R D := fun O => (fs O).bind m
def zf8 (K : xFg) (mg : Str -> Option Value) (r : List V -> Hp -> VK -> Prop) (g : List D -> R D) : Prop :=
 ∀ (G H : Hp) (ds : List D) (vs : List V) (Q : VK), zay G H -> Reps K mg G ds vs -> RW (g ds) (zao K mg Q G H) (fun _ => False) -> r vs H Q
def R.noerr {α : Type} : R α -> R α
 | .ok a => .ok a
 | _ => .bad
def zcD (g : List D -> R D) (fs : DSt -> R (List D)) : DSt -> R D := fun O => (fs O).bind fun ds => (g ds).noerr
theorem zcE {α : Type} {r : R α} {Q : α -> Prop} {E' : D -> Prop} (h : RW r.noerr Q E') : ∃ a, r = .ok a /\ Q a := by
 cases r with
 | ok a => exact ⟨a, rfl, h⟩
 | err e => exact (show False from h).elim
 | bad => exact (show False from h).elim
section
variable {X : Cx} {E : XK} {k : Nat} {x : Str} {m : List D -> R D} {p pos : Pos} {e : Expr} {es : List Expr} {fs : DSt -> R (List D)}
theorem zm4 (C : XC X E k) (F : zaF X.prog X.w X.K X.mg X.base k x m) (ha : DA X E (e :: es) fs) (hg : Gl X x := by rfl) (hdb : (x == ("__debug__" : Str)) = false := by decide)
  (he : starEach (e :: es) X.env = (false, eval e X.env) :: starEach es X.env := by rfl) (hpl : (backTo pos (starEach es X.env)).any (·.1) = false := by rfl) : DE X E (.Call (.Name x p) (e :: es) [] pos) (zat m fs) := by
 obtain ⟨f, fd, ps, h1, h2, h3, h4⟩ := F.ex
 refine PE.mono' (zmr h1 C.room hg h2 h3 h4 .nil C.pass ha hdb he hpl) fun O H Q ⟨G, Od, ok, q⟩ => ?_
 refine ⟨G, Od, ok, q.of_bind.mono (fun ds hds z vs G' H' s r => ?_) fun _ z => z⟩
 show spD X.K X.mg m (vs ++ []) H' Q E
 rw [xb7]
 exact ⟨G', ds, s.e, r, z.mono (fun _ _ z => z.step s) fun _ z => z.step s⟩
theorem zhf {id : String} {r : List V -> Hp -> VK -> Prop} {g : List D -> R D} (hc : zc0 X (.builtin id) r) (hd : zf8 X.K X.mg r g) (hm : X.mg x = none) (hv : bootBuiltins x = some (.builtin id)) (ha : DA X E (e :: es) fs) (hg : Gl X x := by rfl) (hn : x ≠ "__name__" := by decide) (hdb : (x == ("__debug__" : Str)) = false := by decide)
  (he : starEach (e :: es) X.env = (false, eval e X.env) :: starEach es X.env := by rfl) (hpl : (backTo pos (starEach es X.env)).any (·.1) = false := by rfl) : DE X E (.Call (.Name x p) (e :: es) [] pos) (zcD g fs) := by
 refine PE.mono' (zkg hc hg hm hv ha hn hdb he hpl) fun O H Q ⟨G, Od, ok, q⟩ => ?_
 refine ⟨G, Od, ok, q.of_bind.mono (fun ds _ z vs G' H' s r => ?_) fun _ z => z⟩
 obtain ⟨d, e1, z⟩ := zcE z
 exact hd G' H' ds vs Q s.e r (by rw [e1]; exact z.step s)
theorem zuc {T : String} {r : List V -> Hp -> VK -> Prop} {g : List D -> R D} (hc : zc0 X (.type T) r) (hd : zf8 X.K X.mg r g) (hm : X.mg x = none) (ha : DA X E (e :: es) fs) (hv : bootBuiltins x = some (.type T) := by rfl) (hg : Gl X x := by rfl) (hn : x ≠ "__name__" := by decide) (hdb : (x == ("__debug__" : Str)) = false := by decide)
  (he : starEach (e :: es) X.env = (false, eval e X.env) :: starEach es X.env := by rfl) (hpl : (backTo pos (starEach es X.env)).any (·.1) = false := by rfl) : DE X E (.Call (.Name x p) (e :: es) [] pos) (zcD g fs) := by
 refine PE.mono' (zfY hc hg hm hv ha hn hdb he hpl) fun O H Q ⟨G, Od, ok, q⟩ => ?_
 refine ⟨G, Od, ok, q.of_bind.mono (fun ds _ z vs G' H' s r => ?_) fun _ z => z⟩
 obtain ⟨d, e1, z⟩ := zcE z
 exact hd G' H' ds vs Q s.e r (by rw [e1]; exact z.step s)
end
def setAll {α : Type} : List (Option α) -> List Nat -> List α -> List (Option α)
 | O, k :: ks, v :: vs => setAll (O.set k (some v)) ks vs
 | O, _, _ => O
theorem zhg {α : Type} : ∀ (ks : List Nat) (O : List (Option α)) (vs : List α), (setAll O ks vs).length = O.length
 | [], _, _ => by unfold setAll; rfl
 | _ :: _, _, [] => by unfold setAll; rfl
 | _ :: ks, O, _ :: vs => by unfold setAll; rw [zhg ks]; simp
theorem ziH {α : Type} {j : Nat} : ∀ (ks : List Nat) (O : List (Option α)) (vs : List α), j ∉ ks -> (setAll O ks vs)[j]? = O[j]?
 | [], _, _, _ => by unfold setAll; rfl
 | _ :: _, _, [], _ => by unfold setAll; rfl
 | k :: ks, O, _ :: vs, h => by
  unfold setAll
  rw [ziH ks _ vs fun z => h (xae _ z), xal (fun z => h (by rw [<- z]; exact xan))]
def tG (K : xFg) (mg : Str -> Option Value) (ks : List Nat) (gp : D -> R (List D)) : TG := fun v O H Q => ∃ G d, zay G H /\ Rep K mg G d v /\ RW (gp d) (fun us => ∀ ws, Reps K mg G us ws -> Q (setAll O ks ws) H) (fun _ => False)
def DG (X : Cx) (tg : Expr) (ks : List Nat) (gp : D -> R (List D)) : Prop := PG X tg (tG X.K X.mg ks gp)
def zaJ : D -> R (List D) := fun d => .ok [d]
def zbM (n : Nat) : D -> R (List D)
 | .tup ds => bif ds.length == n then .ok ds else .bad
 | .lst ds => bif ds.length == n then .ok ds else .bad
 | _ => .bad
section
variable {X : Cx} {pos : Pos}
theorem PG.mono' {tg : Expr} {t t' : TG} (h : PG X tg t) (m : ∀ v O H Q, t' v O H Q -> t v O H Q) : PG X tg t' := fun pins s O H v u Q I r q => h pins s O H v u Q I r (m v O H Q q)
theorem PG.or {tg : Expr} {t t' : TG} (h : PG X tg t) (h' : PG X tg t') : PG X tg (fun v O H Q => t v O H Q \/ t' v O H Q) := fun pins s O H v u Q I r q => by
 rcases q with q | q
 ·exact h pins s O H v u Q I r q
 ·exact h' pins s O H v u Q I r q
theorem zr9 (i : Nat) {x : Str} (hN : X.N.Nodup) (hi : X.N[i]? = some x := by rfl) (hx : Loc X.env.scope x := by first | exact Or.inl rfl | exact Or.inr rfl) (hf : X.fn x = true \/ X.env.scope.names.lookup x = some .local := by first | exact .inl rfl | exact .inr rfl | assumption) : DG X (.Name x pos) [i] zaJ :=
 PG.mono' (zmj hN hi hx hf) fun v O H Q ⟨G, d, e, r, q⟩ => by
  have q' := (show ∀ ws, Reps X.K X.mg G [d] ws -> Q (setAll O [i] ws) H from q) [v] (Reps.cons r Reps.nil)
  exact q'
def zm5 : List Nat -> TGs
 | [] => gNil
 | i :: r => ztt (zie i) (zm5 r)
theorem zf9 : ∀ (ks : List Nat) (vs : List V) (O : St) (H : Hp) (Q : St -> Hp -> Prop), vs.length = ks.length -> Q (setAll O ks vs) H -> zm5 ks vs O H Q
 | [], [], _, _, _, _, q => ⟨rfl, q⟩
 | i :: r, v :: vs, O, H, Q, hl, q => ⟨v, vs, rfl, zf9 r vs _ H Q (by simpa using hl) q⟩
theorem zud {es : List Expr} {k : Nat} (ks : List Nat) (n : Nat) (hc : X.calm = true) (h : PGs X es (zm5 ks)) (hk : ks.length = n := by rfl)
  (hn : (assignEach es X.env).length = n := by rfl) (hst : (assignEach es X.env).findIdx? (·.1) = none := by rfl) : DG X (.Tuple es k pos) ks (zbM n) := by
 refine PG.mono' (PG.or (ztu hc h hn hst) (ztO hc h hn hst)) fun v O H Q ⟨G, d, e, r, q⟩ => ?_
 cases d with
 | tup ds =>
  obtain ⟨a, vs, rfl, h1, h2⟩ := r
  by_cases hd : ds.length = n
  ·have q' : ∀ ws, Reps X.K X.mg G ds ws -> Q (setAll O ks ws) H := by
    simp only [zbM, hd, beq_self_eq_true, cond_true] at q; exact q
   exact .inl ⟨a, vs, rfl, zay.sqT e h1, by rw [<- h2.length]; exact hd, zf9 ks vs O H Q (by rw [<- h2.length, hd, hk]) (q' vs h2)⟩
  ·have : (ds.length == n) = false := by simpa using hd
   simp only [zbM, this, cond_false] at q; exact q.elim
 | lst ds =>
  obtain ⟨a, vs, rfl, h1, h2⟩ := r
  by_cases hd : ds.length = n
  ·have q' : ∀ ws, Reps X.K X.mg G ds ws -> Q (setAll O ks ws) H := by
    simp only [zbM, hd, beq_self_eq_true, cond_true] at q; exact q
   exact .inr ⟨a, vs, rfl, e.seq h1, by rw [<- h2.length]; exact hd, zf9 ks vs O H Q (by rw [<- h2.length, hd, hk]) (q' vs h2)⟩
  ·have : (ds.length == n) = false := by simpa using hd
   simp only [zbM, this, cond_false] at q; exact q.elim
 | _ => exact (show False from q).elim
end
theorem Ok0.setAll {K : xFg} {mg : Str -> Option Value} {G H : Hp} : ∀ {ks : List Nat} {us : List D} {ws : List V} {Od : DSt} {O : St}, Ok0 K mg Od O G H -> Reps K mg G us ws -> Ok0 K mg (setAll Od ks us) (setAll O ks ws) G H
 | [], _, _, _, _, o, _ => by unfold DL.setAll; exact o
 | _ :: _, [], _, _, _, o, h => by cases h; unfold DL.setAll; exact o
 | k :: ks, _ :: _, _, _, _, o, ⟨v, r, h1, h2, h3⟩ => by subst h1; unfold DL.setAll; exact Ok0.setAll (o.set h2) h3
structure zdJ (K : xFg) (mg : Str -> Option Value) (J : It) (G : Hp) (ds : List D) : Prop where
 stop : ∀ H, zay G H -> J.stop ds.length H
 turn : ∀ (H : Hp) (i : Nat) (d : D), zay G H -> ds[i]? = some d -> J.go i H /\ ∀ x H', J.yld i H x H' -> ∀ G1, zay G G1 -> zay G1 H -> ∃ G2, zbk G1 H G2 H' /\ Rep K mg G2 d x
def tI (K : xFg) (mg : Str -> Option Value) (E : XK) (f : DSt -> R (List D)) : TI := fun O H R => ∃ G Od, Ok0 K mg Od O G H /\ RW (f Od) (fun ds => ∀ J G' H', zbk G H G' H' -> zdJ K mg J G' ds -> R J H') (zaI K mg E G H)
def DI (X : Cx) (E : XK) (tg iter : Expr) (f : DSt -> R (List D)) : Prop := PI X tg iter (tI X.K X.mg E f)
section
variable {X : Cx} {E : XK} {tg : Expr}
theorem PI.mono' {iter : Expr} {t t' : TI} (h : PI X tg iter t) (m : ∀ O H R, t' O H R -> t O H R) : PI X tg iter t' := fun pins s O H R I q => h pins s O H R I (m O H R q)
theorem zdJ.list {K : xFg} {mg : Str -> Option Value} {G : Hp} {a : Addr} {vs : List V} {ds : List D} (h : SqL K G a vs) (r : Reps K mg G ds vs) : zdJ K mg (Itl K a) G ds := by
 refine ⟨fun H e => by rw [r.length]; exact (lgo (e.seq h)).1, fun H i d e hd => ?_⟩
 have hi : i < vs.length := by rw [<- r.length]; exact (xaj.mp hd).1
 obtain ⟨g1, g2⟩ := (lgo (e.seq h)).2 i hi
 refine ⟨g1, fun x H' y G1 e1 e2 => ?_⟩
 obtain ⟨rfl, hx⟩ := g2 x H' y
 obtain ⟨v, h1, h2⟩ := r.get hd
 rw [hx] at h1; cases h1
 exact ⟨G1, .refl e2, h2.mono e1⟩
theorem zdJ.tup {K : xFg} {mg : Str -> Option Value} {G : Hp} {a : Addr} {vs : List V} {ds : List D} (h : SqT K G a vs) (r : Reps K mg G ds vs) : zdJ K mg (Itt K a) G ds := by
 refine ⟨fun H e => by rw [r.length]; exact (tgo (zay.sqT e h)).1, fun H i d e hd => ?_⟩
 have hi : i < vs.length := by rw [<- r.length]; exact (xaj.mp hd).1
 obtain ⟨g1, g2⟩ := (tgo (zay.sqT e h)).2 i hi
 refine ⟨g1, fun x H' y G1 e1 e2 => ?_⟩
 obtain ⟨rfl, hx⟩ := g2 x H' y
 obtain ⟨v, h1, h2⟩ := r.get hd
 rw [hx] at h1; cases h1
 exact ⟨G1, .refl e2, h2.mono e1⟩
def zm6 (lo : Int) (n : Nat) : List D := (List.range n).map fun (i : Nat) => D.int (lo + (i : Int))
theorem zdJ.rng {K : xFg} {mg : Str -> Option Value} {G : Hp} (lo : Int) (n : Nat) : zdJ K mg (Itr lo n) G (zm6 lo n) := by
 have hl : (zm6 lo n).length = n := by simp [zm6]
 refine ⟨fun H e => by rw [hl]; exact xad _, fun H i d e hd => ?_⟩
 have hi : i < n := by have := (xaj.mp hd).1; omega
 refine ⟨hi, fun x H' y G1 e1 e2 => ?_⟩
 obtain ⟨rfl, rfl⟩ := y
 have : d = .int (lo + (i : Int)) := by simp [zm6, hi] at hd; exact hd.symm
 subst this
 exact ⟨G1, .refl e2, rfl⟩
def zue : D -> R (List D)
 | .tup ds => .ok ds
 | .lst ds => .ok ds
 | _ => .bad
def zhU (f : DSt -> R D) : DSt -> R (List D) := fun O => (f O).bind zue
theorem zuf {l : Expr} {f : DSt -> R D} (hl : DE X E l f) : DI X E tg l (zhU f) := by
 have hL : PI X tg l (ztx X.K (tE X.K X.mg E f)) := zrA hl
 have hT : PI X tg l (iTup X.K (tE X.K X.mg E f)) := zty hl
 intro pins s O H R I ⟨G, Od, ok, q⟩
 cases hf : f Od with
 | bad => unfold zhU at q; rw [hf] at q; exact (show False from q).elim
 | err e =>
  unfold zhU at q; rw [hf] at q
  refine hL pins s O H R I ⟨G, Od, ok, ?_⟩
  rw [hf]; exact q
 | ok d =>
  unfold zhU at q; rw [hf] at q
  cases d with
  | lst ds =>
   have q' : ∀ J G' H', zbk G H G' H' -> zdJ X.K X.mg J G' ds -> R J H' := q
   refine hL pins s O H R I ⟨G, Od, ok, ?_⟩
   rw [hf]
   rintro v G' H' st ⟨a, vs, rfl, h1, h2⟩
   exact ⟨a, rfl, ⟨vs, st.e.seq h1⟩, q' _ G' H' st (.list h1 h2)⟩
  | tup ds =>
   have q' : ∀ J G' H', zbk G H G' H' -> zdJ X.K X.mg J G' ds -> R J H' := q
   refine hT pins s O H R I ⟨G, Od, ok, ?_⟩
   rw [hf]
   rintro v G' H' st ⟨a, vs, rfl, h1, h2⟩
   exact ⟨a, rfl, ⟨vs, zay.sqT st.e h1⟩, q' _ G' H' st (.tup h1 h2)⟩
  | _ => exact (show False from q).elim
def rOk (i : Int) : Bool := Nat.blt i.natAbs 1073741824
theorem zug {i : Int} (h : rOk i = true) : -(2 ^ 30) <= i /\ i < 2 ^ 30 := by
 unfold rOk at h
 rw [Nat.blt_eq] at h
 omega
def zgS : List D -> R (List D)
 | [.int j] => bif rOk j then .ok (zm6 0 j.toNat) else .bad
 | _ => .bad
def rng2 : List D -> R (List D)
 | [.int i, .int j] => bif rOk i && rOk j then .ok (zm6 i (j - i).toNat) else .bad
 | _ => .bad
def zc2 (g : List D -> R (List D)) (fs : DSt -> R (List D)) : DSt -> R (List D) := fun O => (fs O).bind g
variable {fs : DSt -> R (List D)} {a b c : Expr} {p pos : Pos}
theorem zm7 (hm : X.mg "range" = none) (ha : DA X E [a] fs) (hg : Gl X "range" := by rfl) (hs : starEach [a] X.env = [(false, eval a X.env)] := by rfl) : DI X E tg (.Call (.Name "range" p) [a] [] pos) (zc2 zgS fs) := by
 refine PI.mono' (zmm hg hm ha hs) fun O H R ⟨G, Od, ok, q⟩ => ?_
 refine ⟨G, Od, ok, q.of_bind.mono (fun ds _ z vs G' H' s r => ?_) fun _ z => z⟩
 match ds, z, r with
 | [.int j], z, r =>
  obtain rfl := Reps.of_ints (ns := [j]) r
  cases hj : rOk j with
  | false => simp only [zgS, hj, cond_false] at z; exact z.elim
  | true =>
   simp only [zgS, hj, cond_true] at z
   have := zug hj
   exact ⟨j, rfl, by omega, by omega, z _ G' H' s (.rng 0 _)⟩
end
def lcD (ks : List Nat) (gp : D -> R (List D)) (c : DSt -> R Bool) (e : DSt -> R D) (O : DSt) : List D -> R (List D)
 | [] => .ok []
 | d :: ds => (gp d).bind fun us => (c (setAll O ks us)).bind fun k => bif k then (e (setAll O ks us)).bind fun y => (lcD ks gp c e O ds).bind fun ys => .ok (y :: ys) else lcD ks gp c e O ds
def most (n : Nat) : Bool := decide (n < sizeLine)
def eLC (k : Nat) (ks : List Nat) (fi : DSt -> R (List D)) (gp : D -> R (List D)) (c : DSt -> R Bool) (e : DSt -> R D) : DSt -> R (List D) := fun O => (fi O).bind fun ds => bif most ds.length then (lcD ks gp c e (List.replicate k none ++ O) ds).noerr else .bad
def zbv : DSt -> R Bool := fun _ => .ok true
def DTs (X : Cx) (E : XK) (cs : List Expr) (f : DSt -> R Bool) : Prop := PTs X cs (tT X.K X.mg E f)
theorem PTs.mono' {X : Cx} {cs : List Expr} {t t' : TT} (h : PTs X cs t) (m : ∀ O H Q, t' O H Q -> t O H Q) : PTs X cs t' := fun pins s O H Q I q => h pins s O H Q I (m O H Q q)
theorem zb7 {X : Cx} {E : XK} : DTs X E [] zbv := PTs.mono' zrP fun O H Q ⟨G, Od, ok, q⟩ => (show zeF Q G H true from q) G H (.refl ok.ext)
theorem zhV {X : Cx} {E : XK} {c : Expr} {f : DSt -> R Bool} (h : DT X E c f) : DTs X E [c] f := zrQ h
theorem RW.ok_of {α : Type} {r : R α} {a : α} {Q : α -> Prop} {E : D -> Prop} (e : r = .ok a) (h : Q a) : RW r Q E := by rw [e]; exact h
theorem zhW {α β : Type} {r : R α} {k : α -> R β} {b : β} (h : r.bind k = .ok b) : ∃ a, r = .ok a /\ k a = .ok b := by
 cases r with
 | ok a => exact ⟨a, rfl, h⟩
 | err e => cases h
 | bad => cases h
section
variable {X : Cx} {E : XK} {tg elt iter : Expr} {ifs : List Expr} {scope : Scope} {pos : Pos} {NY : List Str} {k : Nat} {ks : List Nat} {fi : DSt -> R (List D)} {gp : D -> R (List D)} {fc : DSt -> R Bool} {fe : DSt -> R D}
theorem ziI {k : Nat} {ks : List Nat} {O : St} (h : ks.all (fun i => decide (i < k)) = true) (ws : List V) : zrR (List.replicate k none ++ O) (setAll (List.replicate k none ++ O) ks ws) := by
 refine ⟨zhg _ _ _, fun j v e => ?_⟩
 rw [ziH _ _ _ fun hj => ?_]
 ·exact e
 ·have hk : j < k := of_decide_eq_true (xa1.mp h j hj)
  rw [xb3 (by simpa using hk), xcr, if_pos hk] at e
  cases e
theorem zm8 {te : TE} {tc : TT} (hk : ks.all (fun i => decide (i < k)) = true) {O : St} {H : Hp} {Q : VK}
  (h : tFr X.K X.mg E (eLC k ks fi gp fc fe) O H Q) : tLC k (tI X.K X.mg E fi) (tG X.K X.mg ks gp) (tT X.K X.mg E0 fc) (tE X.K X.mg E0 fe) O H Q := by
 obtain ⟨G, Od, ok, q⟩ := h
 refine ⟨G, Od, ok, q.of_bind.mono (fun ds _ z J G1 H1 s1 it => ?_) fun _ z => z⟩
 cases hm : most ds.length with
 | false => rw [hm] at z; exact (show False from z).elim
 | true =>
  rw [hm] at z
  obtain ⟨tot, ht, z⟩ := zcE (show RW (lcD ks gp fc fe (List.replicate k none ++ Od) ds).noerr _ _ from z)
  have hlt : ds.length < sizeLine := of_decide_eq_true hm
  have ok1 := ok.step s1
  refine ⟨fun i m ys H' => m = ds.length - i /\ i <= ds.length /\ ∃ G' yd zce, zbk G1 H1 G' H' /\ Reps X.K X.mg G' yd ys /\ yd.length <= i /\ lcD ks gp fc fe (List.replicate k none ++ Od) (ds.drop i) = .ok zce /\ tot = yd ++ zce,
   ⟨ds.length, by simp, xch _, G1, [], tot, .refl ok1.ext, Reps.nil, xch _, ht, rfl⟩, ?_⟩
  rintro i m ys H' ⟨rfl, hi, G', yd, zce, s, r, hyl, hr, rfl⟩
  refine ⟨by rw [<- r.length]; omega, ?_⟩
  by_cases hlt2 : i < ds.length
  ·right
   obtain ⟨d, hd⟩ : ∃ d, ds[i]? = some d := ⟨ds[i], by simp [hlt2]⟩
   obtain ⟨g1, g2⟩ := it.turn H' i d (s.g.trans s.e) hd
   have hdrop : ds.drop i = d :: ds.drop (i + 1) := by
    rw [List.drop_eq_getElem_cons hlt2]
    congr 1
    exact Option.some.inj ((xao hlt2).symm.trans hd)
   rw [hdrop] at hr
   refine ⟨g1, fun ys' H'' => ∃ G' yd zce, zbk G1 H1 G' H'' /\ Reps X.K X.mg G' yd ys' /\ yd.length <= i + 1 /\ lcD ks gp fc fe (List.replicate k none ++ Od) (ds.drop (i + 1)) = .ok zce /\ _ = yd ++ zce, fun ys' H'' h => ⟨ds.length - (i + 1), by omega, rfl, hlt2, h⟩, fun v H'' hy => ?_⟩
   obtain ⟨G2, s2, rv⟩ := g2 v H'' hy G' s.g s.e
   unfold lcD at hr
   obtain ⟨us, e1, hr⟩ := zhW hr
   obtain ⟨kk, e2, hr⟩ := zhW hr
   have s12 := s.trans s2
   have okN : Ok0 X.K X.mg (List.replicate k none ++ Od) (List.replicate k none ++ O) G2 H'' := (ok1.step s12).nones k
   refine ⟨G2, d, s2.e, rv, RW.ok_of e1 fun ws rws => ⟨ziI hk ws, ?_⟩⟩
   have okS := okN.setAll (ks := ks) rws
   refine ⟨G2, _, okS, RW.ok_of e2 fun G3 H3 s3 => ?_⟩
   cases kk with
   | false =>
    rw [if_neg xau]
    exact ⟨G3, yd, zce, s12.trans s3, r.mono (s2.g.trans s3.g), by omega, hr, rfl⟩
   | true =>
    rw [if_pos rfl]
    obtain ⟨y, e3, hr⟩ := zhW (show (fe (setAll (List.replicate k none ++ Od) ks us)).bind _ = _ from hr)
    obtain ⟨ys2, e4, hr⟩ := zhW hr
    cases hr
    refine ⟨G3, _, okS.step s3, RW.ok_of e3 fun w G4 H4 s4 r4 => ?_⟩
    exact ⟨G4, yd ++ [y], ys2, (s12.trans s3).trans s4, (r.mono ((s2.g.trans s3.g).trans s4.g)).append (Reps.cons r4 Reps.nil), by simp; omega, e4, by simp⟩
  ·left
   have hi2 : i = ds.length := by omega
   subst hi2
   refine ⟨it.stop H' (s.g.trans s.e), fun Dd hD => ?_⟩
   rw [List.drop_length] at hr
   have hre : zce = [] := by unfold lcD at hr; cases hr; rfl
   subst hre
   rw [xb7] at z
   have st := (s1.trans s)
   exact z Dd ys G' _ (st.trans (.hid st.e hD)) (st.h.free hD) zap (st.e.free hD) r
theorem zga (C : X.calm = true) (lc : LC X k scope NY) (hk : ks.all (fun i => decide (i < k)) = true) (hi : DI X E tg iter fi)
  (hb : ∀ (s₀ : Shared) (H₀ : Hp) (C : Addr) (ex : List Addr), NY.Nodup -> DG (zdG X scope NY s₀ H₀ C ex) tg ks gp /\ DTs (zdG X scope NY s₀ H₀ C ex) E0 ifs fc /\ DE (zdG X scope NY s₀ H₀ C ex) E0 elt fe)
  (hs : ∀ x, foldedSetIterable iter X.env x = pure x := by intro _; rfl) : DF X E (.ListComp elt [⟨tg, iter, ifs, 0⟩] scope pos) (eLC k ks fi gp fc fe) :=
 PE.mono' (zwe (g := tG X.K X.mg ks gp) (tc := tT X.K X.mg E0 fc) (te := tE X.K X.mg E0 fe) C lc hi (fun s0 H0 Ca ex nd => hb s0 H0 Ca ex nd) hs) fun _ _ _ h => zm8 (te := tE X.K X.mg E0 fe) (tc := tT X.K X.mg E0 fc) hk h
end
end DL
namespace DL
open L2
mutual
def imm : D -> Bool
 | .lst _ => false
 | .dct _ _ => false
 | .tup ds => imms ds
 | .exc _ as => imms as
 | .non => true
 | .bl _ => true
 | .int _ => true
 | .str _ => true
 | .ty _ => true
 | .cls _ => true
def imms : List D -> Bool
 | [] => true
 | d :: ds => imm d && imms ds
end
def zm9 (G G' : Hp) : Prop := ∀ a o, G a = some o -> (∀ xs, o ≠ .lst xs) -> G' a = some o
section
variable {K : xFg} {mg : Str -> Option Value} {G G' H H' H0 : Hp}
theorem zm9.sqT {a : Addr} {xs : List V} (e : zm9 G G') (h : SqT K G a xs) : SqT K G' a xs := by
 rcases h with (h | ⟨o, h⟩) | h
 ·exact .inl (.inl (e _ _ h fun xs z => by cases z))
 ·exact .inl (.inr ⟨o, e _ _ h fun xs z => by cases z⟩)
 ·exact .inr h
mutual
theorem Rep.imm (e : zm9 G G') : ∀ {d : D} {v : V}, imm d = true -> Rep K mg G d v -> Rep K mg G' d v
 | .non, _, _, h => h
 | .bl _, _, _, h => h
 | .int _, _, _, h => h
 | .str _, _, _, h => h
 | .ty _, _, _, h => h
 | .cls _, _, _, h => h
 | .tup _, _, i, ⟨a, vs, h1, h2, h3⟩ => ⟨a, vs, h1, e.sqT h2, Reps.imm e (by unfold DL.imm at i; exact i) h3⟩
 | .lst _, _, i, _ => by unfold DL.imm at i; cases i
 | .dct _ _, _, i, _ => by unfold DL.imm at i; cases i
 | .exc _ _, _, i, ⟨x, C, dct, vs, h1, h2, h3, h4, h5⟩ => ⟨x, C, dct, vs, h1, e _ _ h2 fun xs z => (by unfold zoM at z; cases z), h3, by
   rcases h4 with h | ⟨dx, v, q1, q2, q3⟩
   ·exact .inl h
   ·exact .inr ⟨dx, v, q1, q2, e _ _ q3 fun xs z => by cases z⟩, Reps.imm e (by unfold DL.imm at i; exact i) h5⟩
theorem Reps.imm (e : zm9 G G') : ∀ {ds : List D} {vs : List V}, imms ds = true -> Reps K mg G ds vs -> Reps K mg G' ds vs
 | [], _, _, h => h
 | _ :: _, _, i, ⟨v, r, h1, h2, h3⟩ => by
  unfold imms at i
  rw [xay] at i
  exact ⟨v, r, h1, Rep.imm e i.1 h2, Reps.imm e i.2 h3⟩
end
end
structure Ok (K : xFg) (mg : Str -> Option Value) (H0 : Hp) (own : List Nat) (Od : DSt) (O : St) (G H : Hp) : Prop where
 ext : zay G H
 len : Od.length = O.length
 val : ∀ (i : Nat) (d : D), i ∉ own -> Od[i]? = some (some d) -> ∃ v, O[i]? = some (some v) /\ Rep K mg G d v
 mine : ∀ (i : Nat) (d : D), i ∈ own -> Od[i]? = some (some d) -> ∃ a ds vs, O[i]? = some (some (.ref a)) /\ d = .lst ds /\ H a = some (.lst vs) /\ G a = none /\ H0 a = none /\ Reps K mg G ds vs
 dj : ∀ (i j : Nat) (a : Addr) (d d' : D), i ∈ own -> j ∈ own -> Od[i]? = some (some d) -> Od[j]? = some (some d') -> O[i]? = some (some (.ref a)) -> O[j]? = some (some (.ref a)) -> i = j
def zfE (own : List Nat) : Nat -> DSt -> DSt
 | _, [] => []
 | i, d :: ds => (bif own.contains i then none else d) :: zfE own (i + 1) ds
def mask (own : List Nat) (O : DSt) : DSt := zfE own 0 O
theorem ziJ {own : List Nat} : ∀ (O : DSt) (k i : Nat) (d : D), (zfE own k O)[i]? = some (some d) -> k + i ∉ own /\ O[i]? = some (some d)
 | [], _, _, _, h => by unfold zfE at h; simp at h
 | x :: O, k, 0, d, h => by
  unfold zfE at h
  simp only [List.getElem?_cons_zero, Option.some.injEq] at h
  cases hc : own.contains k with
  | true => rw [hc] at h; cases h
  | false =>
   rw [hc] at h
   have h' : x = some d := h
   subst h'
   exact ⟨by simpa using hc, rfl⟩
 | x :: O, k, i + 1, d, h => by
  unfold zfE at h
  have := ziJ O (k + 1) i d (by simpa using h)
  rw [show k + (i + 1) = k + 1 + i by omega]
  exact ⟨this.1, by simpa using this.2⟩
theorem ziK {own : List Nat} : ∀ (O : DSt) (k : Nat), (zfE own k O).length = O.length
 | [], _ => rfl
 | _ :: O, k => by unfold zfE; simp [ziK O]
def zps (own : List Nat) (Od : DSt) (O : St) (b : Addr) : Prop := ∃ i d, i ∈ own /\ Od[i]? = some (some d) /\ O[i]? = some (some (.ref b))
open Classical in
noncomputable def zmd (own : List Nat) (Od : DSt) (O : St) (G H : Hp) : Hp := fun b => if zps own Od O b then H b else G b
open Classical in
noncomputable def zlS (own : List Nat) (Od : DSt) (O : St) (G : Hp) : Hp := fun b => if zps own Od O b then none else G b
section
variable {K : xFg} {mg : Str -> Option Value} {G G' G0 H H' H0 : Hp} {own : List Nat} {Od : DSt} {O : St}
theorem Ok.masked (o : Ok K mg H0 own Od O G H) : Ok0 K mg (mask own Od) O G H :=
 ⟨o.ext, by unfold mask; rw [ziK]; exact o.len, fun i d h => by
  have := ziJ Od 0 i d h
  rw [xbm] at this
  exact o.val i d this.1 this.2⟩
theorem Ok.zero (o : Ok0 K mg Od O G H) : Ok K mg H0 [] Od O G H :=
 ⟨o.ext, o.len, fun i d _ h => o.val i d h, fun i d h => absurd h (by simp), fun i j a d d' h => absurd h (by simp)⟩
theorem Ok.step (o : Ok K mg H0 own Od O G H) (s : zbk G H G' H') : Ok K mg H0 own Od O G' H' :=
 ⟨s.e, o.len, fun i d hi h => let ⟨v, h1, h2⟩ := o.val i d hi h; ⟨v, h1, h2.mono s.g⟩, fun i d hi h => by
  obtain ⟨a, ds, vs, h1, h2, h3, h4, h5, h6⟩ := o.mine i d hi h
  exact ⟨a, ds, vs, h1, h2, s.h _ _ h3, s.c _ _ h3 h4, h5, h6.mono s.g⟩, o.dj⟩
theorem Ok.notOwn (o : Ok K mg H0 own Od O G H) {b : Addr} {u : HO} (h : G b = some u) : ¬ zps own Od O b := by
 rintro ⟨i, d, h1, h2, h3⟩
 obtain ⟨a, ds, vs, q1, q2, q3, q4, _⟩ := o.mine i d h1 h2
 rw [q1] at h3
 cases h3
 rw [q4] at h; cases h
theorem Ok.ownLst (o : Ok K mg H0 own Od O G H) {b : Addr} (h : zps own Od O b) : (∃ vs, H b = some (.lst vs)) /\ G b = none /\ H0 b = none := by
 obtain ⟨i, d, h1, h2, h3⟩ := h
 obtain ⟨a, ds, vs, q1, q2, q3, q4, q5, _⟩ := o.mine i d h1 h2
 rw [q1] at h3
 cases h3
 exact ⟨⟨vs, q3⟩, q4, q5⟩
theorem Ok.pub (o : Ok K mg H0 own Od O G H) : Ok0 K mg Od O (zmd own Od O G H) H /\ zay G (zmd own Od O G H) := by
 have sg : zay G (zmd own Od O G H) := fun b u h => by unfold zmd; rw [if_neg (o.notOwn h)]; exact h
 refine ⟨⟨fun b u h => ?_, o.len, fun i d h => ?_⟩, sg⟩
 ·unfold zmd at h
  split at h
  ·exact h
  ·exact o.ext b u h
 ·by_cases hi : i ∈ own
  ·obtain ⟨a, ds, vs, q1, rfl, q3, q4, q5, q6⟩ := o.mine i d hi h
   refine ⟨_, q1, a, vs, rfl, SqL.of ?_, q6.mono sg⟩
   unfold zmd
   rw [if_pos ⟨i, _, hi, h, q1⟩]; exact q3
  ·obtain ⟨v, h1, h2⟩ := o.val i d hi h
   exact ⟨v, h1, h2.mono sg⟩
theorem Ok.pubStep (o : Ok K mg H0 own Od O G H) (s0 : zbk G0 H0 G H) : zbk G0 H0 (zmd own Od O G H) H := by
 refine ⟨s0.g.trans o.pub.2, s0.h, o.pub.1.ext, fun b u h1 h2 => ?_⟩
 unfold zmd
 rw [if_neg fun z => by rw [(o.ownLst z).2.2] at h1; cases h1]
 exact s0.c b u h1 h2
theorem Ok.drop (o : Ok K mg H0 own Od O G H) (s : zay H H') : Ok K mg H0 own Od O G H' :=
 o.step (.heap o.ext s)
theorem Ok.hide (o : Ok K mg H0 own Od O G H) (s : zbk (zmd own Od O G H) H G' H') : zbk G H (zlS own Od O G') H' /\ zm9 G' (zlS own Od O G') := by
 refine ⟨⟨fun b u h => ?_, s.h, fun b u h => ?_, fun b u h1 h2 => ?_⟩, fun b u h1 h2 => ?_⟩
 ·unfold zlS
  rw [if_neg (o.notOwn h)]
  exact s.g b u (o.pub.2 b u h)
 ·unfold zlS at h
  split at h
  ·cases h
  ·exact s.e b u h
 ·unfold zlS
  split
  ·rfl
  ·rename_i n
   refine s.c b u h1 ?_
   unfold zmd
   rw [if_neg n]; exact h2
 ·unfold zlS
  rw [if_neg fun z => ?_]
  ·exact h1
  ·obtain ⟨⟨vs, q⟩, _⟩ := o.ownLst z
   have : zmd own Od O G H b = some (.lst vs) := by unfold zmd; rw [if_pos z]; exact q
   have := s.g b _ this
   rw [h1] at this; cases this
   exact h2 vs rfl
theorem zbY {α : Type} {l : List (Option α)} {i : Nat} {x d : α} (h : (l.set i (some x))[i]? = some (some d)) : d = x /\ i < l.length := by
 have hl : i < l.length := by have := (xaj.mp h).1; simpa using this
 rw [xa0 hl] at h
 cases h
 exact ⟨rfl, hl⟩
theorem Ok.set {i : Nat} {d : D} {v : V} (o : Ok K mg H0 own Od O G H) (hi : i ∉ own) (h : Rep K mg G d v) : Ok K mg H0 own (Od.set i (some d)) (O.set i (some v)) G H := by
 have ne : ∀ {j : Nat}, j ∈ own -> j ≠ i := fun hj z => hi (z ▸ hj)
 refine ⟨o.ext, by simp [o.len], fun j e hj q => ?_, fun j e hj q => ?_, fun j k a d1 d2 h1 h2 h3 h4 h5 h6 => ?_⟩
 ·by_cases hji : j = i
  ·subst hji
   obtain ⟨rfl, hl⟩ := zbY q
   exact ⟨v, by rw [xa0 (by rw [<- o.len]; exact hl)], h⟩
  ·rw [xal (xax hji)] at q ⊢
   exact o.val j e hj q
 ·rw [xal (xax (ne hj))] at q ⊢
  exact o.mine j e hj q
 ·rw [xal (xax (ne h1))] at h3 h5
  rw [xal (xax (ne h2))] at h4 h6
  exact o.dj j k a d1 d2 h1 h2 h3 h4 h5 h6
theorem Ok.setAll : ∀ {ks : List Nat} {us : List D} {ws : List V} {Od : DSt} {O : St}, Ok K mg H0 own Od O G H -> (∀ k ∈ ks, k ∉ own) -> Reps K mg G us ws -> Ok K mg H0 own (DL.setAll Od ks us) (DL.setAll O ks ws) G H
 | [], _, _, _, _, o, _, _ => by unfold DL.setAll; exact o
 | _ :: _, [], _, _, _, o, _, h => by cases h; unfold DL.setAll; exact o
 | k :: ks, _ :: _, _, _, _, o, hk, ⟨v, r, h1, h2, h3⟩ => by
  subst h1; unfold DL.setAll
  exact Ok.setAll (o.set (hk k xan) h2) (fun j hj => hk j (xae _ hj)) h3
theorem Ok.new {i : Nat} {ds : List D} {vs : List V} {a : Addr} {own' : List Nat} (o : Ok K mg H0 own Od O G H) (s : zbk G H G' H') (n : H a = none) (e : H' a = some (.lst vs)) (g : G' a = none) (n0 : H0 a = none) (r : Reps K mg G' ds vs)
  (hown : ∀ j, j ∈ own' ↔ j = i \/ j ∈ own) : Ok K mg H0 own' (Od.set i (some (.lst ds))) (O.set i (some (.ref a))) G' H' := by
 have o' := o.step s
 have away : ∀ {j : Nat} {d : D}, j ∈ own -> j ≠ i -> Od[j]? = some (some d) -> O[j]? = some (some (.ref a)) -> False := fun {j d} hj _ hd hs => by
  obtain ⟨b, _, _, q1, _, q3, _⟩ := o.mine j d hj hd
  rw [q1] at hs; cases hs
  rw [n] at q3; cases q3
 refine ⟨o'.ext, by simp [o.len], fun j d hj q => ?_, fun j d hj q => ?_, fun j k b d1 d2 h1 h2 h3 h4 h5 h6 => ?_⟩
 ·have hji : j ≠ i := fun z => hj ((hown j).mpr (.inl z))
  rw [xal (xax hji)] at q ⊢
  exact o'.val j d (fun z => hj ((hown j).mpr (.inr z))) q
 ·by_cases hji : j = i
  ·subst hji
   obtain ⟨rfl, hl⟩ := zbY q
   exact ⟨a, ds, vs, by rw [xa0 (by rw [<- o.len]; exact hl)], rfl, e, g, n0, r⟩
  ·rw [xal (xax hji)] at q ⊢
   exact o'.mine j d (((hown j).mp hj).resolve_left hji) q
 ·by_cases hji : j = i
  ·by_cases hki : k = i
   ·rw [hji, hki]
   ·subst hji
    obtain ⟨rfl, hl⟩ := zbY h3
    rw [xa0 (by rw [<- o.len]; exact hl)] at h5
    cases h5
    rw [xal (xax hki)] at h4 h6
    exact (away (((hown k).mp h2).resolve_left hki) hki h4 h6).elim
  ·by_cases hki : k = i
   ·subst hki
    obtain ⟨rfl, hl⟩ := zbY h4
    rw [xa0 (by rw [<- o.len]; exact hl)] at h6
    cases h6
    rw [xal (xax hji)] at h3 h5
    exact (away (((hown j).mp h1).resolve_left hji) hji h3 h5).elim
   ·rw [xal (xax hji)] at h3 h5
    rw [xal (xax hki)] at h4 h6
    exact o.dj j k b d1 d2 (((hown j).mp h1).resolve_left hji) (((hown k).mp h2).resolve_left hki) h3 h4 h5 h6
theorem Ok.write {i : Nat} {d : D} {ds : List D} {vs : List V} {a : Addr} (o : Ok K mg H0 own Od O G H) (hi : i ∈ own) (hd : Od[i]? = some (some d)) (ha : O[i]? = some (some (.ref a))) (r : Reps K mg G ds vs) :
  Ok K mg H0 own (Od.set i (some (.lst ds))) O G (upd H a (.lst vs)) := by
 obtain ⟨b, ds0, vs0, q1, q2, q3, q4, q5, q6⟩ := o.mine i d hi hd
 rw [ha] at q1; cases q1
 have hl : i < Od.length := (xaj.mp hd).1
 refine ⟨fun b u h => ?_, by simp [o.len], fun j e hj q => ?_, fun j e hj q => ?_, fun j k b d1 d2 h1 h2 h3 h4 h5 h6 => ?_⟩
 ·rw [zam (zai h q4)]; exact o.ext b u h
 ·have hji : j ≠ i := fun z => hj (z ▸ hi)
  rw [xal (xax hji)] at q
  exact o.val j e hj q
 ·by_cases hji : j = i
  ·subst hji
   obtain ⟨rfl, _⟩ := zbY q
   exact ⟨a, ds, vs, ha, rfl, zap, q4, q5, r⟩
  ·rw [xal (xax hji)] at q
   obtain ⟨c, es, ws, p1, p2, p3, p4⟩ := o.mine j e hj q
   have hc : c ≠ a := fun z => by subst z; exact hji (o.dj j i c e d hj hi q hd p1 ha)
   exact ⟨c, es, ws, p1, p2, by rw [zam hc]; exact p3, p4⟩
 ·have back : ∀ {j : Nat} {e : D}, (Od.set i (some (.lst ds)))[j]? = some (some e) -> ∃ e', Od[j]? = some (some e') := fun {j e} q => by
   by_cases hji : j = i
   ·exact ⟨d, hji ▸ hd⟩
   ·rw [xal (xax hji)] at q; exact ⟨e, q⟩
  obtain ⟨e1, h3⟩ := back h3
  obtain ⟨e2, h4⟩ := back h4
  exact o.dj j k b e1 e2 h1 h2 h3 h4 h5 h6
theorem zbk.write {a : Addr} {o u : HO} (s0 : zbk G0 H0 G H) (n : H0 a = none) (g : G a = none) : zbk G0 H0 G (upd H a u) :=
 ⟨s0.g, fun b v h => by rw [zam (zai h n)]; exact s0.h b v h, fun b v h => by rw [zam (zai h g)]; exact s0.e b v h, s0.c⟩
theorem Ok.release {i : Nat} {own' : List Nat} (o : Ok K mg H0 own Od O G H) (s0 : zbk G0 H0 G H) (hi : i ∈ own) (hown : ∀ j, j ∈ own' ↔ j ≠ i /\ j ∈ own) : ∃ G', Ok K mg H0 own' Od O G' H /\ zbk G0 H0 G' H /\ zay G G' := by
 by_cases hb : ∃ d, Od[i]? = some (some d)
 ·obtain ⟨d, hd⟩ := hb
  obtain ⟨a, ds, vs, q1, rfl, q3, q4, q5, q6⟩ := o.mine i d hi hd
  have sg : zay G (upd G a (.lst vs)) := zci q4
  have eh : zay (upd G a (.lst vs)) H := fun b u h => by
   by_cases hb : b = a
   ·subst hb; rw [zap] at h; cases h; exact q3
   ·rw [zam hb] at h; exact o.ext b u h
  refine ⟨upd G a (.lst vs), ⟨eh, o.len, fun j e hj q => ?_, fun j e hj q => ?_, fun j k b d1 d2 h1 h2 h3 h4 h5 h6 => ?_⟩, ⟨s0.g.trans sg, s0.h, eh, fun b u h1 h2 => ?_⟩, sg⟩
  ·by_cases hji : j = i
   ·subst hji
    rw [hd] at q; cases q
    exact ⟨_, q1, a, vs, rfl, SqL.of zap, q6.mono sg⟩
   ·obtain ⟨v, h1, h2⟩ := o.val j e (fun z => hj ((hown j).mpr ⟨hji, z⟩)) q
    exact ⟨v, h1, h2.mono sg⟩
  ·obtain ⟨hji, hj'⟩ := (hown j).mp hj
   obtain ⟨c, es, ws, p1, p2, p3, p4, p5, p6⟩ := o.mine j e hj' q
   have hc : c ≠ a := fun z => by subst z; exact hji (o.dj j i c e _ hj' hi q hd p1 q1)
   exact ⟨c, es, ws, p1, p2, p3, by rw [zam hc]; exact p4, p5, p6.mono sg⟩
  ·exact o.dj j k b d1 d2 ((hown j).mp h1).2 ((hown k).mp h2).2 h3 h4 h5 h6
  ·rw [zam (zai h1 q5)]; exact s0.c b u h1 h2
 ·refine ⟨G, ⟨o.ext, o.len, fun j e hj q => ?_, fun j e hj q => o.mine j e ((hown j).mp hj).2 q, fun j k b d1 d2 h1 h2 => o.dj j k b d1 d2 ((hown j).mp h1).2 ((hown k).mp h2).2⟩, s0, zay.refl _⟩
  have hji : j ≠ i := fun z => hb ⟨e, z ▸ q⟩
  exact o.val j e (fun z => hj ((hown j).mpr ⟨hji, z⟩)) q
end
inductive Out where
 | nx (O : DSt) | rt (d : D) | bk (O : DSt) | ct (O : DSt) | rf (ds : List D)
section
variable (K : xFg) (mg : Str -> Option Value) (E : XK)
def ze4 (G0 H0 : Hp) (own' ol : List Nat) (Dn : zmc) (G : Hp) : Out -> Prop
 | .nx Od' => ∀ O' G' H', Ok K mg H0 own' Od' O' G' H' -> zbk G0 H0 G' H' -> zay G G' -> Dn.nx O' H'
 | .bk Od' => ∀ O' G' H', Ok K mg H0 ol Od' O' G' H' -> zbk G0 H0 G' H' -> zay G G' -> Dn.bk O' H'
 | .ct Od' => ∀ O' G' H', Ok K mg H0 ol Od' O' G' H' -> zbk G0 H0 G' H' -> zay G G' -> Dn.ct O' H'
 | .rt d => ∀ v G' H', zbk G0 H0 G' H' -> Rep K mg G' d v -> Dn.rt v H'
 | .rf ds => ∀ a vs G' H', zbk G0 H0 G' H' -> H0 a = none -> H' a = some (.lst vs) -> G' a = none -> Reps K mg G' ds vs -> Dn.rt (.ref a) H'
def tS (G0 H0 : Hp) (own own' ol : List Nat) (f : DSt -> R Out) : TS := fun Dn O H => ∃ G Od, Ok K mg H0 own Od O G H /\ zbk G0 H0 G H /\ RW (f Od) (ze4 K mg G0 H0 own' ol Dn G) (zaI K mg E G0 H0)
end
theorem ze4.shift {K : xFg} {mg : Str -> Option Value} {G0 H0 G G' : Hp} {own' ol : List Nat} {Dn : zmc} (s : zay G G') {o : Out} (h : ze4 K mg G0 H0 own' ol Dn G o) : ze4 K mg G0 H0 own' ol Dn G' o := by
 cases o with
 | nx _ => exact fun a b c d e f => h a b c d e (s.trans f)
 | bk _ => exact fun a b c d e f => h a b c d e (s.trans f)
 | ct _ => exact fun a b c d e f => h a b c d e (s.trans f)
 | rt _ => exact h
 | rf _ => exact h
def DS (X : Cx) (E : XK) (own own' ol : List Nat) (st : Stmt) (f : DSt -> R Out) : Prop := ∀ G0, PS X st (tS X.K X.mg E G0 X.H₀ own own' ol f)
def DSs (X : Cx) (E : XK) (own own' ol : List Nat) (st : List Stmt) (f : DSt -> R Out) : Prop := ∀ G0, PSs X st (tS X.K X.mg E G0 X.H₀ own own' ol f)
def zaC (f g : DSt -> R Out) : DSt -> R Out := fun O => (f O).bind fun o => match o with
 | .nx O' => g O'
 | o => .ok o
def zbq : DSt -> R Out := fun O => .ok (.nx O)
section
variable {X : Cx} {E : XK} {own own1 own2 own' ol : List Nat} {st : Stmt} {zce : List Stmt} {f g : DSt -> R Out} {pos : Pos}
theorem zaO : DSs X E own own ol [] zbq := fun G0 => PSs.mono' zrv fun Dn O H ⟨G, Od, ok, s0, q⟩ => (show ze4 X.K X.mg G0 X.H₀ own ol Dn G (.nx Od) from q) O G H ok s0 (zay.refl _)
theorem zad (h1 : DS X E own own1 ol st f) (h2 : DSs X E own1 own2 ol zce g) : DSs X E own own2 ol (st :: zce) (zaC f g) := fun G0 => PSs.mono' (zoR (h1 G0) (h2 G0)) fun Dn O H ⟨G, Od, ok, s0, q⟩ => by
 refine ⟨G, Od, ok, s0, q.of_bind.mono (fun o _ z => ?_) fun _ z => z⟩
 cases o with
 | nx O1 =>
  intro O' G' H' ok' s' e'
  exact ⟨G', O1, ok', s', (show RW (g O1) _ _ from z).mono (fun o _ z => z.shift e') fun _ z => z⟩
 | rt d => exact z
 | rf d => exact z
 | bk d => exact z
 | ct d => exact z
theorem zaj (h1 : DS X E own own1 ol st f) : DSs X E own own1 ol [st] f := fun G0 => zrw (h1 G0)
theorem ze9 (i : Nat) (hi : own.contains i = true) (ho : own' = own.filter fun j => j != i) (h : DSs X E own' own2 ol zce g) : DSs X E own own2 ol zce g := fun G0 => PSs.mono' (h G0) fun Dn O H ⟨G, Od, ok, s0, q⟩ => by
 obtain ⟨G', ok', s', e'⟩ := ok.release (i := i) (own' := own') s0 (by simpa using hi) fun j => by subst ho; simp [and_comm]
 exact ⟨G', Od, ok', s', q.mono (fun o _ z => z.shift e') fun _ z => z⟩
theorem ziL : DS X E own own' ol st zs7 := fun G0 => PS.mono' zoS fun Dn O H ⟨G, Od, ok, s0, q⟩ => q
def zbZ (fe : DSt -> R D) : DSt -> R Out := fun O => (fe O).bind fun d => .ok (.rt d)
theorem zfm {e : Expr} {fe : DSt -> R D} (h : DE X E e fe) : DS X E own own' ol (.Return (some e) pos) (zbZ fe) := fun G0 => PS.mono' (zqa h) fun Dn O H ⟨G, Od, ok, s0, q⟩ => by
 have s1 := ok.pubStep s0
 exact ⟨_, Od, ok.pub.1, q.of_bind.mono (fun d _ z v G' H' s r => (show ze4 X.K X.mg G0 X.H₀ own' ol Dn G (.rt d) from z) v G' H' (s1.trans s) r) fun _ z => z.step s1⟩
def sIf (c : DSt -> R Bool) (f g : DSt -> R Out) : DSt -> R Out := fun O => (c O).bind fun k => bif k then f O else g O
theorem zcj {c : Expr} {a b : List Stmt} {fc : DSt -> R Bool} (hc : DT X E c fc) (ha : DSs X E own own' ol a f) (hb : DSs X E own own' ol b g) : DS X E own own' ol (.If c a b pos) (sIf fc f g) := fun G0 =>
 PS.mono' (zvT hc (ha G0) (hb G0)) fun Dn O H ⟨G, Od, ok, s0, q⟩ => by
 have s1 := ok.pubStep s0
 refine ⟨_, Od, ok.pub.1, q.of_bind.mono (fun k _ z G' H' s => ?_) fun _ z => z.step s1⟩
 have ok' := ok.drop s.h
 have s' : zbk G0 X.H₀ G H' := s0.trans (.heap ok.ext s.h)
 cases k with
 | true => exact iteT ⟨G, Od, ok', s', z⟩
 | false => exact iteF ⟨G, Od, ok', s', z⟩
def zjK (fe : DSt -> R D) : DSt -> R Out := fun O => (fe O).bind fun _ => .ok (.nx O)
theorem zsa {e : Expr} {fe : DSt -> R D} (h : DE X E e fe) (hs : swapsWith e none pos.line X.env = pure false := by rfl) : DS X E own own ol (.Expr e pos) (zjK fe) := fun G0 => PS.mono' (zmi h hs) fun Dn O H ⟨G, Od, ok, s0, q⟩ => by
 have s1 := ok.pubStep s0
 refine ⟨_, Od, ok.pub.1, q.of_bind.mono (fun d _ z v G' H' s r => ?_) fun _ z => z.step s1⟩
 exact (show ze4 X.K X.mg G0 X.H₀ own ol Dn G (.nx Od) from z) O G H' (ok.drop s.h) (s0.trans (.heap ok.ext s.h)) (zay.refl _)
def zjL (own : List Nat) (i : Nat) (fe : DSt -> R D) : DSt -> R Out := fun O => (fe (mask own O)).bind fun d => .ok (.nx (O.set i (some d)))
def zax (i : Nat) (fe : DSt -> R D) : DSt -> R Out := fun O => (fe O).bind fun d => .ok (.nx (O.set i (some d)))
def zna (i : Nat) (fe : DSt -> R D) : DSt -> R Out := fun O => (fe O).bind fun d => bif imm d then .ok (.nx (O.set i (some d))) else .bad
theorem zks {own : List Nat} {i : Nat} (h : own.contains i = false) : i ∉ own := by simpa using h
theorem zfJ (O : DSt) : mask [] O = O := by
 have : ∀ (O : DSt) (k : Nat), zfE [] k O = O := fun O => by
  induction O with
  | nil => intro k; rfl
  | cons d ds ih => intro k; unfold zfE; rw [ih]; rfl
 exact this O 0
theorem zwB {te : TE} {fe : DSt -> R D} {i : Nat} {G0 : Hp} (h : ∀ O H Q, tE X.K X.mg E fe O H Q -> te O H Q) (ho : own.contains i = false) {Dn : zmc} {O : St} {H : Hp} (q : tS X.K X.mg E G0 X.H₀ own own ol (zjL own i fe) Dn O H) : zry te (zie i) Dn O H := by
 obtain ⟨G, Od, ok, s0, q⟩ := q
 refine h O H _ ⟨G, mask own Od, ok.masked, q.of_bind.mono (fun d _ z v G' H' s r => ?_) fun _ z => z.step s0⟩
 exact (show ze4 X.K X.mg G0 X.H₀ own ol Dn G (.nx (Od.set i (some d))) from z) _ G' H' ((ok.step s).set (zks ho) r) (s0.trans s) s.g
theorem asgP {te : TE} {fe : DSt -> R D} {i : Nat} {G0 : Hp} (h : ∀ O H Q, tE X.K X.mg E fe O H Q -> te O H Q) (ho : own.contains i = false) {Dn : zmc} {O : St} {H : Hp} (q : tS X.K X.mg E G0 X.H₀ own own ol (zna i fe) Dn O H) : zry te (zie i) Dn O H := by
 obtain ⟨G, Od, ok, s0, q⟩ := q
 have s1 := ok.pubStep s0
 refine h O H _ ⟨_, Od, ok.pub.1, q.of_bind.mono (fun d _ z v G' H' s r => ?_) fun _ z => z.step s1⟩
 cases hd : imm d with
 | false => rw [hd] at z; exact (show False from z).elim
 | true =>
  rw [hd] at z
  obtain ⟨st, sT⟩ := ok.hide s
  exact (show ze4 X.K X.mg G0 X.H₀ own ol Dn G (.nx (Od.set i (some d))) from z) _ _ H' ((ok.step st).set (zks ho) (r.imm sT hd)) (s0.trans st) st.g
def znb (own : List Nat) (i : Nat) (fe : DSt -> R (List D)) : DSt -> R Out := fun O => (fe (mask own O)).bind fun ds => .ok (.nx (O.set i (some (.lst ds))))
def zfa (own : List Nat) (i : Nat) : List Nat := if own.contains i then own else i :: own
theorem zjM {own : List Nat} {i j : Nat} : j ∈ zfa own i ↔ j = i \/ j ∈ own := by
 unfold zfa
 split
 ·rename_i h
  have hi : i ∈ own := by simpa using h
  exact ⟨.inr, fun h => h.elim (fun e => e ▸ hi) id⟩
 ·simp
theorem asgN {te : TE} {fe : DSt -> R (List D)} {i : Nat} {G0 : Hp} (h : ∀ O H Q, tFr X.K X.mg E fe O H Q -> te O H Q) {Dn : zmc} {O : St} {H : Hp} (q : tS X.K X.mg E G0 X.H₀ own (zfa own i) ol (znb own i fe) Dn O H) : zry te (zie i) Dn O H := by
 obtain ⟨G, Od, ok, s0, q⟩ := q
 refine h O H _ ⟨G, mask own Od, ok.masked, q.of_bind.mono (fun ds _ z a vs G' H' s n e g r => ?_) fun _ z => z.step s0⟩
 exact (show ze4 X.K X.mg G0 X.H₀ (zfa own i) ol Dn G (.nx (Od.set i (some (.lst ds)))) from z) _ G' H' (ok.new s n e g (s0.h.free n) r fun j => zjM) (s0.trans s) s.g
variable {i : Nat} {x : Str} {e : Expr} {pos' : Pos} {fe : DSt -> R D} {fl : DSt -> R (List D)}
theorem zuh (i : Nat) (hN : X.N.Nodup) (he : DE X E e fe) (ho : own.contains i = false := by rfl) (hi : X.N[i]? = some x := by rfl) (hx : Loc X.env.scope x := by first | exact Or.inl rfl | exact Or.inr rfl) (hs : swapsWith e (some (.Name x pos')) pos.line X.env = pure false := by rfl)
  (hf : X.fn x = true \/ X.env.scope.names.lookup x = some .local := by first | exact .inl rfl | exact .inr rfl | assumption) : DS X E own own ol (.Assign [.Name x pos'] e pos) (zjL own i fe) := fun G0 =>
 PS.mono' (zkd hN hi hx he hs hf) fun Dn O H q => zwB (fun _ _ _ z => z) ho q
theorem zjN (i : Nat) (hN : X.N.Nodup) (he : DE X E e fe) (hi : X.N[i]? = some x := by rfl) (hx : Loc X.env.scope x := by first | exact Or.inl rfl | exact Or.inr rfl) (hs : swapsWith e (some (.Name x pos')) pos.line X.env = pure false := by rfl)
  (hf : X.fn x = true \/ X.env.scope.names.lookup x = some .local := by first | exact .inl rfl | exact .inr rfl | assumption) : DS X E [] [] ol (.Assign [.Name x pos'] e pos) (zax i fe) := fun G0 => by
 have : zax i fe = zjL [] i fe := by funext O; unfold zax zjL; rw [zfJ]
 rw [this]
 exact PS.mono' (zkd hN hi hx he hs hf) fun Dn O H q => zwB (fun _ _ _ z => z) rfl q
theorem zsb (i : Nat) (hN : X.N.Nodup) (he : DE X E e fe) (ho : own.contains i = false := by rfl) (hi : X.N[i]? = some x := by rfl) (hx : Loc X.env.scope x := by first | exact Or.inl rfl | exact Or.inr rfl) (hs : swapsWith e (some (.Name x pos')) pos.line X.env = pure false := by rfl)
  (hf : X.fn x = true \/ X.env.scope.names.lookup x = some .local := by first | exact .inl rfl | exact .inr rfl | assumption) : DS X E own own ol (.Assign [.Name x pos'] e pos) (zna i fe) := fun G0 =>
 PS.mono' (zkd hN hi hx he hs hf) fun Dn O H q => asgP (fun _ _ _ z => z) ho q
theorem zui (i : Nat) (hN : X.N.Nodup) (he : DF X E e fl) (hw : own' = zfa own i := by rfl) (hi : X.N[i]? = some x := by rfl) (hx : Loc X.env.scope x := by first | exact Or.inl rfl | exact Or.inr rfl) (hs : swapsWith e (some (.Name x pos')) pos.line X.env = pure false := by rfl)
  (hf : X.fn x = true \/ X.env.scope.names.lookup x = some .local := by first | exact .inl rfl | exact .inr rfl | assumption) : DS X E own own' ol (.Assign [.Name x pos'] e pos) (znb own i fl) := fun G0 => by
 subst hw; exact PS.mono' (zkd hN hi hx he hs hf) fun Dn O H q => asgN (fun _ _ _ z => z) q
theorem zuj {te : TE} (h : ∀ O H Q, tFr X.K X.mg E fl O H Q -> te O H Q) : ∀ O H Q, tE X.K X.mg E (fun O => (fl O).bind fun ds => .ok (.lst ds)) O H Q -> te O H Q := fun O H Q ⟨G, Od, ok, q⟩ => by
 refine h O H Q ⟨G, Od, ok, q.of_bind.mono (fun ds _ q => ?_) fun _ z => z⟩
 intro a vs G' H' s n e g r
 have q' : zao X.K X.mg Q G H (.lst ds) := q
 have sg : zay G' (upd G' a (.lst vs)) := zci g
 refine q' (.ref a) (upd G' a (.lst vs)) H' ⟨s.g.trans sg, s.h, fun b u p => ?_, fun b u p1 p2 => ?_⟩ ⟨a, vs, rfl, SqL.of zap, r.mono sg⟩
 ·by_cases hb : b = a
  ·subst hb; rw [zap] at p; cases p; exact e
  ·rw [zam hb] at p; exact s.e b u p
 ·have hb : b ≠ a := zai p1 n
  rw [zam hb]; exact s.c b u p1 p2
def zdi (fl : DSt -> R (List D)) : DSt -> R D := fun O => (fl O).bind fun ds => .ok (.lst ds)
theorem DF.val (h : DF X E e fl) : DE X E e (zdi fl) := h.de
variable {tg elt iter : Expr} {ifs : List Expr} {scope : Scope} {NY : List Str} {k : Nat} {ks : List Nat} {fi : DSt -> R (List D)} {gp : D -> R (List D)} {fc : DSt -> R Bool} {lpos : Pos}
theorem zqs (i : Nat) (C : X.calm = true) (hN : X.N.Nodup) (hi' : X.N[i]? = some x) (hy : X.env.kindOf x = some .local) (lc : LC X k scope NY) (hi : DI X E tg iter fi)
  (hb : ∀ (s₀ : Shared) (H₀ : Hp) (C : Addr) (ex : List Addr), NY.Nodup -> DG (zdG X scope NY s₀ H₀ C ex) tg ks gp /\ DTs (zdG X scope NY s₀ H₀ C ex) E0 ifs fc /\ DE (zdG X scope NY s₀ H₀ C ex) E0 elt fe)
  (hsw : swapsWith (.ListComp elt [⟨tg, iter, ifs, 0⟩] scope lpos) (some (.Name x pos')) pos.line X.env = pure true)
  (hs : ∀ x, foldedSetIterable iter X.env x = pure x) : PS X (.Assign [.Name x pos'] (.ListComp elt [⟨tg, iter, ifs, 0⟩] scope lpos) pos) (zry (tLC k (tI X.K X.mg E fi) (tG X.K X.mg ks gp) (tT X.K X.mg E0 fc) (tE X.K X.mg E0 fe)) (zie i)) :=
 zwf (g := tG X.K X.mg ks gp) (tc := tT X.K X.mg E0 fc) (te := tE X.K X.mg E0 fe) C hN hi' hy lc hi (fun s0 H0 Ca ex nd => hb s0 H0 Ca ex nd) hsw hs
theorem zfK (i : Nat) (C : X.calm = true) (hN : X.N.Nodup) (lc : LC X k scope NY) (hk : ks.all (fun i => decide (i < k)) = true) (hi : DI X E tg iter fi)
  (hb : ∀ (s₀ : Shared) (H₀ : Hp) (C : Addr) (ex : List Addr), NY.Nodup -> DG (zdG X scope NY s₀ H₀ C ex) tg ks gp /\ DTs (zdG X scope NY s₀ H₀ C ex) E0 ifs fc /\ DE (zdG X scope NY s₀ H₀ C ex) E0 elt fe)
  (ho : own.contains i = false := by rfl) (hi' : X.N[i]? = some x := by rfl) (hy : X.env.kindOf x = some .local := by rfl)
  (hsw : swapsWith (.ListComp elt [⟨tg, iter, ifs, 0⟩] scope lpos) (some (.Name x pos')) pos.line X.env = pure true := by rfl)
  (hs : ∀ x, foldedSetIterable iter X.env x = pure x := by intro _; rfl) : DS X E own own ol (.Assign [.Name x pos'] (.ListComp elt [⟨tg, iter, ifs, 0⟩] scope lpos) pos) (zjL own i (zdi (eLC k ks fi gp fc fe))) := fun G0 =>
 PS.mono' (zqs i C hN hi' hy lc hi hb hsw hs) fun Dn O H q => zwB (zuj fun _ _ _ h => zm8 (te := tE X.K X.mg E0 fe) (tc := tT X.K X.mg E0 fc) hk h) ho q
theorem zpt (i : Nat) (C : X.calm = true) (hN : X.N.Nodup) (lc : LC X k scope NY) (hk : ks.all (fun i => decide (i < k)) = true) (hi : DI X E tg iter fi)
  (hb : ∀ (s₀ : Shared) (H₀ : Hp) (C : Addr) (ex : List Addr), NY.Nodup -> DG (zdG X scope NY s₀ H₀ C ex) tg ks gp /\ DTs (zdG X scope NY s₀ H₀ C ex) E0 ifs fc /\ DE (zdG X scope NY s₀ H₀ C ex) E0 elt fe)
  (hw : own' = zfa own i := by rfl) (hi' : X.N[i]? = some x := by rfl) (hy : X.env.kindOf x = some .local := by rfl)
  (hsw : swapsWith (.ListComp elt [⟨tg, iter, ifs, 0⟩] scope lpos) (some (.Name x pos')) pos.line X.env = pure true := by rfl)
  (hs : ∀ x, foldedSetIterable iter X.env x = pure x := by intro _; rfl) : DS X E own own' ol (.Assign [.Name x pos'] (.ListComp elt [⟨tg, iter, ifs, 0⟩] scope lpos) pos) (znb own i (eLC k ks fi gp fc fe)) := fun G0 => by
 subst hw; exact PS.mono' (zqs i C hN hi' hy lc hi hb hsw hs) fun Dn O H q => asgN (fun _ _ _ h => zm8 (te := tE X.K X.mg E0 fe) (tc := tT X.K X.mg E0 fc) hk h) q
def zuk (own : List Nat) (ks : List Nat) (gp : D -> R (List D)) (fe : DSt -> R D) : DSt -> R Out := fun O => (fe (mask own O)).bind fun d => (gp d).noerr.bind fun us => .ok (.nx (setAll O ks us))
theorem zul (he : DE X E e fe) (hg : DG X tg ks gp) (ho : ks.all (fun i => !own.contains i) = true := by rfl) (hs : swapsWithSole [tg] e pos.line X.env = pure false := by rfl) (hw : swappedStores [tg] e X.env = pure none := by rfl)
  (h1 : (assignEach [tg] X.env).map (·.2) = [assign tg X.env] := by rfl) : DS X E own own ol (.Assign [tg] e pos) (zuk own ks gp fe) := fun G0 => PS.mono' (zmk he hg hs hw h1) fun Dn O H ⟨G, Od, ok, s0, q⟩ => by
 refine ⟨G, mask own Od, ok.masked, q.of_bind.mono (fun d _ z v G' H' s r => ?_) fun _ z => z.step s0⟩
 obtain ⟨us, e1, z⟩ := zcE z.of_bind
 refine ⟨G', d, s.e, r, RW.ok_of e1 fun ws rw' => ?_⟩
 refine (show ze4 X.K X.mg G0 X.H₀ own ol Dn G (.nx (setAll Od ks us)) from z) _ G' H' ((ok.step s).setAll (fun k hk => ?_) rw') (s0.trans s) s.g
 simpa using xa1.mp ho k hk
def zwC (own : List Nat) (i j : Nat) (fs : DSt -> R (List D)) : DSt -> R Out := fun O => (fs (mask own O)).bind fun ds => match ds with
 | [a, b] => .ok (.nx ((O.set i (some a)).set j (some b)))
 | _ => .bad
theorem zum (i j : Nat) {x y : Str} {a b : Expr} {fs : DSt -> R (List D)} {px py pt : Pos} {kt k2 pt2} (hc : X.calm = true) (hN : X.N.Nodup) (ha : DA X E [a, b] fs) (hij : i ≠ j := by decide) (ho : (own.contains i || own.contains j) = false := by rfl) (hi : X.N[i]? = some x := by rfl) (hj : X.N[j]? = some y := by rfl)
  (hx : X.env.scope.names.lookup x = some .local := by rfl) (hy : X.env.scope.names.lookup y = some .local := by rfl)
  (hw : swappedStores [.Tuple [.Name x px, .Name y py] kt pt] (.Tuple [a, b] k2 pt2) X.env = pure (some [x, y]) := by rfl)
  (hs : swapsWithSole [.Tuple [.Name x px, .Name y py] kt pt] (.Tuple [a, b] k2 pt2) pos.line X.env = pure false := by rfl) : DS X E own own ol (.Assign [.Tuple [.Name x px, .Name y py] kt pt] (.Tuple [a, b] k2 pt2) pos) (zwC own i j fs) := fun G0 =>
 PS.mono' (ztv hc hN hi hj hij hx hy ha hw hs) fun Dn O H ⟨G, Od, ok, s0, q⟩ => by
 refine ⟨G, mask own Od, ok.masked, q.of_bind.mono (fun ds _ z vs G' H' s r => ?_) fun _ z => z.step s0⟩
 rw [Bool.or_eq_false_iff] at ho
 match ds, z, r with
 | [a, b], z, ⟨v, _, e1, r1, ⟨w, _, e2, r2, r3⟩⟩ =>
  subst e1; subst e2; cases r3
  exact ⟨v, w, rfl, (show ze4 X.K X.mg G0 X.H₀ own ol Dn G (.nx ((Od.set i (some a)).set j (some b))) from z) _ G' H' (((ok.step s).set (zks ho.1) r1).set (zks ho.2) r2) (s0.trans s) s.g⟩
def zd9 (O : DSt) (i : Nat) : R (List D) := match O[i]? with
 | some (some (.lst ds)) => .ok ds
 | _ => .bad
def zqt (own : List Nat) (i : Nat) (fe : DSt -> R D) : DSt -> R Out := fun O => (zd9 O i).bind fun ds => (fe (mask own O)).bind fun d => bif most ds.length then .ok (.nx (O.set i (some (.lst (ds ++ [d]))))) else .bad
def zwD (i : Nat) (fe : DSt -> R D) : DSt -> R Out := fun O => (zd9 O i).bind fun ds => (fe O).bind fun d => bif most ds.length && imm d then .ok (.nx (O.set i (some (.lst (ds ++ [d]))))) else .bad
theorem zhX {O : DSt} {i : Nat} {ds : List D} (h : zd9 O i = .ok ds) : O[i]? = some (some (.lst ds)) := by
 unfold zd9 at h
 split at h
 ·cases h; assumption
 ·cases h
theorem zhY {O : DSt} {i : Nat} {e : D} : zd9 O i ≠ .err e := by
 unfold zd9
 split <;> simp
theorem zqu (i : Nat) {apos cpos : Pos} {np : Pos} (he : DE X E e fe) (ho : own.contains i = true := by rfl) (hN : X.N[i]? = some x := by rfl) (hv : Vis X.env.scope x := by first | exact Or.inl rfl | exact Or.inr (Or.inl rfl) | exact Or.inr (Or.inr rfl)) (hd : (x == ("__debug__" : Str)) = false := by decide)
  (hcd : (x == ("__classdict__" : Str)) = false := by decide)
  (hbase : attributeBase (.Name x np) "append" X.env (eval (.Name x np) X.env) = eval (.Name x np) X.env := by rfl)
  (hfew : ((backTo cpos (starEach [e] X.env)).all (fun x => !x.1) && (backToKw cpos (keywordEach [] X.env)).all (fun x => x.1.isSome) && decide ([e].length + ([] : List Keyword).length + (if ([] : List Keyword).isEmpty then 0 else 1) < 30)) = true := by rfl)
  (hline : (apos.endLine == cpos.line) = true := by rfl) (hs : starEach [e] X.env = (false, eval e X.env) :: starEach [] X.env := by rfl) (hplain : (backTo cpos (starEach [] X.env)).any (·.1) = false := by rfl)
  (hsw : swapsWith (.Call (.Attribute (.Name x np) "append" apos) [e] [] cpos) none pos.line X.env = pure false := by rfl) :
  DS X E own own ol (.Expr (.Call (.Attribute (.Name x np) "append" apos) [e] [] cpos) pos) (zqt own i fe) := fun G0 =>
 PS.mono' (zmi (zv8 PySem.F.plainAttrs_list PySem.F.slot_list_append PySem.F.type_list_append zmx (pv i hN hv hd hcd) (zaB he zbF hs) hbase hfew hline hs hplain) hsw) fun Dn O H ⟨G, Od, ok, s0, q⟩ => by
 have q1 := q.of_bind
 cases hL : zd9 Od i with
 | bad => rw [hL] at q1; exact q1.elim
 | err e => exact absurd hL zhY
 | ok ds =>
  rw [hL] at q1
  have q2 : RW ((fe (mask own Od)).bind fun d => bif most ds.length then R.ok (.nx (Od.set i (some (.lst (ds ++ [d]))))) else .bad) (ze4 X.K X.mg G0 X.H₀ own ol Dn G) (zaI X.K X.mg E G0 X.H₀) := q1
  have hd := zhX hL
  have hi : i ∈ own := by simpa using ho
  obtain ⟨a, ds', vs, p1, p2, p3, p4, p5, p6⟩ := ok.mine i _ hi hd
  cases p2
  refine ⟨_, p1, .inl ⟨rfl, _, SqL.of p3⟩, ?_⟩
  refine ⟨G, mask own Od, ok.masked, (show RW ((zaa fe zak) (mask own Od)) _ _ from ?_)⟩
  unfold zaa
  have q3 := q2.of_bind
  cases hf : fe (mask own Od) with
  | bad => rw [hf] at q3; exact q3.elim
  | err e => rw [hf] at q3; exact (show zaI X.K X.mg E G0 X.H₀ e from q3).step s0
  | ok d =>
   rw [hf] at q3
   rintro ws G' H' s ⟨v, _, e1, r1, r2⟩
   subst e1
   cases r2
   cases hm : most ds.length with
   | false => rw [hm] at q3; exact (show False from q3).elim
   | true =>
    rw [hm] at q3
    have hlt : ds.length < sizeLine := of_decide_eq_true hm
    have ok' := ok.step s
    refine ⟨a, vs, v, rfl, rfl, s.h _ _ p3, by rw [<- p6.length]; exact hlt, ?_⟩
    exact (show ze4 X.K X.mg G0 X.H₀ own ol Dn G (.nx (Od.set i (some (.lst (ds ++ [d]))))) from q3) O G' _ (ok'.write hi hd p1 ((p6.mono s.g).append (Reps.cons r1 Reps.nil))) ((s0.trans s).write (o := .lst vs) p5 (s.c _ _ p3 p4)) s.g
end
def zgb (ks : List Nat) (gp : D -> R (List D)) (fb : DSt -> R Out) : List D -> DSt -> R Out
 | [], O => .ok (.nx O)
 | d :: ds, O => (gp d).noerr.bind fun us => (fb (setAll O ks us)).bind fun o => match o with
  | .nx O' => zgb ks gp fb ds O'
  | .ct O' => zgb ks gp fb ds O'
  | .bk O' => .ok (.nx O')
  | .rt d => .ok (.rt d)
  | .rf d => .ok (.rf d)
def zjA (own ks : List Nat) (gp : D -> R (List D)) (fi : DSt -> R (List D)) (fb : DSt -> R Out) : DSt -> R Out := fun O => (fi (mask own O)).bind fun ds => zgb ks gp fb ds O
structure XL (X : Cx) : Prop where
 own : PassesOwn (model X.prog X.w) X.A X.env X.xe
section
variable {X : Cx} {E : XK} {own ol ks : List Nat} {tg iter : Expr} {body : List Stmt} {gp : D -> R (List D)} {fi : DSt -> R (List D)} {fb : DSt -> R Out} {pos : Pos}
theorem zcF (L : XL X) (hc : X.calm = true) (hi : DI X E tg iter fi) (hg : DG X tg ks gp) (hb : DSs X E own own own body fb) (ho : ks.all (fun i => !own.contains i) = true := by rfl) (hs : ∀ x, foldedSetIterable iter X.env x = pure x := by intro _; rfl) :
  DS X E own own ol (.For tg iter body [] pos) (zjA own ks gp fi fb) := fun G0 => PS.mono' (ztz L.own hc hi hg (hb G0) hs) fun Dn O H ⟨G, Od, ok, s0, q⟩ => by
 refine ⟨G, mask own Od, ok.masked, q.of_bind.mono (fun ds _ z J G1 H1 s1 it => ?_) fun _ z => z.step s0⟩
 have hko : ∀ k ∈ ks, k ∉ own := fun k hk => by simpa using xa1.mp ho k hk
 refine ⟨fun i m O' H' => m = ds.length - i /\ i <= ds.length /\ ∃ G' Od', Ok X.K X.mg X.H₀ own Od' O' G' H' /\ zay G1 G' /\ zbk G0 X.H₀ G' H' /\ RW (zgb ks gp fb (ds.drop i) Od') (ze4 X.K X.mg G0 X.H₀ own ol Dn G1) (zaI X.K X.mg E G0 X.H₀),
  ⟨ds.length, by simp, xch _, G1, Od, ok.step s1, zay.refl _, s0.trans s1, z.mono (fun _ _ z => z.shift s1.g) fun _ z => z⟩, ?_⟩
 rintro i m O' H' ⟨rfl, hi, G', Od', ok', e', s', w⟩
 by_cases hlt : i < ds.length
 ·right
  obtain ⟨d, hd⟩ : ∃ d, ds[i]? = some d := ⟨ds[i], by simp [hlt]⟩
  obtain ⟨g1, g2⟩ := it.turn H' i d (e'.trans ok'.ext) hd
  have hdrop : ds.drop i = d :: ds.drop (i + 1) := by
   rw [List.drop_eq_getElem_cons hlt]
   congr 1
   exact Option.some.inj ((xao hlt).symm.trans hd)
  rw [hdrop] at w
  refine ⟨g1, fun O2 H2 => i + 1 <= ds.length /\ ∃ G' Od', Ok X.K X.mg X.H₀ own Od' O2 G' H2 /\ zay G1 G' /\ zbk G0 X.H₀ G' H2 /\ RW (zgb ks gp fb (ds.drop (i + 1)) Od') (ze4 X.K X.mg G0 X.H₀ own ol Dn G1) (zaI X.K X.mg E G0 X.H₀),
   fun O2 H2 ⟨h1, h2⟩ => ⟨ds.length - (i + 1), by omega, rfl, h1, h2⟩, fun x H2 hy => ?_⟩
  obtain ⟨G2, s2, r2⟩ := g2 x H2 hy G' e' ok'.ext
  unfold zgb at w
  obtain ⟨us, e1, w⟩ := zcE w.of_bind
  refine ⟨G2, d, s2.e, r2, RW.ok_of e1 fun ws rws => ?_⟩
  have ok2 := (ok'.step s2).setAll hko rws
  refine ⟨G2, _, ok2, s'.trans s2, w.of_bind.mono (fun o _ z => ?_) fun _ z => z⟩
  cases o with
  | nx O3 => exact fun O4 G4 H4 ok4 s4 e4 => ⟨hlt, G4, O3, ok4, (e'.trans s2.g).trans e4, s4, z⟩
  | ct O3 => exact fun O4 G4 H4 ok4 s4 e4 => ⟨hlt, G4, O3, ok4, (e'.trans s2.g).trans e4, s4, z⟩
  | bk O3 => exact fun O4 G4 H4 ok4 s4 e4 => (show ze4 X.K X.mg G0 X.H₀ own ol Dn G1 (.nx O3) from z) O4 G4 H4 ok4 s4 ((e'.trans s2.g).trans e4)
  | rt d => exact z
  | rf d => exact z
 ·left
  have hi2 : i = ds.length := by omega
  subst hi2
  rw [List.drop_length] at w
  refine ⟨it.stop H' (e'.trans ok'.ext), ?_⟩
  unfold zgb at w
  exact (show ze4 X.K X.mg G0 X.H₀ own ol Dn G1 (.nx Od') from w) O' G' H' ok' s' e'
def zaP (c : DSt -> R Bool) (fb : DSt -> R Out) : Nat -> DSt -> R Out
 | 0, _ => .bad
 | n + 1, O => (c O).bind fun k => bif k then (fb O).bind fun o => match o with
   | .nx O' => zaP c fb n O'
   | .ct O' => zaP c fb n O'
   | .bk O' => .ok (.nx O')
   | .rt d => .ok (.rt d)
   | .rf d => .ok (.rf d)
  else .ok (.nx O)
open Classical in
noncomputable def zbp (c : DSt -> R Bool) (fb : DSt -> R Out) : DSt -> R Out := fun O => if h : ∃ n, zaP c fb n O ≠ .bad then zaP c fb (Classical.choose h) O else .bad
theorem zdj {c : DSt -> R Bool} {fb : DSt -> R Out} : ∀ (n : Nat) (O : DSt) (r : R Out), zaP c fb n O = r -> r ≠ .bad -> ∀ k, zaP c fb (n + k) O = r
 | 0, O, r, h, hr, k => absurd h.symm hr
 | n + 1, O, r, h, hr, k => by
  rw [show n + 1 + k = (n + k) + 1 by omega]
  unfold zaP at h ⊢
  cases hc : c O with
  | bad => rw [hc] at h; exact absurd h.symm hr
  | err e => rw [hc] at h; exact h
  | ok b =>
   rw [hc] at h
   cases b with
   | false => exact h
   | true =>
    have h' : (fb O).bind (fun o => match o with
     | .nx O' => zaP c fb n O'
     | .ct O' => zaP c fb n O'
     | .bk O' => .ok (.nx O')
     | .rt d => .ok (.rt d)
     | .rf d => .ok (.rf d)) = r := h
    show (fb O).bind (fun o => match o with
     | .nx O' => zaP c fb (n + k) O'
     | .ct O' => zaP c fb (n + k) O'
     | .bk O' => .ok (.nx O')
     | .rt d => .ok (.rt d)
     | .rf d => .ok (.rf d)) = r
    cases hf : fb O with
    | bad => rw [hf] at h'; exact absurd h'.symm hr
    | err e => rw [hf] at h'; exact h'
    | ok o =>
     rw [hf] at h'
     cases o with
     | nx O' => exact zdj n O' r h' hr k
     | ct O' => exact zdj n O' r h' hr k
     | bk O' => exact h'
     | rt d => exact h'
     | rf d => exact h'
theorem zbG {c : DSt -> R Bool} {fb : DSt -> R Out} {n : Nat} {O : DSt} {r : R Out} (h : zaP c fb n O = r) (hr : r ≠ .bad) : zbp c fb O = r := by
 unfold zbp
 have hx : ∃ n, zaP c fb n O ≠ .bad := ⟨n, by rw [h]; exact hr⟩
 rw [dif_pos hx]
 have h1 := Classical.choose_spec hx
 have a := zdj _ O _ rfl h1 n
 have b := zdj _ O _ h hr (Classical.choose hx)
 rw [Nat.add_comm] at b
 rw [<- a, b]
theorem zgc (c : DSt -> R Bool) (fb : DSt -> R Out) (O : DSt) : zbp c fb O = (c O).bind fun k => bif k then (fb O).bind fun o => match o with
   | .nx O' => zbp c fb O'
   | .ct O' => zbp c fb O'
   | .bk O' => .ok (.nx O')
   | .rt d => .ok (.rt d)
   | .rf d => .ok (.rf d)
  else .ok (.nx O) := by
 cases hc : c O with
 | bad =>
  unfold zbp
  rw [dif_neg]
  ·rfl
  ·rintro ⟨n, h⟩
   cases n with
   | zero => exact h rfl
   | succ n => unfold zaP at h; rw [hc] at h; exact h rfl
 | err e => exact zbG (n := 1) (by unfold zaP; rw [hc]; rfl) (by simp [R.bind])
 | ok b =>
  cases b with
  | false => exact zbG (n := 1) (by unfold zaP; rw [hc]; rfl) (by simp [R.bind])
  | true =>
   show zbp c fb O = (fb O).bind _
   cases hf : fb O with
   | bad =>
    unfold zbp
    rw [dif_neg]
    ·rfl
    ·rintro ⟨n, h⟩
     cases n with
     | zero => exact h rfl
     | succ n => unfold zaP at h; rw [hc] at h; simp only [R.bind, cond_true] at h; rw [hf] at h; exact h rfl
   | err e => exact zbG (n := 1) (by unfold zaP; rw [hc]; show (fb O).bind _ = _; rw [hf]; rfl) (by simp [R.bind])
   | ok o =>
    have go : ∀ O', (∀ n, zaP c fb (n + 1) O = zaP c fb n O') -> zbp c fb O = zbp c fb O' := fun O' hn => by
     by_cases hx : ∃ n, zaP c fb n O' ≠ .bad
     ·obtain ⟨n, h⟩ := hx
      rw [zbG (n := n) rfl h, zbG (n := n + 1) (hn n) h]
     ·have : zbp c fb O' = .bad := by unfold zbp; rw [dif_neg hx]
      rw [this]
      unfold zbp
      rw [dif_neg]
      rintro ⟨n, h⟩
      cases n with
      | zero => exact h rfl
      | succ n => rw [hn n] at h; exact hx ⟨n, h⟩
    cases o with
    | nx O' => exact go O' fun n => by unfold zaP; rw [hc]; show (fb O).bind _ = _; rw [hf]; cases n <;> rfl
    | ct O' => exact go O' fun n => by unfold zaP; rw [hc]; show (fb O).bind _ = _; rw [hf]; cases n <;> rfl
    | bk O' => exact zbG (n := 1) (by unfold zaP; rw [hc]; show (fb O).bind _ = _; rw [hf]; rfl) (by simp [R.bind])
    | rt d => exact zbG (n := 1) (by unfold zaP; rw [hc]; show (fb O).bind _ = _; rw [hf]; rfl) (by simp [R.bind])
    | rf d => exact zbG (n := 1) (by unfold zaP; rw [hc]; show (fb O).bind _ = _; rw [hf]; rfl) (by simp [R.bind])
theorem zkt {c : Expr} {fc : DSt -> R Bool} (L : XL X) (hc : DT X E c fc) (hb : DSs X E own own own body fb) : DS X E own own ol (.While c body [] pos) (zbp fc fb) := fun G0 => PS.mono' (zoU L.own hc (hb G0)) fun Dn O H ⟨G, Od, ok, s0, q⟩ => by
 have hx : ∃ n, zaP fc fb n Od ≠ .bad := by
  by_cases hx : ∃ n, zaP fc fb n Od ≠ .bad
  ·exact hx
  ·unfold zbp at q; rw [dif_neg hx] at q; exact (show False from q).elim
 obtain ⟨n, hn⟩ := hx
 rw [zbG rfl hn] at q
 refine ⟨fun m O' H' => ∃ G' Od', Ok X.K X.mg X.H₀ own Od' O' G' H' /\ zay G G' /\ zbk G0 X.H₀ G' H' /\ RW (zaP fc fb m Od') (ze4 X.K X.mg G0 X.H₀ own ol Dn G) (zaI X.K X.mg E G0 X.H₀), ⟨n, G, Od, ok, zay.refl _, s0, q⟩, ?_⟩
 rintro m O1 H1 ⟨G1, Od1, ok1, e1, s1, w⟩
 cases m with
 | zero => exact (show False from w).elim
 | succ m =>
  unfold zaP at w
  have sp := ok1.pubStep s1
  refine ⟨_, Od1, ok1.pub.1, w.of_bind.mono (fun k _ z G' H' s => ?_) fun _ z => z.step sp⟩
  have ok' := ok1.drop s.h
  have s' : zbk G0 X.H₀ G1 H' := s1.trans (.heap ok1.ext s.h)
  cases k with
  | true =>
   refine iteT ?_
   refine ⟨fun O2 H2 => ∃ G' Od', Ok X.K X.mg X.H₀ own Od' O2 G' H2 /\ zay G G' /\ zbk G0 X.H₀ G' H2 /\ RW (zaP fc fb m Od') (ze4 X.K X.mg G0 X.H₀ own ol Dn G) (zaI X.K X.mg E G0 X.H₀), fun O2 H2 h => ⟨m, xcz _, h⟩, ?_⟩
   refine ⟨G1, Od1, ok', s', (show RW ((fb Od1).bind _) _ _ from z).of_bind.mono (fun o _ z => ?_) fun _ z => z⟩
   cases o with
   | nx O3 => exact fun O4 G4 H4 ok4 s4 e4 => ⟨G4, O3, ok4, e1.trans e4, s4, z⟩
   | ct O3 => exact fun O4 G4 H4 ok4 s4 e4 => ⟨G4, O3, ok4, e1.trans e4, s4, z⟩
   | bk O3 => exact fun O4 G4 H4 ok4 s4 e4 => (show ze4 X.K X.mg G0 X.H₀ own ol Dn G (.nx O3) from z) O4 G4 H4 ok4 s4 (e1.trans e4)
   | rt d => exact z
   | rf d => exact z
  | false =>
   refine iteF ?_
   exact (show ze4 X.K X.mg G0 X.H₀ own ol Dn G (.nx Od1) from z) O1 G1 H' ok' s' e1
end
def zcf (n : Nat) (ds : List D) : DSt := ds.map some ++ List.replicate (n - ds.length) none
def fin : R Out -> R D
 | .ok (.rt d) => .ok d
 | .ok (.rf ds) => .ok (.lst ds)
 | .ok (.nx _) => .ok .non
 | .ok _ => .bad
 | .err e => .err e
 | .bad => .bad
def fnM (n nN : Nat) (body : DSt -> R Out) : List D -> R D := fun ds => bif ds.length == n then fin (body (zcf nN ds)) else .bad
theorem Reps.startOk {K : xFg} {mg : Str -> Option Value} {G H : Hp} (e : zay G H) : ∀ {ds : List D} {vs : List V} (k : Nat), Reps K mg G ds vs -> Ok0 K mg (ds.map some ++ List.replicate k none) (vs.map some ++ List.replicate k none) G H
 | [], _, k, h => by
  cases h
  have := Ok0.nones (K := K) (mg := mg) (G := G) (H := H) (Od := []) (O := []) ⟨e, rfl, fun i d q => by simp at q⟩ k
  simpa using this
 | d :: ds, _, k, ⟨v, r, h1, h2, h3⟩ => by
  subst h1
  exact (Reps.startOk e k h3).cons (x := some d) (y := some v) fun d' q => by cases q; exact ⟨v, rfl, h2⟩
section
variable {P : Program} {w : World} {K : xFg} {mg : Str -> Option Value} {base : Heap}
theorem zaF.mk' {x qual : Str} {st : Stmt} {f : Addr} {fd : FuncData} {N ps : List Str} {k n nN : Nat} {own' : List Nat} {body : DSt -> R Out} (F : Fun K x qual st f fd) (S : zdg N ps (zah st)) (hm : mg x = some (.ref f)) (b : zfX K fd ps [])
  (hn : ps.length = n) (hN : N.length = nN)
  (hb : ∀ (X : Cx) (E : XK), (∃ cdv A outer s H, X = zgQ (CXe P w) P w K mg base N qual (zah st) f cdv A outer s H E) -> XC X E k -> XL X -> DSs X E [] own' [] (zbC st) body) : zaF P w K mg base (k + 1) x (fnM n nN body) := by
 refine ⟨f, fd, ps, F.okX S (fun vs H Q E h => ?_) (fun cdv A outer s H vs Q E hr hsp => ?_), hm, F.kp, b⟩
 ·obtain ⟨G, ds, e, r, q⟩ := h
  by_cases hd : ds.length = n
  ·rw [<- r.length, hd, hn]
  ·have : (ds.length == n) = false := by simpa using hd
   unfold fnM at q
   rw [this] at q
   exact (show False from q).elim
 ·obtain ⟨G, ds, e, r, q⟩ := hsp
  have hd : ds.length = n := by
   by_cases hd : ds.length = n
   ·exact hd
   ·have : (ds.length == n) = false := by simpa using hd
    unfold fnM at q
    rw [this] at q
    exact (show False from q).elim
  unfold fnM at q
  rw [show (ds.length == n) = true by simpa using hd] at q
  have q' : RW (fin (body (zcf nN ds))) (zao K mg Q G H) (zaI K mg E G H) := q
  refine ⟨_, hb _ E ⟨cdv, A, outer, s, H, rfl⟩ ⟨rfl, hr, zrS⟩ ⟨PassesOwn.leaving⟩ G, G, zcf nN ds, ?_, .refl e, ?_⟩
  ·have := Reps.startOk e (N.length - vs.length) r
   unfold L2.start zcf
   rw [<- hN, r.length]
   exact .zero this
  ·cases hbd : body (zcf nN ds) with
   | bad => rw [hbd] at q'; exact q'
   | err e => rw [hbd] at q'; exact q'
   | ok o =>
    rw [hbd] at q'
    cases o with
    | rt d => exact fun v G' H' s r => (show zao K mg Q G H d from q') v G' H' s r
    | rf es =>
     intro a vs G' H' s n e g r
     have q2 : zao K mg Q G H (.lst es) := q'
     have sg : zay G' (upd G' a (.lst vs)) := zci g
     refine q2 (.ref a) (upd G' a (.lst vs)) H' ⟨s.g.trans sg, s.h, fun b u p => ?_, fun b u p1 p2 => ?_⟩ ⟨a, vs, rfl, SqL.of zap, r.mono sg⟩
     ·by_cases hb : b = a
      ·subst hb; rw [zap] at p; cases p; exact e
      ·rw [zam hb] at p; exact s.e b u p
     ·have hb : b ≠ a := zai p1 n
      rw [zam hb]; exact s.c b u p1 p2
    | nx O => exact fun O' G' H' ok s _ => (show zao K mg Q G H .non from q') .non G' H' s rfl
    | bk O => exact (show False from q').elim
    | ct O => exact (show False from q').elim
end
theorem XC.lc {X : Cx} {E : XK} {k : Nat} (C : XC X E k) (scope : Scope) (NY : List Str) (s0 : Shared) (H0 : Hp) (Ca : Addr) (ex : List Addr) : XC (zdG X scope NY s0 H0 Ca ex) E0 k := ⟨C.calm, C.room, zwh⟩
end DL
namespace DL
open L2
mutual
def eqD : D -> D -> Bool
 | .non, .non => true
 | .bl a, .bl b => a == b
 | .int a, .int b => a == b
 | .str a, .str b => a == b
 | .bl a, .int b => (if a then (1 : Int) else 0) == b
 | .int a, .bl b => a == (if b then (1 : Int) else 0)
 | .tup xs, .tup ys => eqDs xs ys
 | .lst xs, .lst ys => eqDs xs ys
 | _, _ => false
def eqDs : List D -> List D -> Bool
 | [], [] => true
 | x :: xs, y :: ys => eqD x y && eqDs xs ys
 | _, _ => false
end
def zdK : Nat -> D -> Bool
 | _, .non => true
 | _, .bl _ => true
 | _, .int _ => true
 | _, .str _ => true
 | n + 1, .tup xs => xs.all (zdK n)
 | n + 1, .lst xs => xs.all (zdK n)
 | _, _ => false
theorem zd3 : ∀ (xs ys : List D), ((List.range (min xs.length ys.length)).all (fun j => eqD (xs.getD j .non) (ys.getD j .non)) && xs.length == ys.length) = eqDs xs ys
 | [], [] => by unfold eqDs; rfl
 | [], _ :: _ => by unfold eqDs; simp
 | _ :: _, [] => by unfold eqDs; simp
 | x :: xs, y :: ys => by
  unfold eqDs
  rw [<- zd3 xs ys]
  simp only [xas, Nat.succ_min_succ, List.range_succ_eq_map, List.all_cons, List.getD_cons_zero, List.all_map, Bool.and_assoc]
  congr 2
  rw [xcl]; simp
theorem zfL : ∀ (n : Nat) (d : D), zdK n d = true -> eqD d d = true := by
 intro n
 induction n with
 | zero => intro d h; cases d <;> first | (simp [zdK] at h; done) | (unfold eqD; simp; done)
 | succ n ih =>
  have hl : ∀ xs : List D, xs.all (zdK n) = true -> eqDs xs xs = true := fun xs => by
   induction xs with
   | nil => intro _; unfold eqDs; rfl
   | cons x xs ihx =>
    intro h
    rw [List.all_cons, xay] at h
    unfold eqDs
    rw [ih x h.1, ihx h.2]; rfl
  intro d h
  cases d with
  | tup xs => unfold eqD; exact hl xs (by unfold zdK at h; exact h)
  | lst xs => unfold eqD; exact hl xs (by unfold zdK at h; exact h)
  | _ => first | (simp [zdK] at h; done) | (unfold eqD; simp; done)
def vOf : D -> Option V
 | .non => some .non
 | .bl b => some (.bl b)
 | .int i => some (.int i)
 | .str x => some (.str x)
 | _ => none
theorem zbH {K : xFg} {mg : Str -> Option Value} {G : Hp} {d : D} {v x : V} (h : vOf d = some v) (r : Rep K mg G d x) : x = v /\ zjB v = true := by
 cases d <;> first | (simp [vOf] at h; done) | (simp only [vOf, Option.some.injEq] at h; subst h; simp only [Rep] at r; exact ⟨r, rfl⟩)
theorem zpu {d d' : D} {v v' : V} (h : vOf d = some v) (h' : vOf d' = some v') : eqD d d' = eqV v v' := by
 cases d <;> first | (simp [vOf] at h; done) | (simp only [vOf, Option.some.injEq] at h; subst h; cases d' <;> first | (simp [vOf] at h'; done) | (simp only [vOf, Option.some.injEq] at h'; subst h'; unfold eqD eqV; first | rfl | simp))
theorem znc {d d' : D} {v : V} (h : vOf d = some v) (h' : vOf d' = some v) : d = d' := by
 cases d <;> first | (simp [vOf] at h; done) | (simp only [vOf, Option.some.injEq] at h; subst h; cases d' <;> first | (simp [vOf] at h'; done) | (simp only [vOf, Option.some.injEq] at h'; cases h'; rfl))
theorem za7 {n : Nat} {d : D} (h : zdK n d = true) : (∃ v, vOf d = some v) \/ (∃ m xs, n = m + 1 /\ d = .tup xs /\ xs.all (zdK m) = true) \/ (∃ m xs, n = m + 1 /\ d = .lst xs /\ xs.all (zdK m) = true) := by
 cases d with
 | tup xs => cases n with
  | zero => simp [zdK] at h
  | succ m => exact .inr (.inl ⟨m, xs, rfl, rfl, by unfold zdK at h; exact h⟩)
 | lst xs => cases n with
  | zero => simp [zdK] at h
  | succ m => exact .inr (.inr ⟨m, xs, rfl, rfl, by unfold zdK at h; exact h⟩)
 | non => exact .inl ⟨_, rfl⟩
 | bl b => exact .inl ⟨_, rfl⟩
 | int i => exact .inl ⟨_, rfl⟩
 | str x => exact .inl ⟨_, rfl⟩
 | _ => simp [zdK] at h
section
variable {X : Cx} {pins : List (Addr × Obj)} {O : St} {G H : Hp} {s : Shared}
theorem zku (I : Inv X pins O H s) {a : Addr} {xs ys : List V} (h1 : SqT X.K H a xs) (h2 : SqL X.K H a ys) : False := by
 obtain ⟨_, _, ⟨o, e, c, _⟩, _⟩ := I.tuple h1
 obtain ⟨_, _, ⟨o', _, e', c', _⟩, _⟩ := I.list h2
 rw [e] at e'; cases e'
 rw [c] at c'
 exact absurd c' (by simp)
theorem zd4 {v : V} {a : Addr} (h : zjB v = true) : v ≠ .ref a := by rintro rfl; cases h
theorem zjO (I : Inv X pins O H s) (e : zay G H) : ∀ (n : Nat) {d d' : D} {v : V}, zdK n d = true -> zdK n d' = true -> Rep X.K X.mg G d v -> Rep X.K X.mg G d' v -> d = d' := by
 intro n
 induction n with
 | zero =>
  intro d d' v h h' r r'
  rcases za7 h with ⟨w, hw⟩ | ⟨_, _, z, _⟩ | ⟨_, _, z, _⟩ <;> try omega
  rcases za7 h' with ⟨w', hw'⟩ | ⟨_, _, z, _⟩ | ⟨_, _, z, _⟩ <;> try omega
  have e1 := (zbH hw r).1
  have e2 := (zbH hw' r').1
  rw [<- e1] at hw; rw [<- e2] at hw'
  exact znc hw hw'
 | succ n ih =>
  have hl : ∀ (xs ys : List D) (vs : List V), xs.all (zdK n) = true -> ys.all (zdK n) = true -> Reps X.K X.mg G xs vs -> Reps X.K X.mg G ys vs -> xs = ys := by
   intro xs
   induction xs with
   | nil =>
    intro ys vs _ _ r r'
    cases r
    cases ys with
    | nil => rfl
    | cons y ys => obtain ⟨_, _, z, _⟩ := r'; cases z
   | cons x xs ihx =>
    intro ys vs h h' r r'
    obtain ⟨v, t, rfl, r1, r2⟩ := r
    cases ys with
    | nil => cases r'
    | cons y ys =>
     obtain ⟨v', t', z, r1', r2'⟩ := r'
     cases z
     rw [List.all_cons, xay] at h h'
     rw [ih h.1 h'.1 r1 r1', ihx ys _ h.2 h'.2 r2 r2']
  intro d d' v h h' r r'
  rcases za7 h with ⟨w, hw⟩ | ⟨m, xs, hm, rfl, hx⟩ | ⟨m, xs, hm, rfl, hx⟩
  ·rcases za7 h' with ⟨w', hw'⟩ | ⟨m', ys, hm', rfl, hy⟩ | ⟨m', ys, hm', rfl, hy⟩
   ·have e1 := (zbH hw r).1
    have e2 := (zbH hw' r').1
    rw [<- e1] at hw; rw [<- e2] at hw'
    exact znc hw hw'
   ·obtain ⟨e1, e2⟩ := zbH hw r
    obtain ⟨a, vs, z, _⟩ := r'
    exact absurd (e1.symm.trans z) (zd4 e2)
   ·obtain ⟨e1, e2⟩ := zbH hw r
    obtain ⟨a, vs, z, _⟩ := r'
    exact absurd (e1.symm.trans z) (zd4 e2)
  ·obtain rfl : n = m := by omega
   obtain ⟨a, vs, rfl, q1, q2⟩ := r
   rcases za7 h' with ⟨w', hw'⟩ | ⟨m', ys, hm', rfl, hy⟩ | ⟨m', ys, hm', rfl, hy⟩
   ·obtain ⟨e1, e2⟩ := zbH hw' r'
    exact absurd e1.symm (zd4 e2)
   ·obtain rfl : n = m' := by omega
    obtain ⟨a', vs', z, q1', q2'⟩ := r'
    cases z
    have := I.tuple_inj (zay.sqT e q1) (zay.sqT e q1')
    subst this
    rw [hl xs ys _ hx hy q2 q2']
   ·obtain ⟨a', vs', z, q1', q2'⟩ := r'
    cases z
    exact (zku I (zay.sqT e q1) (e.seq q1')).elim
  ·obtain rfl : n = m := by omega
   obtain ⟨a, vs, rfl, q1, q2⟩ := r
   rcases za7 h' with ⟨w', hw'⟩ | ⟨m', ys, hm', rfl, hy⟩ | ⟨m', ys, hm', rfl, hy⟩
   ·obtain ⟨e1, e2⟩ := zbH hw' r'
    exact absurd e1.symm (zd4 e2)
   ·obtain ⟨a', vs', z, q1', q2'⟩ := r'
    cases z
    exact (zku I (zay.sqT e q1') (e.seq q1)).elim
   ·obtain rfl : n = m' := by omega
    obtain ⟨a', vs', z, q1', q2'⟩ := r'
    cases z
    have := I.list_inj (e.seq q1) (e.seq q1')
    subst this
    rw [hl xs ys _ hx hy q2 q2']
theorem zun {α : Type} {us : List α} {j : Nat} (h : j < us.toArray.size) : us.toArray[j] = us[j]'(by simpa using h) := by simp
theorem znd {α : Type} {xs : List α} {d : α} {j : Nat} (h : j < xs.length) : xs.getD j d = xs[j] := by simp [List.getD, h]
open SeqAt in
theorem zfM {A : Around} {n : Nat} (ih : ∀ {d d' : D} {x x' : V} {u u' : Value}, zdK n d = true -> zdK n d' = true -> Rep X.K X.mg G d x -> zbf x u -> Rep X.K X.mg G d' x' -> zbf x' u' -> EqAt A s u u' (eqD d d'))
  {xs ys : List D} {vs ws : List V} {us us' : List Value} (h : xs.all (zdK n) = true) (h' : ys.all (zdK n) = true) (r : Reps X.K X.mg G xs vs) (q : zbg vs us) (r' : Reps X.K X.mg G ys ws) (q' : zbg ws us') :
  ∀ j (h1 : j < us.toArray.size) (h2 : j < us'.toArray.size), EqAt A s us.toArray[j] us'.toArray[j] (eqD (xs.getD j .non) (ys.getD j .non)) := by
 intro j h1 h2
 have l1 : j < vs.length := by rw [q.length]; simpa using h1
 have l2 : j < ws.length := by rw [q'.length]; simpa using h2
 have l3 : j < xs.length := by rw [r.length]; exact l1
 have l4 : j < ys.length := by rw [r'.length]; exact l2
 obtain ⟨v, e1, e2⟩ := r.get (i := j) (d := xs[j]) (by simp [l3])
 obtain ⟨w, e3, e4⟩ := r'.get (i := j) (d := ys[j]) (by simp [l4])
 obtain ⟨u, e5, e6⟩ := q.get e1
 obtain ⟨u', e7, e8⟩ := q'.get e3
 have z1 : us.toArray[j] = u := by rw [zun h1]; exact (xaj.mp e5).2
 have z2 : us'.toArray[j] = u' := by rw [zun h2]; exact (xaj.mp e7).2
 rw [z1, z2, znd l3, znd l4]
 exact ih (xa1.mp h _ (xb4 l3)) (xa1.mp h' _ (xb4 l4)) e2 e6 e4 e8
theorem in1_units (A : Around) : A.in1.units = A.units + 1 := rfl
open SeqAt in
theorem zuo {A : Around} {x x' : V} {u u' : Value} (q : zbf x u) (q' : zbf x' u') (f : zjB x = true) (f' : zjB x' = true) : RcAt A s u u' (eqV x x') /\ RcNeAt A s u u' (!eqV x x') := by
 cases x with
 | non =>
  cases (show u = Value.none from q)
  cases x' with
  | non => cases (show u' = Value.none from q'); exact ⟨RcAt.none_none, RcNeAt.none_none⟩
  | bl b => cases (show u' = Value.bool b from q'); exact ⟨RcAt.none_bool b, RcNeAt.none_bool b⟩
  | int b => obtain ⟨tb, rfl⟩ := (show ∃ t, u' = Value.int b t from q'); exact ⟨RcAt.none_int b tb, RcNeAt.none_int b tb⟩
  | str b => obtain ⟨tb, rfl⟩ := (show ∃ t, u' = Value.str b t from q'); exact ⟨RcAt.none_str b tb, RcNeAt.none_str b tb⟩
  | _ => cases f'
 | bl a =>
  cases (show u = Value.bool a from q)
  cases x' with
  | non => cases (show u' = Value.none from q'); exact ⟨RcAt.bool_none a, RcNeAt.bool_none a⟩
  | bl b => cases (show u' = Value.bool b from q'); exact ⟨RcAt.bool_bool a b, RcNeAt.bool_bool a b⟩
  | int b => obtain ⟨tb, rfl⟩ := (show ∃ t, u' = Value.int b t from q'); exact ⟨RcAt.bool_int a b tb, RcNeAt.bool_int a b tb⟩
  | str b => obtain ⟨tb, rfl⟩ := (show ∃ t, u' = Value.str b t from q'); exact ⟨RcAt.bool_str a b tb, RcNeAt.bool_str a b tb⟩
  | _ => cases f'
 | int a =>
  obtain ⟨ta, rfl⟩ := (show ∃ t, u = Value.int a t from q)
  cases x' with
  | non => cases (show u' = Value.none from q'); exact ⟨RcAt.int_none a ta, RcNeAt.int_none a ta⟩
  | bl b => cases (show u' = Value.bool b from q'); exact ⟨RcAt.int_bool a ta b, RcNeAt.int_bool a ta b⟩
  | int b => obtain ⟨tb, rfl⟩ := (show ∃ t, u' = Value.int b t from q'); exact ⟨RcAt.int_int a ta b tb, RcNeAt.int_int a ta b tb⟩
  | str b => obtain ⟨tb, rfl⟩ := (show ∃ t, u' = Value.str b t from q'); exact ⟨RcAt.int_str a ta b tb, RcNeAt.int_str a ta b tb⟩
  | _ => cases f'
 | str a =>
  obtain ⟨ta, rfl⟩ := (show ∃ t, u = Value.str a t from q)
  cases x' with
  | non => cases (show u' = Value.none from q'); exact ⟨RcAt.str_none a ta, RcNeAt.str_none a ta⟩
  | bl b => cases (show u' = Value.bool b from q'); exact ⟨RcAt.str_bool a ta b, RcNeAt.str_bool a ta b⟩
  | int b => obtain ⟨tb, rfl⟩ := (show ∃ t, u' = Value.int b t from q'); exact ⟨RcAt.str_int a ta b tb, RcNeAt.str_int a ta b tb⟩
  | str b => obtain ⟨tb, rfl⟩ := (show ∃ t, u' = Value.str b t from q'); exact ⟨RcAt.str_str a ta b tb, RcNeAt.str_str a ta b tb⟩
  | _ => cases f'
 | _ => cases f
open SeqAt in
theorem zcG {A : Around} {x : V} {u : Value} {b : Addr} {items : Array Value} (fx : zjB x = true) (q : zbf x u) (hA : A.units < cLine) (h : s.heap.IsTuple b items \/ s.heap.IsList b items) : EqAt A s u (.ref b) false /\ EqAt A s (.ref b) u false /\ RcAt A s u (.ref b) false /\ RcAt A s (.ref b) u false /\ RcNeAt A s u (.ref b) true /\ RcNeAt A s (.ref b) u true := by
 cases x with
 | non =>
  obtain rfl : u = Value.none := q
  rcases h with h | h
  ·exact ⟨EqAt.none_tuple h hA, EqAt.tuple_none h hA, RcAt.none_tuple h hA, RcAt.tuple_none h hA, RcNeAt.none_tuple h hA, RcNeAt.tuple_none h hA⟩
  ·exact ⟨EqAt.none_list h hA, EqAt.list_none h hA, RcAt.none_list h hA, RcAt.list_none h hA, RcNeAt.none_list h hA, RcNeAt.list_none h hA⟩
 | bl a =>
  obtain rfl : u = Value.bool a := q
  rcases h with h | h
  ·exact ⟨EqAt.bool_tuple _ h hA, EqAt.tuple_bool _ h hA, RcAt.bool_tuple _ h hA, RcAt.tuple_bool _ h hA, RcNeAt.bool_tuple _ h hA, RcNeAt.tuple_bool _ h hA⟩
  ·exact ⟨EqAt.bool_list _ h hA, EqAt.list_bool _ h hA, RcAt.bool_list _ h hA, RcAt.list_bool _ h hA, RcNeAt.bool_list _ h hA, RcNeAt.list_bool _ h hA⟩
 | int a =>
  obtain ⟨t, rfl⟩ : ∃ t, u = Value.int a t := q
  rcases h with h | h
  ·exact ⟨EqAt.int_tuple _ _ h hA, EqAt.tuple_int _ _ h hA, RcAt.int_tuple _ _ h hA, RcAt.tuple_int _ _ h hA, RcNeAt.int_tuple _ _ h hA, RcNeAt.tuple_int _ _ h hA⟩
  ·exact ⟨EqAt.int_list _ _ h hA, EqAt.list_int _ _ h hA, RcAt.int_list _ _ h hA, RcAt.list_int _ _ h hA, RcNeAt.int_list _ _ h hA, RcNeAt.list_int _ _ h hA⟩
 | str a =>
  obtain ⟨t, rfl⟩ : ∃ t, u = Value.str a t := q
  rcases h with h | h
  ·exact ⟨EqAt.str_tuple _ _ h hA, EqAt.tuple_str _ _ h hA, RcAt.str_tuple _ _ h hA, RcAt.tuple_str _ _ h hA, RcNeAt.str_tuple _ _ h hA, RcNeAt.tuple_str _ _ h hA⟩
  ·exact ⟨EqAt.str_list _ _ h hA, EqAt.list_str _ _ h hA, RcAt.str_list _ _ h hA, RcAt.list_str _ _ h hA, RcNeAt.str_list _ _ h hA, RcNeAt.list_str _ _ h hA⟩
 | _ => cases fx
theorem zeG {xs ys : List D} : eqD (.tup xs) (.tup ys) = eqDs xs ys /\ eqD (.lst xs) (.lst ys) = eqDs xs ys /\ eqD (.tup xs) (.lst ys) = false /\ eqD (.lst xs) (.tup ys) = false := by
 refine ⟨?_, ?_, ?_, ?_⟩ <;> (unfold eqD; rfl)
theorem zdk {d : D} {v : V} {ys : List D} (h : vOf d = some v) : eqD d (.tup ys) = false /\ eqD d (.lst ys) = false /\ eqD (.tup ys) d = false /\ eqD (.lst ys) d = false := by
 cases d <;> first | (simp [vOf] at h; done) | (refine ⟨?_, ?_, ?_, ?_⟩ <;> (unfold eqD; rfl))
set_option maxHeartbeats 4000000 in
open SeqAt in
theorem zne (I : Inv X pins O H s) (e : zay G H) : ∀ (n : Nat) {A : Around} {d d' : D} {x x' : V} {u u' : Value}, A.units + n < cLine -> zdK n d = true -> zdK n d' = true -> Rep X.K X.mg G d x -> zbf x u -> Rep X.K X.mg G d' x' -> zbf x' u' ->
  EqAt A s u u' (eqD d d') /\ RcAt A s u u' (eqD d d') /\ RcNeAt A s u u' (!eqD d d') := by
 have ff : ∀ {A : Around} {d d' : D} {v v' x x' : V} {u u' : Value}, vOf d = some v -> vOf d' = some v' -> Rep X.K X.mg G d x -> zbf x u -> Rep X.K X.mg G d' x' -> zbf x' u' -> EqAt A s u u' (eqD d d') /\ RcAt A s u u' (eqD d d') /\ RcNeAt A s u u' (!eqD d d') := by
  intro A d d' v v' x x' u u' hv hv' r q r' q'
  obtain ⟨rfl, f1⟩ := zbH hv r
  obtain ⟨rfl, f2⟩ := zbH hv' r'
  rw [zpu hv hv']
  exact ⟨ztL q q' f1 f2, zuo q q' f1 f2⟩
 have seq : ∀ {d : D} {m : Nat} {xs : List D} {x : V} {u : Value}, d = .tup xs \/ d = .lst xs -> Rep X.K X.mg G d x -> zbf x u -> ∃ b items, u = .ref b /\ (s.heap.IsTuple b items \/ s.heap.IsList b items) := by
  intro d m xs x u hd r q
  rcases hd with rfl | rfl
  ·obtain ⟨a, vs, rfl, q1, q2⟩ := r
   obtain ⟨us, v1, t1, _⟩ := I.tuple (zay.sqT e q1)
   exact ⟨a, _, q, .inl t1⟩
  ·obtain ⟨a, vs, rfl, q1, q2⟩ := r
   obtain ⟨us, v1, t1, _⟩ := I.list (e.seq q1)
   exact ⟨a, _, q, .inr t1.isList⟩
 intro n
 induction n with
 | zero =>
  intro A d d' x x' u u' hu h h' r q r' q'
  rcases za7 h with ⟨w, hw⟩ | ⟨_, _, z, _⟩ | ⟨_, _, z, _⟩ <;> try omega
  rcases za7 h' with ⟨w', hw'⟩ | ⟨_, _, z, _⟩ | ⟨_, _, z, _⟩ <;> try omega
  exact ff hw hw' r q r' q'
 | succ n ih =>
  intro A d d' x x' u u' hu h h' r q r' q'
  have hA : A.units < cLine := by omega
  have ih' : ∀ {d d' : D} {x x' : V} {u u' : Value}, zdK n d = true -> zdK n d' = true -> Rep X.K X.mg G d x -> zbf x u -> Rep X.K X.mg G d' x' -> zbf x' u' -> EqAt A.in1 s u u' (eqD d d') :=
   fun a b c d e f => (ih (A := A.in1) (by rw [in1_units]; omega) a b c d e f).1
  rcases za7 h with ⟨w, hw⟩ | ⟨m, xs, hm, rfl, hx⟩ | ⟨m, xs, hm, rfl, hx⟩
  ·rcases za7 h' with ⟨w', hw'⟩ | ⟨m', ys, hm', rfl, hy⟩ | ⟨m', ys, hm', rfl, hy⟩
   ·exact ff hw hw' r q r' q'
   ·obtain ⟨rfl, f1⟩ := zbH hw r
    obtain ⟨b, items, rfl, hb⟩ := seq (m := m') (.inl rfl) r' q'
    obtain ⟨z1, _, z3, _, z5, _⟩ := zcG f1 q hA hb
    rw [(zdk hw).1]; exact ⟨z1, z3, z5⟩
   ·obtain ⟨rfl, f1⟩ := zbH hw r
    obtain ⟨b, items, rfl, hb⟩ := seq (m := m') (.inr rfl) r' q'
    obtain ⟨z1, _, z3, _, z5, _⟩ := zcG f1 q hA hb
    rw [(zdk hw).2.1]; exact ⟨z1, z3, z5⟩
  ·obtain rfl : n = m := by omega
   rcases za7 h' with ⟨w', hw'⟩ | ⟨m', ys, hm', rfl, hy⟩ | ⟨m', ys, hm', rfl, hy⟩
   ·obtain ⟨rfl, f1⟩ := zbH hw' r'
    obtain ⟨b, items, rfl, hb⟩ := seq (m := n) (.inl rfl) r q
    obtain ⟨_, z2, _, z4, _, z6⟩ := zcG f1 q' hA hb
    rw [(zdk hw').2.2.1]; exact ⟨z2, z4, z6⟩
   ·obtain rfl : n = m' := by omega
    have hr := r; have hr' := r'
    obtain ⟨a, vs, rfl, q1, q2⟩ := r
    obtain rfl : u = Value.ref a := q
    obtain ⟨us, v1, t1, _⟩ := I.tuple (zay.sqT e q1)
    obtain ⟨b, ws, rfl, q1', q2'⟩ := r'
    obtain rfl : u' = Value.ref b := q'
    obtain ⟨us', v1', t1', _⟩ := I.tuple (zay.sqT e q1')
    have t1 : s.heap.IsTuple a us.toArray := t1
    have t1' : s.heap.IsTuple b us'.toArray := t1'
    have z := RcAt.tuples t1 t1' hA (zfM ih' hx hy q2 v1 q2' v1')
    have zn := RcNeAt.tuples t1 t1' hA (zfM ih' hx hy q2 v1 q2' v1')
    have hz : ((List.range (min us.toArray.size us'.toArray.size)).all (fun j => eqD (xs.getD j .non) (ys.getD j .non)) && us.toArray.size == us'.toArray.size) = eqD (.tup xs) (.tup ys) := by
     rw [zeG.1, <- zd3]
     simp only [xah, <- v1.length, <- v1'.length, <- q2.length, <- q2'.length]
    rw [hz] at z zn
    refine ⟨?_, z, zn⟩
    by_cases hab : a = b
    ·subst hab
     have ed := zjO I e (n + 1) h h' hr hr'
     rw [ed, zfL _ _ h']; exact EqAt.same _
    ·exact EqAt.of_refs hab z
   ·obtain ⟨a, vs, rfl, q1, q2⟩ := r
    obtain rfl : u = Value.ref a := q
    obtain ⟨us, v1, t1, _⟩ := I.tuple (zay.sqT e q1)
    obtain ⟨b, ws, rfl, q1', q2'⟩ := r'
    obtain rfl : u' = Value.ref b := q'
    obtain ⟨us', v1', t1', _⟩ := I.list (e.seq q1')
    have t1 : s.heap.IsTuple a us.toArray := t1
    rw [zeG.2.2.1]
    exact ⟨EqAt.tuple_list t1 t1'.isList hA, RcAt.tuple_list t1 t1'.isList hA, RcNeAt.tuple_list t1 t1'.isList hA⟩
  ·obtain rfl : n = m := by omega
   rcases za7 h' with ⟨w', hw'⟩ | ⟨m', ys, hm', rfl, hy⟩ | ⟨m', ys, hm', rfl, hy⟩
   ·obtain ⟨rfl, f1⟩ := zbH hw' r'
    obtain ⟨b, items, rfl, hb⟩ := seq (m := n) (.inr rfl) r q
    obtain ⟨_, z2, _, z4, _, z6⟩ := zcG f1 q' hA hb
    rw [(zdk hw').2.2.2]; exact ⟨z2, z4, z6⟩
   ·obtain ⟨a, vs, rfl, q1, q2⟩ := r
    obtain rfl : u = Value.ref a := q
    obtain ⟨us, v1, t1, _⟩ := I.list (e.seq q1)
    obtain ⟨b, ws, rfl, q1', q2'⟩ := r'
    obtain rfl : u' = Value.ref b := q'
    obtain ⟨us', v1', t1', _⟩ := I.tuple (zay.sqT e q1')
    have t1' : s.heap.IsTuple b us'.toArray := t1'
    rw [zeG.2.2.2]
    exact ⟨EqAt.list_tuple t1.isList t1' hA, RcAt.list_tuple t1.isList t1' hA, RcNeAt.list_tuple t1.isList t1' hA⟩
   ·obtain rfl : n = m' := by omega
    have hr := r; have hr' := r'
    obtain ⟨a, vs, rfl, q1, q2⟩ := r
    obtain rfl : u = Value.ref a := q
    obtain ⟨us, v1, t1, _⟩ := I.list (e.seq q1)
    obtain ⟨b, ws, rfl, q1', q2'⟩ := r'
    obtain rfl : u' = Value.ref b := q'
    obtain ⟨us', v1', t1', _⟩ := I.list (e.seq q1')
    have both : RcAt A s (.ref a) (.ref b) (eqD (.lst xs) (.lst ys)) /\ RcNeAt A s (.ref a) (.ref b) (!eqD (.lst xs) (.lst ys)) := by
     by_cases hl : us.toArray.size = us'.toArray.size
     ·have z := RcAt.lists t1.isList t1'.isList hl hA (zfM ih' hx hy q2 v1 q2' v1')
      have zn := RcNeAt.lists t1.isList t1'.isList hl hA (zfM ih' hx hy q2 v1 q2' v1')
      have hz : (List.range us.toArray.size).all (fun j => eqD (xs.getD j .non) (ys.getD j .non)) = eqD (.lst xs) (.lst ys) := by
       have hl' : xs.length = ys.length := by rw [q2.length, q2'.length, v1.length, v1'.length]; simpa using hl
       rw [zeG.2.1, <- zd3, hl', Nat.min_self, xah, <- v1.length, <- q2.length, hl']
       simp
      rw [hz] at z zn
      exact ⟨z, zn⟩
     ·have z := RcAt.lists_lengths t1.isList t1'.isList (by simpa using hl) hA
      have zn := RcNeAt.lists_lengths t1.isList t1'.isList (by simpa using hl) hA
      have hz : eqD (.lst xs) (.lst ys) = false := by
       have hl' : ¬ xs.length = ys.length := by rw [q2.length, q2'.length, v1.length, v1'.length]; simpa using hl
       rw [zeG.2.1, <- zd3]
       simp [hl']
      rw [hz]
      exact ⟨z, zn⟩
    refine ⟨?_, both⟩
    by_cases hab : a = b
    ·subst hab
     have ed := zjO I e (n + 1) h h' hr hr'
     rw [ed, zfL _ _ h']; exact EqAt.same _
    ·exact EqAt.of_refs hab both.1
end
end DL
namespace DL
open L2 PyProof.Rows
def B (n : Nat) (i : Int) : Prop := i.natAbs < 2 ^ n
theorem B.mono {m n : Nat} {i : Int} (h : B m i) (l : m <= n) : B n i := xak h (Nat.pow_le_pow_right (by decide) l)
theorem B.mul {m n : Nat} {i j : Int} (a : B m i) (b : B n j) : B (m + n) (i * j) := by
 unfold B at *
 rw [xcp, Nat.pow_add]
 exact Nat.mul_lt_mul'' a b
theorem B.add {m n : Nat} {i j : Int} (a : B m i) (b : B n j) : B (max m n + 1) (i + j) := by
 have a' := a.mono (Nat.le_max_left m n)
 have b' := b.mono (Nat.le_max_right m n)
 unfold B at *
 rw [Nat.pow_succ]
 omega
theorem B.sub {m n : Nat} {i j : Int} (a : B m i) (b : B n j) : B (max m n + 1) (i - j) := by
 have a' := a.mono (Nat.le_max_left m n)
 have b' := b.mono (Nat.le_max_right m n)
 unfold B at *
 rw [Nat.pow_succ]
 omega
theorem B.of {n : Nat} {i : Int} {k : Nat} (h : i.natAbs <= k) (hk : k < 2 ^ n := by decide +kernel) : B n i := xbq h hk
theorem B.log {n : Nat} {i : Int} (h : B n i) (hn : 0 < n) : i.natAbs.log2 < n := zlJ hn h
def zgT (i : Int) : Bool := decide (i.natAbs.log2 < 60000000)
theorem znf {n : Nat} {i : Int} (h : B n i) (hn : n <= 60000000 := by decide) : zgT i = true := by
 refine decide_eq_true ?_
 cases n with
 | zero =>
  have : i.natAbs = 0 := by unfold B at h; omega
  rw [this]; decide
 | succ k => exact xak (h.log (Nat.succ_pos _)) hn
theorem zsc {i j : Int} (a : zgT i = true) (b : zgT j = true) : IntMulOk i j := by
 have h1 : i.natAbs.log2 < 60000000 := of_decide_eq_true a
 have h2 : j.natAbs.log2 < 60000000 := of_decide_eq_true b
 have bits : ∀ k : Int, k.natAbs.log2 < 60000000 -> Builtin.Int.intBits k <= 60000000 := fun k h => by
  unfold Builtin.Int.intBits
  split
  ·exact xch _
  ·omega
 have b1 := bits i h1
 have b2 := bits j h2
 unfold IntMulOk
 intro z
 simp only [xay, decide_eq_true_eq, Builtin.Int.intTooBig] at z
 have e := z.2
 have l : (bitsLine : Int) = 134217728 := by decide
 rw [l] at e
 omega
def zng (i : Int) : Bool := decide (i ≠ 0 /\ i.natAbs.log2 < 9000)
theorem zjP {n : Nat} {i : Int} (h : B n i) (h0 : i ≠ 0) (hn : n <= 9000 := by decide) : zng i = true := by
 refine decide_eq_true ⟨h0, ?_⟩
 cases n with
 | zero =>
  have : i.natAbs = 0 := by unfold B at h; omega
  omega
 | succ k => exact xak (h.log (Nat.succ_pos _)) hn
def zwE (i j : Int) : Bool := decide (0 <= j /\ j <= 1000000 /\ i.natAbs < 2 ^ 64)
section
variable {X : Cx} {K : xFg} {mg : Str -> Option Value}
def gI (C : Int -> Int -> Bool) (h : Int -> Int -> Int) : D -> D -> R D
 | .int i, .int j => bif C i j then .ok (.int (h i j)) else .bad
 | _, _ => .bad
def gB (h : Int -> Int -> Bool) : D -> D -> R D
 | .int i, .int j => .ok (.bl (h i j))
 | _, _ => .bad
theorem zup {C : Int -> Int -> Bool} {h : Int -> Int -> Int} : ze8 (gI C h) := by
 intro a b e
 cases a <;> cases b <;> simp only [gI] <;> first | (intro z; cases z) | (intro z; revert z; cases C _ _ <;> simp [cond])
theorem zvy {h : Int -> Int -> Bool} : ze8 (gB h) := by
 intro a b e
 cases a <;> cases b <;> simp only [gB] <;> (intro z; cases z)
theorem zuq {C : Int -> Int -> Bool} {C' : Int -> Int -> Prop} {h : Int -> Int -> Int} (hc : ∀ i j, C i j = true -> C' i j) : OpD K mg (rI C' fun i j => .int (h i j)) (gI C h) := by
 intro G H a b x y Q e ra rb q
 cases a with
 | int i => cases b with
  | int j =>
   cases ra; cases rb
   cases hC : C i j with
   | false => simp only [gI, hC, cond_false] at q; exact q.elim
   | true =>
    simp only [gI, hC, cond_true] at q
    exact ⟨i, j, rfl, rfl, hc i j hC, zao.now q e rfl⟩
  | _ => exact (show False from q).elim
 | _ => exact (show False from q).elim
theorem zvz {h : Int -> Int -> Bool} : OpD K mg (rI0 fun i j => .bl (h i j)) (gB h) := by
 intro G H a b x y Q e ra rb q
 cases a with
 | int i => cases b with
  | int j => cases ra; cases rb; exact ⟨i, j, rfl, rfl, zao.now q e rfl⟩
  | _ => exact (show False from q).elim
 | _ => exact (show False from q).elim
theorem zsd : OpR X (binaryOp .Mult) (rI (fun i j => zgT i = true /\ zgT j = true) fun i j => .int (i * j)) := opI fun _ _ _ _ _ _ _ hc q => mul_int q (zsc hc.1 hc.2)
theorem zpv : OpR X (binaryOp .FloorDiv) (rI (fun _ j => zng j = true) fun i j => .int (i.fdiv j)) := opI fun i j _ _ _ _ _ hc q => by
 have h := of_decide_eq_true (p := j ≠ 0 /\ j.natAbs.log2 < 9000) hc
 exact floordiv_int h.1 q (.inl (PyProof.noPylong_of_log2 h.2))
def zur (K : xFg) : R2 := fun x y H Q => ∃ l b xs zs, x = .ref l /\ y = .ref b /\ SqL K H l xs /\ SqL K H b zs /\ xs.length + zs.length <= sizeLine /\ ∀ p, H p = none -> Q (.ref p) (upd H p (.lst (xs ++ zs)))
theorem zse : OpR X (binaryOp .Add) (zur X.K) := by
 intro pins s O H x y v u Q I rx ry h
 obtain ⟨l, b, xs, zs, rfl, rfl, hH, hB, hz, q⟩ := h
 cases rx
 cases ry
 obtain ⟨its, r, pl, _⟩ := I.list hH
 obtain ⟨its2, r2, pl2, _⟩ := I.list hB
 obtain ⟨⟨cls, dd, data, sl⟩, ho, hc, n, hd⟩ := id pl.isList
 obtain ⟨⟨cls2, dd2, data2, sl2⟩, ho2, hc2, n2, hd2⟩ := id pl2.isList
 simp only at hc hd hc2 hd2
 subst hc hd hc2 hd2
 refine concat_meets ⟨_, ho, rfl⟩ ⟨_, ho2, rfl⟩ noFill_list_add seq_list_add PySem.F.slot_list_add PySem.F.entry_list_add (PySem.F.args_list_add_2 _ _) (list_addW l b its.toArray its2.toArray n n2 dd dd2 sl sl2 (by rw [xah, xah, <- r.length, <- r2.length]; exact hz)) ⟨ho, ho2, ?_⟩
 have ea : its.toArray ++ its2.toArray = (its ++ its2).toArray := by simp
 rw [ea]
 exact ⟨.ref _, _, I.lnew (t' := s.toks) (r.append r2) (by rw [xby]; exact hz), rfl, q _ I.fresh⟩
def znh (n : Nat) : Bool := decide (n <= sizeLine)
def zcH : D -> D -> R D
 | .int i, .int j => .ok (.int (i + j))
 | .str x, .str y => bif znh (x.length + y.length) then .ok (.str (x ++ y)) else .bad
 | .lst xs, .lst ys => bif znh (xs.length + ys.length) then .ok (.lst (xs ++ ys)) else .bad
 | .tup xs, .tup ys => bif znh (xs.length + ys.length) && !xs.isEmpty then .ok (.tup (xs ++ ys)) else .bad
 | _, _ => .bad
theorem zus : ze8 zcH := by
 intro a b e
 cases a <;> cases b <;> simp only [zcH] <;> first | (intro z; cases z; done) | (generalize znh _ = k; cases k <;> simp [cond] <;> (try (generalize List.isEmpty _ = k2; cases k2 <;> simp)))
abbrev zwF (K : xFg) : R2 := fun x y H Q => rI0 (fun i j => .int (i + j)) x y H Q \/ ((∃ i j, x = .str i /\ y = .str j /\ i.length + j.length <= sizeLine /\ Q (.str (i ++ j)) H) \/ (zur K x y H Q \/ ztJ K x y H Q))
theorem zut : OpD K mg (zwF K) zcH := by
 intro G H a b x y Q e ra rb q
 cases a with
 | int i => cases b with
  | int j => cases ra; cases rb; exact .inl ⟨i, j, rfl, rfl, zao.now q e rfl⟩
  | _ => exact (show False from q).elim
 | str i => cases b with
  | str j =>
   cases ra; cases rb
   cases hC : znh (i.length + j.length) with
   | false => simp only [zcH, hC, cond_false] at q; exact q.elim
   | true =>
    simp only [zcH, hC, cond_true] at q
    exact .inr (.inl ⟨i, j, rfl, rfl, of_decide_eq_true hC, zao.now q e rfl⟩)
  | _ => exact (show False from q).elim
 | lst xs => cases b with
  | lst ys =>
   obtain ⟨p, vs, rfl, h1, h2⟩ := ra
   obtain ⟨p', ws, rfl, h1', h2'⟩ := rb
   cases hC : znh (xs.length + ys.length) with
   | false => simp only [zcH, hC, cond_false] at q; exact q.elim
   | true =>
    simp only [zcH, hC, cond_true] at q
    refine .inr (.inr (.inl ⟨p, p', vs, ws, rfl, rfl, e.seq h1, e.seq h1', by rw [<- h2.length, <- h2'.length]; exact of_decide_eq_true hC, fun l hl => ?_⟩))
    have s := zbk.pub (o := .lst (vs ++ ws)) e hl
    exact (show zao K mg Q G H (.lst (xs ++ ys)) from q) _ _ _ s ⟨l, _, rfl, SqL.of zap, (h2.append h2').mono s.g⟩
  | _ => exact (show False from q).elim
 | tup xs => cases b with
  | tup ys =>
   obtain ⟨p, vs, rfl, h1, h2⟩ := ra
   obtain ⟨p', ws, rfl, h1', h2'⟩ := rb
   cases hC : (znh (xs.length + ys.length) && !xs.isEmpty) with
   | false => simp only [zcH, hC, cond_false] at q; exact q.elim
   | true =>
    simp only [zcH, hC, cond_true] at q
    rw [xay] at hC
    have q' : zao K mg Q G H (.tup (xs ++ ys)) := q
    refine .inr (.inr (.inr ⟨p, p', vs, ws, rfl, rfl, zay.sqT e h1, zay.sqT e h1', fun z => ?_, by rw [<- h2.length, <- h2'.length]; exact of_decide_eq_true hC.1, fun z => ?_, fun z l hl => ?_⟩))
    ·subst z
     have := h2.length
     have hx : xs = [] := List.length_eq_zero_iff.mp this
     subst hx; simp at hC
    ·subst z
     have := h2'.length
     have hy : ys = [] := List.length_eq_zero_iff.mp this
     subst hy
     rw [xb7] at q'
     exact q'.now e ⟨p, vs, rfl, h1, h2⟩
    ·have s := zbk.pub (o := .tup (vs ++ ws)) e hl
     exact q' _ _ _ s ⟨l, _, rfl, SqT.of zap, (h2.append h2').mono s.g⟩
  | _ => exact (show False from q).elim
 | _ => exact (show False from q).elim
abbrev gSub : D -> D -> R D := gI (fun _ _ => true) fun i j => i - j
abbrev za1 : D -> D -> R D := gI (fun i j => zgT i && zgT j) fun i j => i * j
abbrev zes : D -> D -> R D := gI (fun _ j => zng j) fun i j => i.fdiv j
abbrev zeH : D -> D -> R D := gI (fun _ j => decide (j ≠ 0)) fun i j => i.fmod j
abbrev zsf : D -> D -> R D := gI zwE fun i j => i ^ j.toNat
abbrev gShr : D -> D -> R D := gI (fun _ j => decide (0 <= j)) fun i j => i / 2 ^ j.toNat
variable {E : XK} {a b c : Expr} {fa fb fc : DSt -> R D} {pos : Pos}
theorem zuu (ha : DE X E a fa) (hb : DE X E b fb) : DE X E (.BinOp a .Add b pos) (eOp zcH fa fb) := zlR (ztA.or (zlE.or (zse.or zrK))) zut zus ha hb
theorem zuv (ha : DE X E a fa) (hb : DE X E b fb) : DE X E (.BinOp a .Sub b pos) (eOp gSub fa fb) :=
 zlR (r := rI (fun _ _ => True) fun i j => .int (i - j)) (opI fun _ _ _ _ _ _ _ _ q => sub_int q) (zuq fun _ _ _ => trivial) zup ha hb
theorem zuw (ha : DE X E a fa) (hb : DE X E b fb) : DE X E (.BinOp a .Mult b pos) (eOp za1 fa fb) := zlR zsd (zuq fun i j h => by simpa using h) zup ha hb
theorem zsg (ha : DE X E a fa) (hb : DE X E b fb) : DE X E (.BinOp a .FloorDiv b pos) (eOp zes fa fb) := zlR zpv (zuq fun i j h => h) zup ha hb
theorem zux (ha : DE X E a fa) (hb : DE X E b fb) : DE X E (.BinOp a .Mod b pos) (eOp zeH fa fb) := zlR zrB (zuq fun i j h => of_decide_eq_true h) zup ha hb
theorem zuy (ha : DE X E a fa) (hb : DE X E b fb) : DE X E (.BinOp a .Pow b pos) (eOp zsf fa fb) := zlR ztB (zuq fun i j h => of_decide_eq_true (p := 0 <= j /\ j <= 1000000 /\ i.natAbs < 2 ^ 64) h) zup ha hb
def zqv : D -> R D
 | .int i => .ok (.int (-i))
 | _ => .bad
theorem zuz (ha : DE X E a fa) : DE X E (.UnaryOp .USub a pos) (eUn zqv fa) := by
 refine zwy ztC (fun G H d x Q e r q => ?_) (fun d e => ?_) ha
 ·cases d with
  | int i => cases r; exact ⟨i, rfl, zao.now q e rfl⟩
  | _ => exact (show False from q).elim
 ·cases d <;> simp [zqv]
structure zkv (X : Cx) (op : CmpOp) (g : D -> D -> R D) : Prop where
 ex : ∃ r, OpR X (compareOp op) r /\ OpD X.K X.mg r g /\ ze8 g
abbrev gLt : D -> D -> R D := gB fun i j => decide (i < j)
abbrev gLe : D -> D -> R D := gB fun i j => decide (i <= j)
abbrev gGt : D -> D -> R D := gB fun i j => decide (j < i)
abbrev gGe : D -> D -> R D := gB fun i j => decide (j <= i)
theorem zni : zkv X .Lt gLt := ⟨_, zvY, zvz, zvy⟩
theorem zpw : zkv X .LtE gLe := ⟨_, zvZ, zvz, zvy⟩
theorem zuA : zkv X .Gt gGt := ⟨_, zv0, zvz, zvy⟩
theorem zuB : zkv X .GtE gGe := ⟨_, zv1, zvz, zvy⟩
def zlT (a b : D) : Bool := zdK 9 a && zdK 9 b
def gEq (a b : D) : R D := bif zlT a b then .ok (.bl (eqD a b)) else .bad
def gNe (a b : D) : R D := bif zlT a b then .ok (.bl (!eqD a b)) else .bad
def rEqD (K : xFg) (mg : Str -> Option Value) (neg : Bool) : R2 := fun x y H Q => ∃ G d d', zay G H /\ Rep K mg G d x /\ Rep K mg G d' y /\ zlT d d' = true /\ Q (.bl (bif neg then !eqD d d' else eqD d d')) H
theorem zuC {k : Nat} (r : zfA k X.A) : OpR X (compareOp .Eq) (rEqD X.K X.mg false) := by
 intro pins s O H x y v u Q I rx ry h
 obtain ⟨G, d, d', e, r1, r2, c, q⟩ := h
 unfold zlT at c
 rw [xay] at c
 have hu : X.A.units + 9 < cLine := by have := r.un; omega
 exact (zne I e 9 hu c.1 c.2 r1 rx r2 ry).2.1 _ _ _ _ ⟨.bl _, H, I, rfl, q⟩
theorem zuD {k : Nat} (r : zfA k X.A) : OpR X (compareOp .NotEq) (rEqD X.K X.mg true) := by
 intro pins s O H x y v u Q I rx ry h
 obtain ⟨G, d, d', e, r1, r2, c, q⟩ := h
 unfold zlT at c
 rw [xay] at c
 have hu : X.A.units + 9 < cLine := by have := r.un; omega
 exact (zne I e 9 hu c.1 c.2 r1 rx r2 ry).2.2 _ _ _ _ ⟨.bl _, H, I, rfl, q⟩
theorem zsh {k : Nat} (C : XC X E k) : zkv X .Eq gEq := ⟨_, zuC C.room, fun G H a b x y Q e ra rb q => by
 unfold gEq at q
 cases hc : zlT a b with
 | false => rw [hc] at q; exact q.elim
 | true => rw [hc] at q; exact ⟨G, a, b, e, ra, rb, hc, zao.now q e rfl⟩, fun a b e => by unfold gEq; cases zlT a b <;> simp [cond]⟩
theorem zwG {k : Nat} (C : XC X E k) : zkv X .NotEq gNe := ⟨_, zuD C.room, fun G H a b x y Q e ra rb q => by
 unfold gNe at q
 cases hc : zlT a b with
 | false => rw [hc] at q; exact q.elim
 | true => rw [hc] at q; exact ⟨G, a, b, e, ra, rb, hc, zao.now q e rfl⟩, fun a b e => by unfold gNe; cases zlT a b <;> simp [cond]⟩
def zjQ : D -> Bool
 | .non => true
 | _ => false
def gIs : D -> D -> R D
 | d, .non => .ok (.bl (zjQ d))
 | .bl a, .bl b => .ok (.bl (a == b))
 | _, _ => .bad
def zvA : D -> D -> R D
 | d, .non => .ok (.bl (!zjQ d))
 | .bl a, .bl b => .ok (.bl (a != b))
 | _, _ => .bad
theorem ziM {G : Hp} {d : D} {x : V} (r : Rep K mg G d x) : decide (x = .non) = zjQ d := by
 have nr : ∀ a : Addr, decide (V.ref a = V.non) = false := fun a => by simp
 cases d with
 | non => cases r; rfl
 | bl b => cases r; rfl
 | int i => cases r; rfl
 | str y => cases r; rfl
 | ty n => cases r; rfl
 | cls c => obtain ⟨C, rfl, _⟩ := r; exact nr _
 | tup xs => obtain ⟨a, vs, rfl, _⟩ := r; exact nr _
 | lst xs => obtain ⟨a, vs, rfl, _⟩ := r; exact nr _
 | dct ks xs => obtain ⟨a, vs, rfl, _⟩ := r; exact nr _
 | exc c as => obtain ⟨a, C, dct, vs, rfl, _⟩ := r; exact nr _
theorem zwH : zkv X .Is gIs := ⟨_, ztD.or zo4, fun G H a b x y Q e ra rb q => by
 cases b with
 | non => cases rb; exact .inl ⟨rfl, by rw [ziM ra]; cases a <;> exact zao.now q e rfl⟩
 | bl k => cases a with
  | bl k' => cases ra; cases rb; exact .inr ⟨k', k, rfl, rfl, zao.now q e rfl⟩
  | _ => exact (show False from q).elim
 | _ => cases a <;> exact (show False from q).elim, fun a b e => by cases a <;> cases b <;> simp [gIs]⟩
theorem zuE : zkv X .IsNot zvA := ⟨_, zrC.or zjC, fun G H a b x y Q e ra rb q => by
 cases b with
 | non => cases rb; exact .inl ⟨rfl, by rw [ziM ra]; cases a <;> exact zao.now q e rfl⟩
 | bl k => cases a with
  | bl k' => cases ra; cases rb; exact .inr ⟨k', k, rfl, rfl, zao.now q e rfl⟩
  | _ => exact (show False from q).elim
 | _ => cases a <;> exact (show False from q).elim, fun a b e => by cases a <;> cases b <;> simp [zvA]⟩
theorem znj {op : CmpOp} {g : D -> D -> R D} (cf : zkv X op g) (ha : DE X E a fa) (hb : DE X E b fb) (hm : behindInMarks op b = false := by first | exact zaZ _ (by decide) (by decide) | rfl) : DE X E (.Compare a [op] [b] pos) (eOp g fa fb) := by
 obtain ⟨r, h1, h2, h3⟩ := cf.ex
 exact zt8 h1 h2 h3 ha hb hm
theorem zdL {op : CmpOp} {g : D -> D -> R D} (cf : zkv X op g) (ha : DE X E a fa) (hb : DE X E b fb) (hm : behindInMarks op b = false := by first | exact zaZ _ (by decide) (by decide) | rfl) : DT X E (.Compare a [op] [b] pos) (zaw (eOp g fa fb)) := by
 obtain ⟨r, h1, h2, h3⟩ := cf.ex
 exact zt9 h1 h2 h3 ha hb hm
theorem ziN {op op' : CmpOp} {g g' : D -> D -> R D} (cf : zkv X op g) (cf' : zkv X op' g') (ha : DE X E a fa) (hb : DE X E b fb) (hc : DE X E c fc) (hm : lastMarks [op, op'] [b, c] = false := by with_unfolding_all rfl) : DT X E (.Compare a [op, op'] [b, c] pos) (zaw (zhe g g' fa fb fc)) := by
 obtain ⟨r, h1, h2, h3⟩ := cf.ex
 obtain ⟨r', h1', h2', h3'⟩ := cf'.ex
 exact zpp h1 h2 h3 h1' h2' h3' ha hb hc hm
end
end DL
namespace DL
open L2 PyProof.Rows
section
variable {X : Cx} {E : XK} {K : xFg} {mg : Str -> Option Value} {G H : Hp}
theorem zpx : bootBuiltins "all" = some (.builtin "all") := by rfl
theorem zpy : bootBuiltins "isinstance" = some (.builtin "isinstance") := by rfl
theorem zuF : bootBuiltins "int" = some (.type "int") := by rfl
theorem zsi : bootBuiltins "bool" = some (.type "bool") := by rfl
theorem zuG : bootBuiltins "str" = some (.type "str") := by rfl
theorem zfN : bootBuiltins "tuple" = some (.type "tuple") := by rfl
theorem znk : bootBuiltins "list" = some (.type "list") := by rfl
theorem zhZ : bootBuiltins "ValueError" = some (.type "ValueError") := by rfl
theorem Reps.one {d : D} {vs : List V} (h : Reps K mg G [d] vs) : ∃ v, vs = [v] /\ Rep K mg G d v := by
 obtain ⟨v, r, rfl, h2, h3⟩ := h
 cases h3
 exact ⟨v, rfl, h2⟩
theorem Reps.two {d d' : D} {vs : List V} (h : Reps K mg G [d, d'] vs) : ∃ v w, vs = [v, w] /\ Rep K mg G d v /\ Rep K mg G d' w := by
 obtain ⟨v, r, rfl, h2, h3⟩ := h
 obtain ⟨w, rfl, h4⟩ := h3.one
 exact ⟨v, w, rfl, h2, h4⟩
def g1 {α : Type} (g : D -> R α) : List D -> R α
 | [d] => g d
 | _ => .bad
def g2 {α : Type} (g : D -> D -> R α) : List D -> R α
 | [d, e] => g d e
 | _ => .bad
theorem cd1 {r : List V -> Hp -> VK -> Prop} {g : D -> R D} (h : ∀ (G H : Hp) (d : D) (v : V) (Q : VK), zay G H -> Rep K mg G d v -> RW (g d) (zao K mg Q G H) (fun _ => False) -> r [v] H Q) : zf8 K mg r (g1 g) := by
 intro G H ds vs Q e rp q
 match ds, rp, q with
 | [], rp, q => exact (show False from q).elim
 | [d], rp, q => obtain ⟨v, rfl, h1⟩ := rp.one; exact h G H d v Q e h1 q
 | _ :: _ :: _, rp, q => exact (show False from q).elim
theorem cd2 {r : List V -> Hp -> VK -> Prop} {g : D -> D -> R D} (h : ∀ (G H : Hp) (d d' : D) (v v' : V) (Q : VK), zay G H -> Rep K mg G d v -> Rep K mg G d' v' -> RW (g d d') (zao K mg Q G H) (fun _ => False) -> r [v, v'] H Q) : zf8 K mg r (g2 g) := by
 intro G H ds vs Q e rp q
 match ds, rp, q with
 | [], rp, q => exact (show False from q).elim
 | [d], rp, q => exact (show False from q).elim
 | [d, d'], rp, q => obtain ⟨v, w, rfl, h1, h2⟩ := rp.two; exact h G H d d' v w Q e h1 h2 q
 | _ :: _ :: _ :: _, rp, q => exact (show False from q).elim
variable {x : Str} {p pos : Pos} {e : Expr} {es : List Expr} {fs : DSt -> R (List D)}
def zwI : D -> R D
 | .lst xs => .ok (.int xs.length)
 | .tup xs => .ok (.int xs.length)
 | .str y => bif znh y.length then .ok (.int y.length) else .bad
 | _ => .bad
abbrev zh0 := g1 zwI
theorem zuH : zf8 K mg (fun xs H Q => (∃ p ys, xs = [.ref p] /\ (SqL K H p ys \/ SqT K H p ys) /\ Q (.int ys.length) H) \/ (∃ z, xs = [.str z] /\ z.length <= sizeLine /\ Q (.int z.length) H)) zh0 := cd1 fun G H d v Q e r q => by
 cases d with
 | lst xs =>
  obtain ⟨a, vs, rfl, h1, h2⟩ := r
  exact .inl ⟨a, vs, rfl, .inl (e.seq h1), by rw [<- h2.length]; exact zao.now q e rfl⟩
 | tup xs =>
  obtain ⟨a, vs, rfl, h1, h2⟩ := r
  exact .inl ⟨a, vs, rfl, .inr (zay.sqT e h1), by rw [<- h2.length]; exact zao.now q e rfl⟩
 | str y =>
  cases r
  cases hC : znh y.length with
  | false => simp only [zwI, hC, cond_false] at q; exact q.elim
  | true => simp only [zwI, hC, cond_true] at q; exact .inr ⟨y, rfl, of_decide_eq_true hC, zao.now q e rfl⟩
 | _ => exact (show False from q).elim
theorem zuI (hm : X.mg "len" = none) (ha : DA X E (e :: es) fs) (hg : Gl X "len" := by rfl) (he : starEach (e :: es) X.env = (false, eval e X.env) :: starEach es X.env := by rfl) (hpl : (backTo pos (starEach es X.env)).any (·.1) = false := by rfl) : DE X E (.Call (.Name "len" p) (e :: es) [] pos) (zcD zh0 fs) :=
 zhf (ziq.or zir) zuH hm PySem.boot_len ha hg (by decide) (by decide) he hpl
def abs1 : D -> R D
 | .int i => .ok (.int (i.natAbs : Int))
 | _ => .bad
abbrev zqw := g1 abs1
theorem zuJ : zf8 K mg (fun xs H Q => ∃ i, xs = [.int i] /\ Q (.int (if i < 0 then -i else i)) H) zqw := cd1 fun G H d v Q e r q => by
 cases d with
 | int i =>
  cases r
  have ea : (if i < 0 then -i else i) = (i.natAbs : Int) := by split <;> omega
  exact ⟨i, rfl, by rw [ea]; exact zao.now q e rfl⟩
 | _ => exact (show False from q).elim
theorem zuK (hm : X.mg "abs" = none) (ha : DA X E (e :: es) fs) (hg : Gl X "abs" := by rfl) (he : starEach (e :: es) X.env = (false, eval e X.env) :: starEach es X.env := by rfl) (hpl : (backTo pos (starEach es X.env)).any (·.1) = false := by rfl) : DE X E (.Call (.Name "abs" p) (e :: es) [] pos) (zcD zqw fs) :=
 zhf zoY zuJ hm PyProof.Rows.boot_abs ha hg (by decide) (by decide) he hpl
def min2 : D -> D -> R D
 | .int i, .int j => .ok (.int (min i j))
 | _, _ => .bad
def max2 : D -> D -> R D
 | .int i, .int j => .ok (.int (max i j))
 | _, _ => .bad
abbrev gMin := g2 min2
abbrev zvB := g2 max2
theorem zuL : zf8 K mg (fun xs H Q => ∃ i j, xs = [.int i, .int j] /\ Q (.int (if j > i then j else i)) H) zvB := cd2 fun G H d d' v v' Q e r r' q => by
 cases d with
 | int i => cases d' with
  | int j =>
   cases r; cases r'
   have ea : (if j > i then j else i) = max i j := by split <;> omega
   exact ⟨i, j, rfl, by rw [ea]; exact zao.now q e rfl⟩
  | _ => exact (show False from q).elim
 | _ => exact (show False from q).elim
theorem zuM (hc : X.calm = true) (hm : X.mg "max" = none) (ha : DA X E (e :: es) fs) (hg : Gl X "max" := by rfl) (he : starEach (e :: es) X.env = (false, eval e X.env) :: starEach es X.env := by rfl) (hpl : (backTo pos (starEach es X.env)).any (·.1) = false := by rfl) : DE X E (.Call (.Name "max" p) (e :: es) [] pos) (zcD zvB fs) :=
 zhf (zmp hc) zuL hm PyProof.Rows.boot_max ha hg (by decide) (by decide) he hpl
def zfn : List D -> Option (List Int)
 | [] => some []
 | .int i :: r => (zfn r).map (i :: ·)
 | _ => none
def ziO : List D -> Option (List Bool)
 | [] => some []
 | .bl b :: r => (ziO r).map (b :: ·)
 | _ => none
theorem zgd : ∀ {ds : List D} {ns : List Int}, zfn ds = some ns -> ds = ns.map D.int
 | [], ns, h => by simp only [zfn, Option.some.injEq] at h; subst h; rfl
 | .int i :: r, ns, h => by
  simp only [zfn, xcv] at h
  obtain ⟨ms, h1, rfl⟩ := h
  rw [zgd h1]; rfl
theorem zkw : ∀ {ds : List D} {bs : List Bool}, ziO ds = some bs -> ds = bs.map D.bl
 | [], ns, h => by simp only [ziO, Option.some.injEq] at h; subst h; rfl
 | .bl i :: r, ns, h => by
  simp only [ziO, xcv] at h
  obtain ⟨ms, h1, rfl⟩ := h
  rw [zkw h1]; rfl
theorem ziP : ∀ bs : List Bool, ziO (bs.map D.bl) = some bs
 | [] => rfl
 | n :: r => by rw [xa7]; unfold ziO; rw [ziP r]; rfl
def zwJ : D -> R D
 | .lst xs => match zfn xs with
  | some ns => .ok (.int ns.sum)
  | none => .bad
 | _ => .bad
abbrev zs8 := g1 zwJ
theorem zuN : zf8 K mg (fun xs H Q => ∃ (p : Addr) (ns : List Int), xs = [.ref p] /\ SqL K H p (ns.map V.int) /\ Q (.int ns.sum) H) zs8 := cd1 fun G H d v Q e r q => by
 cases d with
 | lst xs =>
  obtain ⟨a, vs, rfl, h1, h2⟩ := r
  cases hn : zfn xs with
  | none => simp only [zwJ, hn] at q; exact q.elim
  | some ns =>
   simp only [zwJ, hn] at q
   rw [zgd hn] at h2
   rw [Reps.of_ints h2] at h1
   exact ⟨a, ns, rfl, e.seq h1, zao.now q e rfl⟩
 | _ => exact (show False from q).elim
theorem zqx (hc : X.calm = true) (hm : X.mg "sum" = none) (ha : DA X E (e :: es) fs) (hg : Gl X "sum" := by rfl) (he : starEach (e :: es) X.env = (false, eval e X.env) :: starEach es X.env := by rfl) (hpl : (backTo pos (starEach es X.env)).any (·.1) = false := by rfl) : DE X E (.Call (.Name "sum" p) (e :: es) [] pos) (zcD zs8 fs) :=
 zhf (zo5 hc) zuN hm PyProof.Rows.boot_sum ha hg (by decide) (by decide) he hpl
def zqy : D -> R D
 | .lst xs => match ziO xs with
  | some bs => .ok (.bl (bs.all id))
  | none => .bad
 | _ => .bad
abbrev zsj := g1 zqy
theorem zuO : zf8 K mg (fun xs H Q => ∃ (p : Addr) (bs : List Bool), xs = [.ref p] /\ SqL K H p (bs.map V.bl) /\ Q (.bl (bs.all id)) H) zsj := cd1 fun G H d v Q e r q => by
 cases d with
 | lst xs =>
  obtain ⟨a, vs, rfl, h1, h2⟩ := r
  cases hn : ziO xs with
  | none => simp only [zqy, hn] at q; exact q.elim
  | some ns =>
   simp only [zqy, hn] at q
   rw [zkw hn] at h2
   rw [Reps.of_bools h2] at h1
   exact ⟨a, ns, rfl, e.seq h1, zao.now q e rfl⟩
 | _ => exact (show False from q).elim
theorem znl (hc : X.calm = true) (hm : X.mg "all" = none) (ha : DA X E (e :: es) fs) (hg : Gl X "all" := by rfl) (he : starEach (e :: es) X.env = (false, eval e X.env) :: starEach es X.env := by rfl) (hpl : (backTo pos (starEach es X.env)).any (·.1) = false := by rfl) : DE X E (.Call (.Name "all" p) (e :: es) [] pos) (zcD zsj fs) :=
 zhf (zpe hc) zuO hm zpx ha hg (by decide) (by decide) he hpl
def int1 : D -> R D
 | .int i => .ok (.int i)
 | .bl b => .ok (.int (if b then 1 else 0))
 | _ => .bad
abbrev gInt := g1 int1
def zuP : D -> R D
 | .lst xs => .ok (.tup xs)
 | .tup xs => .ok (.tup xs)
 | _ => .bad
abbrev ziQ := g1 zuP
theorem zpz : zf8 K mg (fun xs H Q => ∃ p ys, xs = [.ref p] /\ ((SqL K H p ys /\ ∀ l, H l = none -> Q (.ref l) (upd H l (.tup ys))) \/ (SqT K H p ys /\ Q (.ref p) H))) ziQ := cd1 fun G H d v Q e r q => by
 cases d with
 | lst xs =>
  obtain ⟨a, vs, rfl, h1, h2⟩ := r
  refine ⟨a, vs, rfl, .inl ⟨e.seq h1, fun l hl => ?_⟩⟩
  have s := zbk.pub (o := .tup vs) e hl
  exact (show zao K mg Q G H (.tup xs) from q) _ _ _ s ⟨l, vs, rfl, SqT.of zap, h2.mono s.g⟩
 | tup xs =>
  obtain ⟨a, vs, rfl, h1, h2⟩ := r
  exact ⟨a, vs, rfl, .inr ⟨zay.sqT e h1, (show zao K mg Q G H (.tup xs) from q).now e ⟨a, vs, rfl, h1, h2⟩⟩⟩
 | _ => exact (show False from q).elim
theorem zkx (hm : X.mg "tuple" = none) (ha : DA X E (e :: es) fs) (hg : Gl X "tuple" := by rfl) (he : starEach (e :: es) X.env = (false, eval e X.env) :: starEach es X.env := by rfl) (hpl : (backTo pos (starEach es X.env)).any (·.1) = false := by rfl) : DE X E (.Call (.Name "tuple" p) (e :: es) [] pos) (zcD ziQ fs) :=
 zuc zhK zpz hm ha zfN hg (by decide) (by decide) he hpl
def zlU (g : List D -> R (List D)) (fs : DSt -> R (List D)) : DSt -> R (List D) := fun O => (fs O).bind fun ds => (g ds).noerr
def zuQ (K : xFg) (mg : Str -> Option Value) (r : List V -> Hp -> VK -> Prop) (g : List D -> R (List D)) : Prop :=
 ∀ (G H : Hp) (ds : List D) (vs : List V) (Q : VK), zay G H -> Reps K mg G ds vs -> RW (g ds) (zdH K mg Q G H) (fun _ => False) -> r vs H Q
theorem zuR {T : String} {r : List V -> Hp -> VK -> Prop} {g : List D -> R (List D)} (hc : zc0 X (.type T) r) (hd : zuQ X.K X.mg r g) (hm : X.mg x = none) (ha : DA X E (e :: es) fs) (hv : bootBuiltins x = some (.type T) := by rfl) (hg : Gl X x := by rfl) (hn : x ≠ "__name__" := by decide) (hdb : (x == ("__debug__" : Str)) = false := by decide)
  (he : starEach (e :: es) X.env = (false, eval e X.env) :: starEach es X.env := by rfl) (hpl : (backTo pos (starEach es X.env)).any (·.1) = false := by rfl) : DF X E (.Call (.Name x p) (e :: es) [] pos) (zlU g fs) := by
 refine PE.mono' (zfY hc hg hm hv ha hn hdb he hpl) fun O H Q ⟨G, Od, ok, q⟩ => ?_
 refine ⟨G, Od, ok, q.of_bind.mono (fun ds _ z vs G' H' s r => ?_) fun _ z => z⟩
 obtain ⟨d, e1, z⟩ := zcE z
 exact hd G' H' ds vs Q s.e r (by rw [e1]; exact z.step s)
def zwK : D -> R (List D)
 | .lst xs => .ok xs
 | .tup xs => .ok xs
 | _ => .bad
abbrev ziR := g1 zwK
theorem zsk : zuQ K mg (fun xs H Q => ∃ p ys, xs = [.ref p] /\ (SqL K H p ys \/ SqT K H p ys) /\ ∀ l, H l = none -> Q (.ref l) (upd H l (.lst ys))) ziR := by
 intro G H ds vs Q e rp q
 have go : ∀ xs vs, Reps K mg G xs vs -> zdH K mg Q G H xs -> ∀ l, H l = none -> Q (.ref l) (upd H l (.lst vs)) := fun xs vs h z l hl => z l vs G _ (.hid e hl) hl zap (e.free hl) h
 match ds, rp, q with
 | [], rp, q => exact (show False from q).elim
 | [d], rp, q =>
  obtain ⟨v, rfl, r⟩ := rp.one
  cases d with
  | lst xs => obtain ⟨a, vs, rfl, h1, h2⟩ := r; exact ⟨a, vs, rfl, .inl (e.seq h1), go xs vs h2 q⟩
  | tup xs => obtain ⟨a, vs, rfl, h1, h2⟩ := r; exact ⟨a, vs, rfl, .inr (zay.sqT e h1), go xs vs h2 q⟩
  | _ => exact (show False from q).elim
 | _ :: _ :: _, rp, q => exact (show False from q).elim
theorem zsl (hm : X.mg "list" = none) (ha : DA X E (e :: es) fs) (hg : Gl X "list" := by rfl) (he : starEach (e :: es) X.env = (false, eval e X.env) :: starEach es X.env := by rfl) (hpl : (backTo pos (starEach es X.env)).any (·.1) = false := by rfl) : DF X E (.Call (.Name "list" p) (e :: es) [] pos) (zlU ziR fs) :=
 zuR zis zsk hm ha znk hg (by decide) (by decide) he hpl
def zky : D -> Option String
 | .non => some "NoneType"
 | .bl _ => some "bool"
 | .int _ => some "int"
 | .str _ => some "str"
 | .tup _ => some "tuple"
 | .lst _ => some "list"
 | .dct _ _ => some "dict"
 | _ => none
def zuS (T : String) : Bool := ["int", "bool", "str", "tuple", "list", "dict"].contains T
def zvC (t T : String) : Bool := t == T || (t == "bool" && T == "int")
theorem zge (t T : String) (ht : ["NoneType", "bool", "int", "str", "tuple", "list", "dict"].contains t = true) (hT : zuS T = true) : PySem.W.kitOne K (.type t) (.type T) = some (zvC t T) := by
 simp only [List.contains_eq_mem, xaf, xaq, or_false, decide_eq_true_eq] at ht
 simp only [zuS, List.contains_eq_mem, xaf, xaq, or_false, decide_eq_true_eq] at hT
 rcases ht with rfl | rfl | rfl | rfl | rfl | rfl | rfl <;> rcases hT with rfl | rfl | rfl | rfl | rfl | rfl <;> rfl
end
end DL
namespace DL
open L2 PyProof.Rows
section
variable {X : Cx} {E : XK} {K : xFg} {mg : Str -> Option Value} {G H : Hp}
variable {x : Str} {p pos : Pos} {e : Expr} {es : List Expr} {fs : DSt -> R (List D)}
def rIsi (K : xFg) (mg : Str -> Option Value) : List V -> Hp -> VK -> Prop := fun xs H Q => ∃ G d T v b, xs = [v, .ty T] /\ zay G H /\ Rep K mg G d v /\ (∃ t, zky d = some t /\ zuS T = true /\ b = zvC t T) /\ Q (.bl b) H
theorem znm : zc0 X (.builtin "isinstance") (rIsi X.K X.mg) := by
 intro pins s O H xs us Q I r h
 obtain ⟨G, d, T, v, b, rfl, e, rp, ⟨t, ht, hT, rfl⟩, q⟩ := h
 obtain ⟨u, w', rfl, ru, rw'⟩ := zrG r
 cases (show w' = Value.type T from rw')
 have fin : ∀ tk, EP X pins O Q (.bool (zvC t T)) { s with toks := tk } := fun tk => ⟨.bl _, H, I.tok tk, rfl, q⟩
 cases d with
 | non => cases ht; cases rp; cases (show u = Value.none from ru); exact PySem.W.kia_one PySem.W.kitx_none I.kIn True.intro (zge _ _ rfl hT) (fun z => nomatch z) fin
 | bl y => cases ht; cases rp; cases (show u = Value.bool y from ru); exact PySem.W.kia_one PySem.W.kitx_bool I.kIn True.intro (zge _ _ rfl hT) (fun z => nomatch z) fin
 | int i => cases ht; cases rp; obtain ⟨tk, rfl⟩ := (show ∃ tk, u = Value.int i tk from ru); exact PySem.W.kia_one PySem.W.kitx_int I.kIn True.intro (zge _ _ rfl hT) (fun z => nomatch z) fin
 | str y => cases ht; cases rp; obtain ⟨tk, rfl⟩ := (show ∃ tk, u = Value.str y tk from ru); exact PySem.W.kia_one PySem.W.kitx_str I.kIn True.intro (zge _ _ rfl hT) (fun z => nomatch z) fin
 | tup ds =>
  cases ht
  obtain ⟨a, vs, rfl, h1, h2⟩ := rp
  cases (show u = Value.ref a from ru)
  obtain ⟨_, _, ⟨o, h3, h4, _⟩, _⟩ := I.tuple (zay.sqT e h1)
  exact PySem.W.kia_one PySem.W.kitx_tuple I.kIn ⟨o, h3, h4⟩ (zge _ _ rfl hT) (fun z => nomatch z) fin
 | lst ds =>
  cases ht
  obtain ⟨a, vs, rfl, h1, h2⟩ := rp
  cases (show u = Value.ref a from ru)
  obtain ⟨_, _, ⟨o, n, h3, h4, _⟩, _⟩ := I.list (e.seq h1)
  exact PySem.W.kia_one PySem.W.kitx_list I.kIn ⟨o, h3, h4⟩ (zge _ _ rfl hT) (fun z => nomatch z) fin
 | dct ks ds =>
  cases ht
  obtain ⟨a, vs, rfl, h1, _⟩ := rp
  cases (show u = Value.ref a from ru)
  obtain ⟨_, _, _, _, p⟩ := (show zdf X.prog X.w H s.heap a (.dK (ks.zip vs)) from (zay.rd e h1).ok I.hok)
  obtain ⟨o, es, ep, h3, h4, _⟩ := p
  exact PySem.W.kia_one PySem.W.kitx_dict I.kIn ⟨o, h3, h4.1⟩ (zge _ _ rfl hT) (fun z => nomatch z) fin
 | _ => cases ht
abbrev zwL (K : xFg) : List V -> Hp -> VK -> Prop := fun xs H Q => ∃ (a C : Addr) (c : V) (cv : Value) (b : Bool), xs = [.ref a, c] /\ H a = some (zoM a C none) /\ ((∃ D, c = .ref D /\ cv = .ref D) \/ ∃ T, c = .ty T /\ cv = .type T) /\ zs5 K C /\ PySem.W.kitOne K (.ref C) cv = some b /\ Q (.bl b) H
def zet : D -> D -> R D
 | d, .ty T => match zky d with
  | some t => bif zuS T then .ok (.bl (zvC t T)) else .bad
  | none => match d with
   | .exc _ [] => bif T == "ValueError" then .ok (.bl true) else .bad
   | _ => .bad
 | .exc c [], .cls d => match zjz c d with
  | some b => .ok (.bl b)
  | none => .bad
 | _, _ => .bad
theorem zuT : zf8 K mg (fun xs H Q => rIsi K mg xs H Q \/ zwL K xs H Q) (g2 zet) := cd2 fun G H d d' v v' Q e r r' q => by
 have exc : ∀ {c as}, d = .exc c as -> as = [] -> ∃ a C, v = .ref a /\ H a = some (zoM a C none) /\ zoN K mg c C := fun {c as} hd ha => by
  subst hd; subst ha
  obtain ⟨a, C, dct, vs, rfl, h2, h3, h4, h5⟩ := r
  cases h5
  rcases h4 with ⟨rfl, _⟩ | ⟨dx, w, _, z, _⟩
  ·exact ⟨a, C, rfl, e _ _ h2, h3⟩
  ·cases z
 cases d' with
 | ty T =>
  cases r'
  cases ht : zky d with
  | some t =>
   cases hT : zuS T with
   | false => simp only [zet, ht, hT, cond_false] at q; exact q.elim
   | true => simp only [zet, ht, hT, cond_true] at q; exact .inl ⟨G, d, T, v, _, rfl, e, r, ⟨t, ht, hT, rfl⟩, zao.now q e rfl⟩
  | none =>
   cases d with
   | exc c as =>
    cases as with
    | nil =>
     cases hT : T == "ValueError" with
     | false => simp only [zet, ht, hT, cond_false] at q; exact q.elim
     | true =>
      simp only [zet, ht, hT, cond_true] at q
      obtain ⟨a, C, rfl, h1, h2⟩ := exc rfl rfl
      have := eq_of_beq hT
      subst this
      exact .inr ⟨a, C, _, _, true, rfl, h1, .inr ⟨_, rfl, rfl⟩, h2.exc, h2.val, zao.now q e rfl⟩
    | cons b bs => simp only [zet, ht] at q; exact q.elim
   | _ => simp only [zet, ht] at q; exact q.elim
 | cls c' =>
  cases d with
  | exc c as =>
   cases as with
   | nil =>
    obtain ⟨Dd, rfl, hD⟩ := r'
    cases hs : zjz c c' with
    | none => simp only [zet, hs] at q; exact q.elim
    | some b =>
     simp only [zet, hs] at q
     obtain ⟨a, C, rfl, h1, h2⟩ := exc rfl rfl
     exact .inr ⟨a, C, _, _, b, rfl, h1, .inl ⟨Dd, rfl, rfl⟩, h2.exc, h2.isi c' Dd b hs hD, zao.now q e rfl⟩
   | cons b bs => exact (show False from q).elim
  | _ => exact (show False from q).elim
 | _ => cases d <;> first | exact (show False from q).elim | (rename_i as; cases as <;> exact (show False from q).elim)
theorem zeI (hm : X.mg "isinstance" = none) (ha : DA X E (e :: es) fs) (hg : Gl X "isinstance" := by rfl) (he : starEach (e :: es) X.env = (false, eval e X.env) :: starEach es X.env := by rfl) (hpl : (backTo pos (starEach es X.env)).any (·.1) = false := by rfl) : DE X E (.Call (.Name "isinstance" p) (e :: es) [] pos) (zcD (g2 zet) fs) :=
 zhf (znm.or zmG) zuT hm zpy ha hg (by decide) (by decide) he hpl
def tO (K : xFg) (mg : Str -> Option Value) (E : XK) (f : DSt -> R (Option Int)) : TO := fun O H Q => ∃ G Od, Ok0 K mg Od O G H /\ RW (f Od) (fun o => ∀ G' H', zbk G H G' H' -> Q o H') (zaI K mg E G H)
def DO (X : Cx) (E : XK) (e : Option Expr) (f : DSt -> R (Option Int)) : Prop := PO X e (tO X.K X.mg E f)
def zeu : DSt -> R (Option Int) := fun _ => .ok none
def asI : D -> R (Option Int)
 | .int i => .ok (some i)
 | _ => .bad
def zb0 (f : DSt -> R D) : DSt -> R (Option Int) := fun O => (f O).bind asI
theorem PO.mono' {e : Option Expr} {t t' : TO} (h : PO X e t) (m : ∀ O H Q, t' O H Q -> t O H Q) : PO X e t' := fun pins s O H Q I q => h pins s O H Q I (m O H Q q)
theorem zsm : DO X E none zeu := PO.mono' zrI fun O H Q ⟨G, Od, ok, q⟩ => (show ∀ G' H', zbk G H G' H' -> Q none H' from q) G H (.refl ok.ext)
theorem zsn {f : DSt -> R D} (h : DE X E e f) : DO X E (some e) (zb0 f) := PO.mono' (zrJ h) fun O H Q ⟨G, Od, ok, q⟩ => ⟨G, Od, ok, q.of_bind.mono (fun d _ z v G' H' s r => by
 cases d with
 | int i => cases r; exact ⟨i, rfl, (show ∀ G' H', zbk G H G' H' -> Q (some i) H' from z) G' H' s⟩
 | _ => exact (show False from z).elim) fun _ z => z⟩
def zme {α : Type} (xs : List α) (lo hi : Option Int) : List α := (xs.drop (HT.sIx xs.length 0 lo)).take (HT.sIx xs.length xs.length hi - HT.sIx xs.length 0 lo)
def znn {α : Type} (xs : List α) (lo hi : Option Int) : Bool := decide (HT.sIx xs.length 0 lo = 0 /\ HT.sIx xs.length xs.length hi = xs.length)
def gSl : D -> Option Int -> Option Int -> R D
 | .lst xs, lo, hi => .ok (.lst (zme xs lo hi))
 | .tup xs, lo, hi => bif znn xs lo hi then .bad else .ok (.tup (zme xs lo hi))
 | _, _, _ => .bad
def eSl (fe : DSt -> R D) (fl fh : DSt -> R (Option Int)) : DSt -> R D := fun O => (fe O).bind fun d => (fl O).bind fun lo => (fh O).bind fun hi => gSl d lo hi
theorem Reps.cut {ds : List D} {vs : List V} (h : Reps K mg G ds vs) (lo hi : Option Int) : Reps K mg G (zme ds lo hi) (zoL vs lo hi) := by
 unfold zme zoL
 rw [h.length]
 exact (h.drop _).take _
theorem zwM {fe : DSt -> R D} {lo hi : Option Expr} {fl fh : DSt -> R (Option Int)} {p2 : Pos} (he : DE X E e fe) (hl : DO X E lo fl) (hh : DO X E hi fh) : DE X E (.Subscript e (.Slice lo hi none p2) pos) (eSl fe fl fh) := by
 refine PE.mono' (zo0 (zrN.or ztI) he hl hh) fun O H Q ⟨G, Od, ok, q⟩ => ?_
 refine zc1 (P := zao X.K X.mg Q) ok q fun d v G1 H1 s1 ok1 r1 q1 => ?_
 refine ⟨G1, Od, ok1, q1.of_bind.mono (fun l _ q2 G2 H2 s2 => ?_) fun _ z => z⟩
 refine ⟨G2, Od, ok1.step s2, q2.of_bind.mono (fun u _ q3 G3 H3 s3 => ?_) fun _ z => z.step s2⟩
 have s := (s1.trans s2).trans s3
 have r3 := r1.mono (s2.g.trans s3.g)
 cases d with
 | lst xs =>
  obtain ⟨a, vs, rfl, h1, h2⟩ := r3
  refine .inl ⟨a, vs, rfl, s3.e.seq h1, fun pp hp => ?_⟩
  have sp := zbk.pub (o := .lst (zoL vs l u)) s3.e hp
  exact (show zao X.K X.mg Q G H (.lst (zme xs l u)) from q3) _ _ _ (s.trans sp) ⟨pp, _, rfl, SqL.of zap, (h2.cut l u).mono sp.g⟩
 | tup xs =>
  obtain ⟨a, vs, rfl, h1, h2⟩ := r3
  cases hw : znn xs l u with
  | true => simp only [gSl, hw, cond_true] at q3; exact q3.elim
  | false =>
   simp only [gSl, hw, cond_false] at q3
   refine .inr ⟨a, vs, rfl, zay.sqT s3.e h1, by rw [<- h2.length]; exact of_decide_eq_false hw, fun pp hp => ?_⟩
   have sp := zbk.pub (o := .tup (zoL vs l u)) s3.e hp
   exact (show zao X.K X.mg Q G H (.tup (zme xs l u)) from q3) _ _ _ (s.trans sp) ⟨pp, _, rfl, SqT.of zap, (h2.cut l u).mono sp.g⟩
 | _ => exact (show False from q3).elim
end
def zqz (c : Str) (fs : DSt -> R (List D)) : DSt -> R Out := fun O => (fs O).bind fun ds => bif few ds.length then .err (.exc c []) else .bad
section
variable {P : Program} {w : World} {K : xFg} {mg : Str -> Option Value} {base : Heap} {N : List Str} {qual : Str} {scope : Scope} {f : Addr} {cdv : Value} {A : Around} {outer : List Env} {s0 : Shared} {H0 : Hp} {E : XK} {own own' ol : List Nat}
theorem zpA {x : Str} {C : Addr} {e0 : Expr} {zce : List Expr} {np cpos pos : Pos} {fs : DSt -> R (List D)} (q : PySem.W.excIn K C [.type "ValueError", .type "Exception", .type "BaseException", .type "object"] "ValueError.__new__" = true) (hx : zoN K mg x C)
  (ha : DA (zgQ (CXe P w) P w K mg base N qual scope f cdv A outer s0 H0 E) E (e0 :: zce) fs) (hg : Gl (zgQ (CXe P w) P w K mg base N qual scope f cdv A outer s0 H0 E) x := by rfl)
  (hdb : (x == ("__debug__" : Str)) = false := by decide)
  (he : starEach (e0 :: zce) (envOfC qual scope s0.heap.objs.size f cdv) = (false, eval e0 (envOfC qual scope s0.heap.objs.size f cdv)) :: starEach zce (envOfC qual scope s0.heap.objs.size f cdv) := by rfl)
  (hpl : (backTo cpos (starEach zce (envOfC qual scope s0.heap.objs.size f cdv))).any (·.1) = false := by rfl) :
  DS (zgQ (CXe P w) P w K mg base N qual scope f cdv A outer s0 H0 E) E own own' ol (.Raise (some (.Call (.Name x np) (e0 :: zce) [] cpos)) none pos) (zqz x fs) := fun G0 =>
 PS.mono' (zo9 q hg hx.here ha hdb he hpl) fun Dn O H ⟨G, Od, ok, s1, z⟩ => by
 have sp := ok.pubStep s1
 refine ⟨_, Od, ok.pub.1, z.of_bind.mono (fun ds _ z vs G' H' s r => ?_) fun _ z => z.step sp⟩
 cases hf : few ds.length with
 | false => rw [hf] at z; exact (show False from z).elim
 | true =>
  rw [hf] at z
  refine ⟨by rw [<- r.length]; exact zm2 hf, ?_⟩
  exact (show zaI K mg E G0 H0 (.exc x []) from z) G' H' C none (sp.trans s) ⟨x, [], [], rfl, hx, .inl ⟨rfl, rfl⟩, Reps.nil⟩
end
def zjR (c : Str) : DSt -> R Out := fun _ => .err (.exc c [])
theorem zno {P : Program} {w : World} {K : xFg} {mg : Str -> Option Value} {base : Heap} {N : List Str} {qual : Str} {scope : Scope} {f : Addr} {cdv : Value} {A : Around} {outer : List Env} {s0 : Shared} {H0 : Hp} {E : XK} {own own' ol : List Nat} {x t : Str} {C : Addr} {np cpos pos tp : Pos} {j} (q : PySem.W.excIn K C [.type "ValueError", .type "Exception", .type "BaseException", .type "object"] "ValueError.__new__" = true) (hx : zoN K mg x C)
  (hg : Gl (zgQ (CXe P w) P w K mg base N qual scope f cdv A outer s0 H0 E) x := by rfl) (hdb : (x == ("__debug__" : Str)) = false := by decide) :
  DS (zgQ (CXe P w) P w K mg base N qual scope f cdv A outer s0 H0 E) E own own' ol (.Raise (some (.Call (.Name x np) [.Constant (.str t) j tp] [] cpos)) none pos) (zjR x) :=
 zpA (fs := zaa (eC (.str t)) zak) q hx (zaB zmX zbF) hg hdb
section
variable (K : xFg) (mg : Str -> Option Value)
def tSX (G0 H0 : Hp) (f : DSt -> R Out) : TSX := fun Dn E O H => ∃ G Od, Ok0 K mg Od O G H /\ zbk G0 H0 G H /\ RW (f Od) (ze4 K mg G0 H0 [] [] Dn G) (zaI K mg E G H)
end
def DSX (X : Cx) (st : Stmt) (f : DSt -> R Out) : Prop := ∀ G0, PSX X (CXe X.prog X.w) st (tSX X.K X.mg G0 X.H₀ f)
def DSXs (X : Cx) (st : List Stmt) (f : DSt -> R Out) : Prop := ∀ G0, zwi X (CXe X.prog X.w) st (tSX X.K X.mg G0 X.H₀ f)
theorem PSX.mono' {X : Cx} {CX : CXT} {st : Stmt} {t t' : TSX} (h : PSX X CX st t) (m : ∀ D E O H, t' D E O H -> t D E O H) : PSX X CX st t' := fun pins s O H D E I q => h pins s O H D E I (m D E O H q)
section
variable {X : Cx} {ol : List Nat} {k : Nat} {x y : Str} {m : List D -> R D} {p pos cpos npos : Pos} {e : Expr} {es : List Expr} {fs : DSt -> R (List D)} {f g : DSt -> R Out}
theorem zpB {st : Stmt} (h : DSX X st f) : DSXs X [st] f := fun G0 => zpc (h G0)
def zkz (m : List D -> R D) (fs : DSt -> R (List D)) : DSt -> R D := fun O => (fs O).noerr.bind m
theorem zpC {G0 G H : Hp} {Od : DSt} {O : L2.St} {Q : VK} {E : XK} {S : D -> R Out} {PO : Out -> Prop} (ok : Ok0 X.K X.mg Od O G H) (q : RW ((zkz m fs Od).bind S) PO (zaI X.K X.mg E G H))
  (h : ∀ d v G' H', zbk G H G' H' -> Rep X.K X.mg G' d v -> RW (S d) PO (zaI X.K X.mg E G H) -> Q v H') : ztR (spD X.K X.mg m) [] (tAr X.K X.mg E0 fs) O H Q E := by
 obtain ⟨ds, e1, q⟩ := zcE q.of_bind.of_bind
 refine ⟨G, Od, ok, RW.ok_of e1 fun vs G' H' s r => ?_⟩
 show spD X.K X.mg m (vs ++ []) H' _ E
 rw [xb7]
 exact ⟨G', ds, s.e, r, q.mono (fun d _ z v G2 H2 s2 r2 => h d v G2 H2 (s.trans s2) r2 z) fun _ z => z.step s⟩
theorem zpD (hr : zfA k X.A) (F : zaF X.prog X.w X.K X.mg X.base k x m) (ha : DA X.nox E0 (e :: es) fs) (hg : Gl X x := by rfl) (hdb : (x == ("__debug__" : Str)) = false := by decide)
  (he : starEach (e :: es) X.env = (false, eval e X.env) :: starEach es X.env := by rfl) (hpl : (backTo cpos (starEach es X.env)).any (·.1) = false := by rfl) (hs : swapsWith (.Call (.Name x p) (e :: es) [] cpos) none pos.line X.env = pure false := by rfl) :
  DSX X (.Expr (.Call (.Name x p) (e :: es) [] cpos) pos) (zjK (zkz m fs)) := fun G0 => by
 obtain ⟨fa, fd, ps, h1, h2, h3, h4⟩ := F.ex
 refine PSX.mono' (zpb (zpa (dvs := []) (ds := []) h1 hr hg h2 h3 h4 .nil ha hdb he hpl) hs) fun Dn E O H ⟨G, Od, ok, s0, q⟩ => ?_
 exact zpC (G0 := G0) ok q fun d v G' H' s r z => (show ze4 X.K X.mg G0 X.H₀ [] [] Dn G (.nx Od) from z) O G' H' (.zero (ok.step s)) (s0.trans s) s.g
def zvD (i : Nat) (c : Str) (body hnd : DSt -> R Out) : DSt -> R Out := fun O => match body O with
 | .ok o => .ok o
 | .err (.exc cc as) => bif zjz cc c == some true then (hnd (O.set i (some (.exc cc as)))).noerr.bind fun o => match o with
   | .nx O' => .ok (.nx (O'.set i none))
   | _ => .bad
  else .bad
 | _ => .bad
theorem Ok.unset {K : xFg} {mg : Str -> Option Value} {H0 G H : Hp} {Od : DSt} {O : L2.St} {i : Nat} {own : List Nat} (o : Ok K mg H0 own Od O G H) (hi : i ∉ own) : Ok K mg H0 own (Od.set i none) (O.set i none) G H := by
 have back : ∀ {j : Nat} {d : D}, (Od.set i none)[j]? = some (some d) -> j ≠ i /\ Od[j]? = some (some d) := fun {j d} q => by
  by_cases hj : j = i
  ·subst hj
   have hl : j < Od.length := by have := (xaj.mp q).1; simpa using this
   rw [xa0 hl] at q; cases q
  ·rw [xal (xax hj)] at q; exact ⟨hj, q⟩
 refine ⟨o.ext, by simp [o.len], fun j d hj q => ?_, fun j d hj q => ?_, fun j l a d1 d2 h1 h2 h3 h4 h5 h6 => ?_⟩
 ·obtain ⟨hj', q'⟩ := back q
  rw [xal (xax hj')]; exact o.val j d hj q'
 ·obtain ⟨hj', q'⟩ := back q
  rw [xal (xax hj')]; exact o.mine j d hj q'
 ·obtain ⟨hj', q3⟩ := back h3
  obtain ⟨hl', q4⟩ := back h4
  rw [xal (xax hj')] at h5
  rw [xal (xax hl')] at h6
  exact o.dj j l a d1 d2 h1 h2 q3 q4 h5 h6
theorem zuU (i : Nat) {E : XK} {body : List Stmt} {c n : Str} {np hpos : Pos} {b0 : Stmt} {suite : List Stmt} {Dc : Addr} (hst : X.stack = X.env :: X.outer) (hf : X.env.frame = some X.env.locals) (hN : X.N.Nodup)
  (hm : X.mg c = some (.ref Dc)) (hb : DSXs X body f) (hh : ∀ x, DSs (hdl X x) E0 [] [] [] (b0 :: suite) g) (hi : X.N[i]? = some n := by rfl) (hn : X.env.scope.names.lookup n = some .local := by rfl) (hg : Gl X c := by rfl)
  (hdb : (c == ("__debug__" : Str)) = false := by decide) : DS X E [] [] [] (.Try body [.ExceptHandler (some (.Name c np)) (some n) (b0 :: suite) hpos] [] [] pos) (zvD i c f g) := fun G0 =>
 PS.mono' (ztS (th := tS X.K X.mg E0 G0 X.H₀ [] [] [] g) hst hf hN hi hn hg hm (hb G0) (fun x => hh x G0) hdb) fun Dn O H ⟨G, Od, ok, s0, q⟩ => by
 have ok0 : Ok0 X.K X.mg Od O G H := by have := ok.masked; rw [zfJ] at this; exact this
 unfold zvD at q
 cases hbd : f Od with
 | bad => rw [hbd] at q; exact (show False from q).elim
 | ok o =>
  rw [hbd] at q
  exact ⟨fun _ _ _ => False, ⟨G, Od, ok0, s0, RW.ok_of hbd q⟩, fun C dct H' x z => z.elim⟩
 | err ex =>
  rw [hbd] at q
  cases ex with
  | exc cc as =>
   cases hsub : (zjz cc c == some true) with
   | false => simp only [hsub, cond_false] at q; exact q.elim
   | true =>
    simp only [hsub, cond_true] at q
    obtain ⟨o, ho1, q⟩ := zcE q.of_bind
    refine ⟨fun cv dct H' => ∃ C G', cv = .ref C /\ zbk G H G' H' /\ ExcR X.K X.mg G' (.exc cc as) C dct, ⟨G, Od, ok0, s0, ?_⟩, ?_⟩
    ·rw [hbd]
     exact fun G' H' C dct s r => ⟨C, G', rfl, s, r⟩
    ·rintro C dct H' x ⟨C', G', e1, s', hr⟩ nx
     cases e1
     obtain ⟨c2, as2, vs, e2, hxc, hd, hrs⟩ := hr
     cases e2
     refine ⟨hxc.ctc c Dc (eq_of_beq hsub) hm, ?_⟩
     have sp := zbk.pub (o := zoM x C dct) s'.e nx
     have st := s'.trans sp
     refine ⟨_, Od.set i (some (.exc cc as)), .zero ((ok0.step st).set ⟨x, C, dct, vs, rfl, zap, hxc, hd.mono sp.g, hrs.mono sp.g⟩), s0.trans st, RW.ok_of ho1 ?_⟩
     cases o with
     | nx O1 =>
      have q' : ze4 X.K X.mg G0 X.H₀ [] [] Dn G (.nx (O1.set i none)) := q
      exact fun O2 G2 H2 ok2 s2 e2 => q' _ G2 H2 (ok2.unset (by simp)) s2 (st.g.trans e2)
     | _ => exact (show False from q).elim
  | _ => exact (show False from q).elim
end
end DL
namespace DL
open L2 PyProof.Rows
theorem zaD {n nN : Nat} {b : DSt -> R Out} {ds : List D} {O : DSt} (hl : ds.length = n) (hs : zcf nN ds = O) : fnM n nN b ds = fin (b O) := by
 subst hl; subst hs; unfold fnM; rw [beq_self_eq_true]; rfl
theorem de_k {X : Cx} {E : XK} {x : Str} {d : D} {pos : Pos} (h : ∃ u v, X.mg x = some u /\ zbf v u /\ ∀ G, Rep X.K X.mg G d v) (hg : Gl X x := by rfl) (hd : (x == ("__debug__" : Str)) = false := by decide) : DE X E (.Name x pos) (eC d) := by
 obtain ⟨u, v, h1, h2, h3⟩ := h
 exact zmY h1 h2 h3 hg hd
section
variable {K : xFg} {mg : Str -> Option Value}
def zh1 (c d : Str) : Bool := c == d || d == "ChalkError"
def za8 (K : xFg) (mg : Str -> Option Value) (C : Addr) (d : Str) (b : Bool) : Prop :=
 (∀ D, mg d = some (.ref D) -> PySem.W.kitOne K (.ref C) (.ref D) = some b) /\ (b = true -> ∀ D, mg d = some (.ref D) -> PySem.W.exmOne K (.ref C) (.ref D) = some true)
theorem zoN.mk' {c : Str} {C : Addr} (here : mg c = some (.ref C)) (exc : zs5 K C) (val : PySem.W.kitOne K (.ref C) (.type "ValueError") = some true) (rows : ∀ d ∈ zcC, za8 K mg C d (zh1 c d)) : zoN K mg c C := by
 have sub : ∀ d b, zjz c d = some b -> d ∈ zcC /\ b = zh1 c d := fun d b h => by
  unfold zjz at h
  cases hc : (zcC.contains c && zcC.contains d) with
  | false => rw [hc] at h; cases h
  | true =>
   rw [hc] at h
   have h' : some (c == d || d == "ChalkError") = some b := h
   rw [xay] at hc
   exact ⟨by simpa using hc.2, by cases h'; rfl⟩
 refine ⟨here, exc, fun d Dd b h hd => ?_, val, fun d Dd h hd => ?_⟩
 ·obtain ⟨h1, rfl⟩ := sub d b h
  exact (rows d h1).1 Dd hd
 ·obtain ⟨h1, h2⟩ := sub d true h
  exact (rows d h1).2 h2.symm Dd hd
theorem zuV {c : Str} {C : Addr} (r0 : za8 K mg C "ChalkError" (zh1 c "ChalkError")) (r1 : za8 K mg C "NoPlace" (zh1 c "NoPlace")) (r2 : za8 K mg C "Same" (zh1 c "Same")) (r3 : za8 K mg C "NoFloor" (zh1 c "NoFloor")) (r4 : za8 K mg C "Endless" (zh1 c "Endless"))
  (r5 : za8 K mg C "NoDeed" (zh1 c "NoDeed")) (r6 : za8 K mg C "NoText" (zh1 c "NoText")) (r7 : za8 K mg C "NoName" (zh1 c "NoName")) (r8 : za8 K mg C "TooMany" (zh1 c "TooMany")) (r9 : za8 K mg C "NoChange" (zh1 c "NoChange")) (r10 : za8 K mg C "NoFrame" (zh1 c "NoFrame"))
  (r11 : za8 K mg C "NoValue" (zh1 c "NoValue")) (r12 : za8 K mg C "Unlike" (zh1 c "Unlike")) (r13 : za8 K mg C "NoRatio" (zh1 c "NoRatio")) (r14 : za8 K mg C "NoBow" (zh1 c "NoBow")) (r15 : za8 K mg C "NoRow" (zh1 c "NoRow")) : ∀ d ∈ zcC, za8 K mg C d (zh1 c d) := by
 intro d hd
 simp only [zcC, xaf, xaq, or_false] at hd
 rcases hd with rfl | rfl | rfl | rfl | rfl | rfl | rfl | rfl | rfl | rfl | rfl | rfl | rfl | rfl | rfl | rfl <;> assumption
theorem za8.of {C D0 : Addr} {d : Str} {b : Bool} (h : mg d = some (.ref D0)) (t : PySem.W.kitOne K (.ref C) (.ref D0) = some b) (u : b = true -> PySem.W.exmOne K (.ref C) (.ref D0) = some true) : za8 K mg C d b :=
 ⟨fun D hD => by rw [h] at hD; cases hD; exact t, fun hb D hD => by rw [h] at hD; cases hD; exact u hb⟩
theorem za8.no {C : Addr} {d : Str} {b : Bool} (h : mg d = none) : za8 K mg C d b := ⟨fun D hD => (by rw [h] at hD; cases hD), fun _ D hD => (by rw [h] at hD; cases hD)⟩
end
section
variable {P : Program} {w : World} {K : xFg} {mg : Str -> Option Value} {base : Heap}
theorem zso {x qual : Str} {st : Stmt} {f : Addr} {fd : FuncData} {N ps : List Str} {k n nN : Nat} {own' : List Nat} {body : DSt -> R Out} (F : Fun K x qual st f fd) (S : zdg N ps (zah st))
  (hn : ps.length = n) (hN : N.length = nN)
  (hb : ∀ (X : Cx) (E : XK), (∃ cdv A outer s H, X = zgQ (CXe P w) P w K mg base N qual (zah st) f cdv A outer s H E) -> XC X E k -> XL X -> DSs X E [] own' [] (zbC st) body) : zgR P w K mg base (CXe P w) (k + 1) f fd ps (spD K mg (fnM n nN body)) := by
 refine F.okX S (fun vs H Q E h => ?_) (fun cdv A outer s H vs Q E hr hsp => ?_)
 ·obtain ⟨G, ds, e, r, q⟩ := h
  by_cases hd : ds.length = n
  ·rw [<- r.length, hd, hn]
  ·have : (ds.length == n) = false := by simpa using hd
   unfold fnM at q
   rw [this] at q
   exact (show False from q).elim
 ·obtain ⟨G, ds, e, r, q⟩ := hsp
  have hd : ds.length = n := by
   by_cases hd : ds.length = n
   ·exact hd
   ·have : (ds.length == n) = false := by simpa using hd
    unfold fnM at q
    rw [this] at q
    exact (show False from q).elim
  unfold fnM at q
  rw [show (ds.length == n) = true by simpa using hd] at q
  have q' : RW (fin (body (zcf nN ds))) (zao K mg Q G H) (zaI K mg E G H) := q
  refine ⟨_, hb _ E ⟨cdv, A, outer, s, H, rfl⟩ ⟨rfl, hr, zrS⟩ ⟨PassesOwn.leaving⟩ G, G, zcf nN ds, ?_, .refl e, ?_⟩
  ·have := Reps.startOk e (N.length - vs.length) r
   unfold L2.start zcf
   rw [<- hN, r.length]
   exact .zero this
  ·cases hbd : body (zcf nN ds) with
   | bad => rw [hbd] at q'; exact q'
   | err e => rw [hbd] at q'; exact q'
   | ok o =>
    rw [hbd] at q'
    cases o with
    | rt d => exact fun v G' H' s r => (show zao K mg Q G H d from q') v G' H' s r
    | rf es =>
     intro a vs G' H' s n e g r
     have q2 : zao K mg Q G H (.lst es) := q'
     have sg : zay G' (upd G' a (.lst vs)) := zci g
     refine q2 (.ref a) (upd G' a (.lst vs)) H' ⟨s.g.trans sg, s.h, fun b u p => ?_, fun b u p1 p2 => ?_⟩ ⟨a, vs, rfl, SqL.of zap, r.mono sg⟩
     ·by_cases hb : b = a
      ·subst hb; rw [zap] at p; cases p; exact e
      ·rw [zam hb] at p; exact s.e b u p
     ·have hb : b ≠ a := zai p1 n
      rw [zam hb]; exact s.c b u p1 p2
    | nx O => exact fun O' G' H' ok s _ => (show zao K mg Q G H .non from q') .non G' H' s rfl
    | bk O => exact (show False from q').elim
    | ct O => exact (show False from q').elim
def zpE (K : xFg) : Sp := fun vs H Q _ => ∃ (a : Addr) (ns : List Int), vs = [.ref a] /\ SqL K H a (ns.map V.int) /\ ns.length <= 63 /\ ∀ H', Q (.bl true) H'
theorem zuW {k : Nat} {f : Addr} {fd : FuncData} {m : List D -> R D} (F : zgR P w K mg base (CXe P w) k f fd ["_law_script"] (spD K mg m)) (hm : ∀ ns : List Int, ns.length <= 63 -> m [.lst (ns.map .int)] = .ok (.bl true)) :
  zgR P w K mg base (CXe P w) k f fd ["_law_script"] (zpE K) := F.imp fun vs H Q E h => by
 obtain ⟨a, ns, rfl, hS, hl, q⟩ := h
 refine ⟨H, [.lst (ns.map .int)], zay.refl _, Reps.cons ⟨a, _, rfl, hS, Reps.ints ns⟩ Reps.nil, RW.ok_of (hm ns hl) fun v G' H' s r => ?_⟩
 cases r; exact q H'
end
theorem walkD {l : PySem.W.OpenLaw} {q : Program} {loose : List Str} {XP : (Str -> Option Value) -> Heap -> Prop} {YP : World -> Heap -> Prop} {d : DefRec} {K : Params -> xFg} (k : Nat) (hr : zfA k callerA) (hn : l.most = some 63) (hdf : d.params.defaults = [])
  (hY : ∀ (w : World) (h : Heap), YP w h -> (K w.params).In h)
  (F : ∀ (w : World) (mg : Str -> Option Value) (fa : Addr) (h : Heap), (K w.params).In h -> h.Ns mainGlobals mg -> mg d.name = some (.ref fa) ->
   ∃ fd : FuncData, (∀ (s : Shared) (u : Value), BindsTo s fd ⟨[u], []⟩ [("_law_script", u)]) /\ ∀ base : Heap, (K w.params).In base -> base.Ns mainGlobals mg -> zgR l.prog w (K w.params) mg base (CXe l.prog w) k fa fd ["_law_script"] (zpE (K w.params))) :
  PySem.W.WalkO q loose XP YP l.row.toRowW d [] (fun f vs => PySem.call f vs) :=
 L2.walk_of (n := 63) (k := k) (x := "_law_script") (CX := fun w => CXe l.prog w) (sp := fun w => zpE (K w.params)) hn (by decide) hdf hr hY F (fun _ _ a ns hl _ hS => ⟨a, ns, rfl, hS, hl, fun _ => rfl⟩) fun w H s e s' z => by
  obtain ⟨_, _, _, _, _, _, _, _, _, _, _, _, _, z⟩ := z
  exact z.elim
end DL
namespace DL
open L2
def zqA (r : R Out) (g : DSt -> R Out) : R Out := r.bind fun o => match o with
 | .nx O' => g O'
 | o => .ok o
theorem zkA (f g : DSt -> R Out) (O : DSt) : zaC f g O = zqA (f O) g := rfl
theorem zjS (O : DSt) (g : DSt -> R Out) : zqA (.ok (.nx O)) g = g O := rfl
theorem znp (d : D) (g : DSt -> R Out) : zqA (.ok (.rt d)) g = .ok (.rt d) := rfl
theorem znq (O : DSt) (g : DSt -> R Out) : zqA (.ok (.bk O)) g = .ok (.bk O) := rfl
theorem znr (O : DSt) (g : DSt -> R Out) : zqA (.ok (.ct O)) g = .ok (.ct O) := rfl
theorem zkB (e : D) (g : DSt -> R Out) : zqA (.err e) g = .err e := rfl
theorem ziS (O : DSt) : zbq O = .ok (.nx O) := rfl
theorem ziT (d : D) (O : DSt) : zae 0 (some d :: O) = .ok d := rfl
theorem ziU (n : Nat) (x : Option D) (O : DSt) : zae (n + 1) (x :: O) = zae n O := rfl
theorem zqB (d : D) (O : DSt) : eC d O = .ok d := rfl
def opK (g : D -> D -> R D) (a b : R D) : R D := a.bind fun x => b.bind fun y => g x y
theorem zns (g : D -> D -> R D) (fa fb : DSt -> R D) (O : DSt) : eOp g fa fb O = opK g (fa O) (fb O) := rfl
theorem znt (g : D -> D -> R D) (x y : D) : opK g (.ok x) (.ok y) = g x y := rfl
def unK (g : D -> R D) (a : R D) : R D := a.bind g
theorem znu (g : D -> R D) (fa : DSt -> R D) (O : DSt) : eUn g fa O = unK g (fa O) := rfl
theorem zqC (g : D -> R D) (x : D) : unK g (.ok x) = g x := rfl
def zsp (m : List D -> R D) (a : R (List D)) : R D := a.bind m
theorem zgf (m : List D -> R D) (fs : DSt -> R (List D)) (O : DSt) : zat m fs O = zsp m (fs O) := rfl
theorem zkC (m : List D -> R D) (ds : List D) : zsp m (.ok ds) = m ds := rfl
theorem ziV (m : List D -> R D) (e : D) : zsp m (.err e) = .err e := rfl
def zqD (m : List D -> R D) (a : R (List D)) : R D := a.noerr.bind m
theorem zhh (m : List D -> R D) (fs : DSt -> R (List D)) (O : DSt) : zkz m fs O = zqD m (fs O) := rfl
theorem ziW (m : List D -> R D) (ds : List D) : zqD m (.ok ds) = m ds := rfl
def bltK (g : List D -> R D) (a : R (List D)) : R D := a.bind fun ds => (g ds).noerr
theorem zkD (g : List D -> R D) (fs : DSt -> R (List D)) (O : DSt) : zcD g fs O = bltK g (fs O) := rfl
theorem znv (g : List D -> R D) (ds : List D) : bltK g (.ok ds) = (g ds).noerr := rfl
def zuX (g : List D -> R (List D)) (a : R (List D)) : R (List D) := a.bind fun ds => (g ds).noerr
theorem ziX (g : List D -> R (List D)) (fs : DSt -> R (List D)) (O : DSt) : zlU g fs O = zuX g (fs O) := rfl
theorem zkE (g : List D -> R (List D)) (ds : List D) : zuX g (.ok ds) = (g ds).noerr := rfl
theorem ziY {α : Type} (a : α) : (R.ok a).noerr = .ok a := rfl
theorem zkF (O : DSt) : zak O = .ok [] := rfl
def zsq (a : R D) (b : R (List D)) : R (List D) := a.bind fun x => b.bind fun xs => .ok (x :: xs)
theorem zgg (fa : DSt -> R D) (fs : DSt -> R (List D)) (O : DSt) : zaa fa fs O = zsq (fa O) (fs O) := rfl
theorem zkG (x : D) (xs : List D) : zsq (.ok x) (.ok xs) = .ok (x :: xs) := rfl
theorem ziZ (e : D) (b : R (List D)) : zsq (.err e) b = .err e := rfl
def zpF (a : R (List D)) : R D := a.bind fun ds => bif few ds.length then .ok (.tup ds) else .bad
theorem zkH (fs : DSt -> R (List D)) (O : DSt) : zfl fs O = zpF (fs O) := rfl
theorem zqE : zpF (.ok []) = .ok (.tup []) := rfl
theorem zqF (a : D) : zpF (.ok [a]) = .ok (.tup [a]) := rfl
theorem zqG (a b : D) : zpF (.ok [a, b]) = .ok (.tup [a, b]) := rfl
theorem zqH (a b c : D) : zpF (.ok [a, b, c]) = .ok (.tup [a, b, c]) := rfl
theorem zqI (a b c d : D) : zpF (.ok [a, b, c, d]) = .ok (.tup [a, b, c, d]) := rfl
theorem zqJ (a b c d e : D) : zpF (.ok [a, b, c, d, e]) = .ok (.tup [a, b, c, d, e]) := rfl
theorem zqK (a b c d e f : D) : zpF (.ok [a, b, c, d, e, f]) = .ok (.tup [a, b, c, d, e, f]) := rfl
theorem zqL (a b c d e f g h i : D) : zpF (.ok [a, b, c, d, e, f, g, h, i]) = .ok (.tup [a, b, c, d, e, f, g, h, i]) := rfl
def zpG (a : R (List D)) : R (List D) := a.bind fun ds => bif few ds.length then .ok ds else .bad
theorem zkI (fs : DSt -> R (List D)) (O : DSt) : zfD fs O = zpG (fs O) := rfl
theorem zqM : zpG (.ok []) = .ok [] := rfl
theorem zqN (a : D) : zpG (.ok [a]) = .ok [a] := rfl
theorem zqO (a b : D) : zpG (.ok [a, b]) = .ok [a, b] := rfl
theorem zqP (a b c : D) : zpG (.ok [a, b, c]) = .ok [a, b, c] := rfl
theorem zqQ (a b c d : D) : zpG (.ok [a, b, c, d]) = .ok [a, b, c, d] := rfl
theorem zqR (a b c d e : D) : zpG (.ok [a, b, c, d, e]) = .ok [a, b, c, d, e] := rfl
theorem zqS (a b c d e f : D) : zpG (.ok [a, b, c, d, e, f]) = .ok [a, b, c, d, e, f] := rfl
def zsr (a : R (List D)) : R D := a.bind fun ds => .ok (.lst ds)
theorem zkJ (fl : DSt -> R (List D)) (O : DSt) : zdi fl O = zsr (fl O) := rfl
theorem zkK (ds : List D) : zsr (.ok ds) = .ok (.lst ds) := rfl
def zuY (a : R D) : R Bool := a.bind asB
theorem zi0 (f : DSt -> R D) (O : DSt) : zaw f O = zuY (f O) := rfl
theorem zkL (b : Bool) : zuY (.ok (.bl b)) = .ok b := rfl
def zwN (a : R Bool) (fb : DSt -> R Bool) (O : DSt) : R Bool := a.bind fun k => bif k then fb O else .ok false
theorem zkM (fa fb : DSt -> R Bool) (O : DSt) : zr8 fa fb O = zwN (fa O) fb O := rfl
theorem zqT (fb : DSt -> R Bool) (O : DSt) : zwN (.ok true) fb O = fb O := rfl
theorem zqU (fb : DSt -> R Bool) (O : DSt) : zwN (.ok false) fb O = .ok false := rfl
def orK (a : R Bool) (fb : DSt -> R Bool) (O : DSt) : R Bool := a.bind fun k => bif k then .ok true else fb O
theorem znw (fa fb : DSt -> R Bool) (O : DSt) : eOr fa fb O = orK (fa O) fb O := rfl
theorem zuZ (fb : DSt -> R Bool) (O : DSt) : orK (.ok true) fb O = .ok true := rfl
theorem zu0 (fb : DSt -> R Bool) (O : DSt) : orK (.ok false) fb O = fb O := rfl
def notK (a : R Bool) : R Bool := a.bind fun k => .ok (!k)
theorem zkN (fa : DSt -> R Bool) (O : DSt) : zjG fa O = notK (fa O) := rfl
theorem znx (b : Bool) : notK (.ok b) = .ok (!b) := rfl
def zss (a : R D) (fb : DSt -> R D) (O : DSt) : R D := a.bind fun x => (asB x).bind fun k => bif k then fb O else .ok (.bl false)
theorem zkO (fa fb : DSt -> R D) (O : DSt) : zpq fa fb O = zss (fa O) fb O := rfl
theorem zny (fb : DSt -> R D) (O : DSt) : zss (.ok (.bl true)) fb O = fb O := rfl
theorem znz (fb : DSt -> R D) (O : DSt) : zss (.ok (.bl false)) fb O = .ok (.bl false) := rfl
def zwO (a : R D) (fb : DSt -> R D) (O : DSt) : R D := a.bind fun x => (asB x).bind fun k => bif k then .ok (.bl true) else fb O
theorem znA (fa fb : DSt -> R D) (O : DSt) : vOr fa fb O = zwO (fa O) fb O := rfl
theorem zqV (fb : DSt -> R D) (O : DSt) : zwO (.ok (.bl true)) fb O = .ok (.bl true) := rfl
theorem zqW (fb : DSt -> R D) (O : DSt) : zwO (.ok (.bl false)) fb O = fb O := rfl
def zu1 (a : R D) : R D := a.bind fun x => (asB x).bind fun k => .ok (.bl !k)
theorem zkP (fa : DSt -> R D) (O : DSt) : zvx fa O = zu1 (fa O) := rfl
theorem zkQ (b : Bool) : zu1 (.ok (.bl b)) = .ok (.bl !b) := rfl
def zwP (c : R Bool) (fa fb : DSt -> R D) (O : DSt) : R D := c.bind fun k => bif k then fa O else fb O
theorem znB (c : DSt -> R Bool) (fa fb : DSt -> R D) (O : DSt) : eIf c fa fb O = zwP (c O) fa fb O := rfl
theorem zqX (fa fb : DSt -> R D) (O : DSt) : zwP (.ok true) fa fb O = fa O := rfl
theorem zqY (fa fb : DSt -> R D) (O : DSt) : zwP (.ok false) fa fb O = fb O := rfl
def ifK (c : R Bool) (f g : DSt -> R Out) (O : DSt) : R Out := c.bind fun k => bif k then f O else g O
theorem znC (c : DSt -> R Bool) (f g : DSt -> R Out) (O : DSt) : sIf c f g O = ifK (c O) f g O := rfl
theorem zst (f g : DSt -> R Out) (O : DSt) : ifK (.ok true) f g O = f O := rfl
theorem zsu (f g : DSt -> R Out) (O : DSt) : ifK (.ok false) f g O = g O := rfl
def zqZ (g g' : D -> D -> R D) (a b c : R D) : R D := a.bind fun x => b.bind fun y => (g x y).bind fun z => (asB z).bind fun k => bif k then c.bind fun w => g' y w else .ok (.bl false)
theorem zhi (g g' : D -> D -> R D) (fa fb fc : DSt -> R D) (O : DSt) : zhe g g' fa fb fc O = zqZ g g' (fa O) (fb O) (fc O) := rfl
theorem zhj (p q : Int -> Int -> Bool) (i j k : Int) : zqZ (gB p) (gB q) (.ok (.int i)) (.ok (.int j)) (.ok (.int k)) = .ok (.bl (p i j && q j k)) := by
 show (bif p i j then R.ok (D.bl (q j k)) else R.ok (D.bl false)) = _
 cases p i j <;> rfl
def appK (i : Nat) (l : R (List D)) (a : R D) (O : DSt) : R Out := l.bind fun ds => a.bind fun d => bif most ds.length then .ok (.nx (O.set i (some (.lst (ds ++ [d]))))) else .bad
theorem zkR (own : List Nat) (i : Nat) (fe : DSt -> R D) (O : DSt) : zqt own i fe O = appK i (zd9 O i) (fe (mask own O)) O := rfl
theorem zkS {n : Nat} (h : n <= 1000000) : most n = true := decide_eq_true (xbq h (by decide))
theorem zev (i : Nat) (ds : List D) (d : D) (O : DSt) (h : ds.length <= 1000000) : appK i (.ok ds) (.ok d) O = .ok (.nx (O.set i (some (.lst (ds ++ [d]))))) := by
 show (bif most ds.length then _ else _) = _
 rw [zkS h]; rfl
def zu2 (i : Nat) (l : R (List D)) (a : R D) (O : DSt) : R Out := l.bind fun ds => a.bind fun d => bif most ds.length && imm d then .ok (.nx (O.set i (some (.lst (ds ++ [d]))))) else .bad
theorem zi3 (i : Nat) (fe : DSt -> R D) (O : DSt) : zwD i fe O = zu2 i (zd9 O i) (fe O) O := rfl
theorem zpI (i : Nat) (ds : List D) (d : D) (O : DSt) (h : ds.length <= 1000000) (h' : imm d = true) : zu2 i (.ok ds) (.ok d) O = .ok (.nx (O.set i (some (.lst (ds ++ [d]))))) := by
 show (bif most ds.length && imm d then _ else _) = _
 rw [zkS h, h']; rfl
theorem zhk (ds : List D) (O : DSt) : zd9 (some (.lst ds) :: O) 0 = .ok ds := rfl
theorem zhl (x : Option D) (O : DSt) (n : Nat) : zd9 (x :: O) (n + 1) = zd9 O n := rfl
theorem zsv {i : Int} (h1 : -(10 ^ 100) <= i) (h2 : i <= 10 ^ 100) : zgT i = true := znf (n := 400) (B.of (k := 10 ^ 100) (by omega))
theorem zsw {i : Int} (h1 : -(10 ^ 100) <= i) (h2 : i <= 10 ^ 100) (h : i ≠ 0) : zng i = true := zjP (n := 400) (B.of (k := 10 ^ 100) (by omega)) h
def zvE (a : R D) : R Out := a.bind fun d => .ok (.rt d)
theorem zkT (fe : DSt -> R D) (O : DSt) : zbZ fe O = zvE (fe O) := rfl
theorem znD (d : D) : zvE (.ok d) = .ok (.rt d) := rfl
theorem zkU (e : D) : zvE (.err e) = .err e := rfl
def zsx (a : R D) (O : DSt) : R Out := a.bind fun _ => .ok (.nx O)
theorem zi4 (fe : DSt -> R D) (O : DSt) : zjK fe O = zsx (fe O) O := rfl
theorem zkV (d : D) (O : DSt) : zsx (.ok d) O = .ok (.nx O) := rfl
theorem zi5 (e : D) (O : DSt) : zsx (.err e) O = .err e := rfl
def zvF (i : Nat) (a : R D) (O : DSt) : R Out := a.bind fun d => .ok (.nx (O.set i (some d)))
theorem zi6 (i : Nat) (fe : DSt -> R D) (O : DSt) : zax i fe O = zvF i (fe O) O := rfl
theorem zkW (own : List Nat) (i : Nat) (fe : DSt -> R D) (O : DSt) : zjL own i fe O = zvF i (fe (mask own O)) O := rfl
theorem znE (i : Nat) (d : D) (O : DSt) : zvF i (.ok d) O = .ok (.nx (O.set i (some d))) := rfl
theorem zkX (i : Nat) (e : D) (O : DSt) : zvF i (.err e) O = .err e := rfl
def zu3 (i : Nat) (a : R D) (O : DSt) : R Out := a.bind fun d => bif imm d then .ok (.nx (O.set i (some d))) else .bad
theorem zgh (i : Nat) (fe : DSt -> R D) (O : DSt) : zna i fe O = zu3 i (fe O) O := rfl
theorem zh2 (i : Nat) (d : D) (O : DSt) (h : imm d = true) : zu3 i (.ok d) O = .ok (.nx (O.set i (some d))) := by
 show (bif imm d then _ else _) = _
 rw [h]; rfl
def newK (i : Nat) (a : R (List D)) (O : DSt) : R Out := a.bind fun ds => .ok (.nx (O.set i (some (.lst ds))))
theorem zkY (own : List Nat) (i : Nat) (fe : DSt -> R (List D)) (O : DSt) : znb own i fe O = newK i (fe (mask own O)) O := rfl
theorem znF (i : Nat) (ds : List D) (O : DSt) : newK i (.ok ds) O = .ok (.nx (O.set i (some (.lst ds)))) := rfl
def zu4 (ks : List Nat) (gp : D -> R (List D)) (a : R D) (O : DSt) : R Out := a.bind fun d => (gp d).noerr.bind fun us => .ok (.nx (setAll O ks us))
theorem zkZ (own ks : List Nat) (gp : D -> R (List D)) (fe : DSt -> R D) (O : DSt) : zuk own ks gp fe O = zu4 ks gp (fe (mask own O)) O := rfl
theorem znG (i j : Nat) (a b : D) (O : DSt) : zu4 [i, j] (zbM 2) (.ok (.tup [a, b])) O = .ok (.nx ((O.set i (some a)).set j (some b))) := rfl
theorem znH (i j : Nat) (a b : D) (O : DSt) : zu4 [i, j] (zbM 2) (.ok (.lst [a, b])) O = .ok (.nx ((O.set i (some a)).set j (some b))) := rfl
theorem znI (i j k : Nat) (a b c : D) (O : DSt) : zu4 [i, j, k] (zbM 3) (.ok (.tup [a, b, c])) O = .ok (.nx (((O.set i (some a)).set j (some b)).set k (some c))) := rfl
theorem znJ (i j k : Nat) (a b c : D) (O : DSt) : zu4 [i, j, k] (zbM 3) (.ok (.lst [a, b, c])) O = .ok (.nx (((O.set i (some a)).set j (some b)).set k (some c))) := rfl
def parK (i j : Nat) (a : R (List D)) (O : DSt) : R Out := a.bind fun ds => match ds with
 | [a, b] => .ok (.nx ((O.set i (some a)).set j (some b)))
 | _ => .bad
theorem zk0 (own : List Nat) (i j : Nat) (fs : DSt -> R (List D)) (O : DSt) : zwC own i j fs O = parK i j (fs (mask own O)) O := rfl
theorem znK (i j : Nat) (a b : D) (O : DSt) : parK i j (.ok [a, b]) O = .ok (.nx ((O.set i (some a)).set j (some b))) := rfl
def zq0 (c : Str) (a : R (List D)) : R Out := a.bind fun ds => bif few ds.length then .err (.exc c []) else .bad
theorem zhm (c : Str) (fs : DSt -> R (List D)) (O : DSt) : zqz c fs O = zq0 c (fs O) := rfl
theorem zk1 (c : Str) (a : D) : zq0 c (.ok [a]) = .err (.exc c []) := rfl
theorem zgi (c : Str) (O : DSt) : zjR c O = .err (.exc c []) := rfl
def zwQ (i : Nat) (c : Str) (r : R Out) (hnd : DSt -> R Out) (O : DSt) : R Out := match r with
 | .ok o => .ok o
 | .err (.exc cc as) => bif zjz cc c == some true then (hnd (O.set i (some (.exc cc as)))).noerr.bind fun o => match o with
   | .nx O' => .ok (.nx (O'.set i none))
   | _ => .bad
  else .bad
 | _ => .bad
theorem zk2 (i : Nat) (c : Str) (body hnd : DSt -> R Out) (O : DSt) : zvD i c body hnd O = zwQ i c (body O) hnd O := rfl
theorem znL (i : Nat) (c : Str) (o : Out) (hnd : DSt -> R Out) (O : DSt) : zwQ i c (.ok o) hnd O = .ok o := rfl
def zu5 (i : Nat) (r : R Out) : R Out := r.noerr.bind fun o => match o with
 | .nx O' => .ok (.nx (O'.set i none))
 | _ => .bad
theorem zk3 (i : Nat) (O : DSt) : zu5 i (.ok (.nx O)) = .ok (.nx (O.set i none)) := rfl
theorem zpJ (i : Nat) (c cc : Str) (as : List D) (hnd : DSt -> R Out) (O : DSt) (h : zjz cc c = some true) : zwQ i c (.err (.exc cc as)) hnd O = zu5 i (hnd (O.set i (some (.exc cc as)))) := by
 show (bif zjz cc c == some true then _ else _) = _
 rw [h]; rfl
theorem zq1 (d : D) : fin (.ok (.rt d)) = .ok d := rfl
theorem zq2 (O : DSt) : fin (.ok (.nx O)) = .ok .non := rfl
theorem znM (e : D) : fin (.err e) = .err e := rfl
theorem znN (i j : Int) : zcH (.int i) (.int j) = .ok (.int (i + j)) := rfl
theorem znO (i j : Int) : gSub (.int i) (.int j) = .ok (.int (i - j)) := rfl
theorem zag (i j : Int) (hi : zgT i = true) (hj : zgT j = true) : za1 (.int i) (.int j) = .ok (.int (i * j)) := by
 show (bif zgT i && zgT j then _ else _) = _
 rw [hi, hj]; rfl
theorem zi7 (i j : Int) (h : zng j = true) (h0 : 0 < j) : zes (.int i) (.int j) = .ok (.int (i / j)) := by
 show (bif zng j then R.ok (D.int (i.fdiv j)) else .bad) = _
 rw [h, Int.fdiv_eq_ediv_of_nonneg _ (Int.le_of_lt h0)]; rfl
theorem zbm (i j : Int) (h : zng j = true) : zes (.int i) (.int j) = .ok (.int (i.fdiv j)) := by
 show (bif zng j then _ else _) = _
 rw [h]; rfl
theorem zau (i j : Int) (h0 : 0 < j) : zeH (.int i) (.int j) = .ok (.int (i % j)) := by
 have : decide (j ≠ 0) = true := decide_eq_true (by omega)
 show (bif decide (j ≠ 0) then R.ok (D.int (i.fmod j)) else .bad) = _
 rw [this, Int.fmod_eq_emod_of_nonneg _ (Int.le_of_lt h0)]; rfl
theorem zsy (i j : Int) (h : zwE i j = true) : zsf (.int i) (.int j) = .ok (.int (i ^ j.toNat)) := by
 show (bif zwE i j then _ else _) = _
 rw [h]; rfl
theorem zsz (i j : Int) (h : 0 <= j) : gShr (.int i) (.int j) = .ok (.int (i / 2 ^ j.toNat)) := by
 show (bif decide (0 <= j) then _ else _) = _
 rw [decide_eq_true h]; rfl
theorem zq3 (i : Int) : zqv (.int i) = .ok (.int (-i)) := rfl
theorem zq4 (i j : Int) : gLt (.int i) (.int j) = .ok (.bl (decide (i < j))) := rfl
theorem zq5 (i j : Int) : gLe (.int i) (.int j) = .ok (.bl (decide (i <= j))) := rfl
theorem zq6 (i j : Int) : gGt (.int i) (.int j) = .ok (.bl (decide (j < i))) := rfl
theorem zq7 (i j : Int) : gGe (.int i) (.int j) = .ok (.bl (decide (j <= i))) := rfl
theorem zi8 {a b : D} (h : zlT a b = true) : gEq a b = .ok (.bl (eqD a b)) := by unfold gEq; rw [h]; rfl
theorem zk4 {a b : D} (h : zlT a b = true) : gNe a b = .ok (.bl (!eqD a b)) := by unfold gNe; rw [h]; rfl
theorem zec (i j : Int) : eqD (.int i) (.int j) = decide (i = j) := by unfold eqD; rfl
theorem zq8 (i j : Int) : gEq (.int i) (.int j) = .ok (.bl (decide (i = j))) := by rw [zi8 rfl, zec]
theorem zq9 (i j : Int) : gNe (.int i) (.int j) = .ok (.bl (!decide (i = j))) := by rw [zk4 rfl, zec]
theorem zra (i j : Bool) : gEq (.bl i) (.bl j) = .ok (.bl (i == j)) := by rw [zi8 rfl]; unfold eqD; rfl
theorem zrb (i j : Bool) : gNe (.bl i) (.bl j) = .ok (.bl (!(i == j))) := by rw [zk4 rfl]; unfold eqD; rfl
abbrev t3 (x y z : Int) : D := .tup [.int x, .int y, .int z]
abbrev l3 (x y z : Int) : D := .lst [.int x, .int y, .int z]
theorem zi9 : ∀ (ns ms : List Int), eqDs (ns.map D.int) (ms.map D.int) = decide (ns = ms)
 | [], [] => by unfold eqDs; rfl
 | [], _ :: _ => by unfold eqDs; rfl
 | _ :: _, [] => by unfold eqDs; rfl
 | n :: ns, m :: ms => by
  show eqDs (D.int n :: ns.map D.int) (D.int m :: ms.map D.int) = _
  unfold eqDs
  rw [zi9 ns ms, zec, xcl]
  simp
theorem zja (a b c x y z : Int) : eqD (t3 a b c) (t3 x y z) = decide (a = x /\ b = y /\ c = z) := by
 have := zi9 [a, b, c] [x, y, z]
 unfold eqD
 rw [show ([D.int a, .int b, .int c] : List D) = [a, b, c].map D.int from rfl, show ([D.int x, .int y, .int z] : List D) = [x, y, z].map D.int from rfl, this, xcl]
 simp
theorem zu6 (a b c x y z : Int) : eqD (l3 a b c) (l3 x y z) = decide (a = x /\ b = y /\ c = z) := by
 have := zja a b c x y z
 unfold eqD at this ⊢
 exact this
theorem zrc (a b c x y z : Int) : gEq (t3 a b c) (t3 x y z) = .ok (.bl (decide (a = x /\ b = y /\ c = z))) := by rw [zi8 rfl, zja]
theorem zrd (a b c x y z : Int) : gNe (t3 a b c) (t3 x y z) = .ok (.bl (!decide (a = x /\ b = y /\ c = z))) := by rw [zk4 rfl, zja]
theorem zre (a b c x y z : Int) : gEq (l3 a b c) (l3 x y z) = .ok (.bl (decide (a = x /\ b = y /\ c = z))) := by rw [zi8 rfl, zu6]
theorem zrf (a b : Bool) : gIs (.bl a) (.bl b) = .ok (.bl (a == b)) := rfl
theorem znP (a b : Bool) : zvA (.bl a) (.bl b) = .ok (.bl (a != b)) := rfl
theorem znQ (d : D) : gIs d .non = .ok (.bl (zjQ d)) := by cases d <;> rfl
theorem zk5 (d : D) : zvA d .non = .ok (.bl (!zjQ d)) := by cases d <;> rfl
theorem zk6 (a b c : D) : gIx (.tup [a, b, c]) (.int 0) = .ok a := rfl
theorem zk7 (a b c : D) : gIx (.tup [a, b, c]) (.int 1) = .ok b := rfl
theorem zk8 (a b c : D) : gIx (.tup [a, b, c]) (.int 2) = .ok c := rfl
theorem zk9 (a b c : D) : gIx (.lst [a, b, c]) (.int 0) = .ok a := rfl
theorem zla (a b c : D) : gIx (.lst [a, b, c]) (.int 1) = .ok b := rfl
theorem zlb (a b c : D) : gIx (.lst [a, b, c]) (.int 2) = .ok c := rfl
theorem zjT {xs : List D} {j : Nat} {d : D} (h : xs[j]? = some d) : gIx (.lst xs) (.int (j : Int)) = .ok d := by
 show (match atI xs (j : Int) with | some d => R.ok d | none => .bad) = _
 rw [zrL h]
theorem zpK (xs : List D) (d : D) : gIx (.lst (xs ++ [d])) (.int (-1)) = .ok d := by
 show (match atI (xs ++ [d]) (-1) with | some d => R.ok d | none => .bad) = _
 rw [zo1]
theorem zrg (xs : List D) : zh0 [.lst xs] = .ok (.int xs.length) := rfl
theorem znR : zh0 [.tup []] = .ok (.int 0) := rfl
theorem znS (a : D) : zh0 [.tup [a]] = .ok (.int 1) := rfl
theorem znT (a b : D) : zh0 [.tup [a, b]] = .ok (.int 2) := rfl
theorem znU (a b c : D) : zh0 [.tup [a, b, c]] = .ok (.int 3) := rfl
theorem znV (a b c d : D) : zh0 [.tup [a, b, c, d]] = .ok (.int 4) := rfl
theorem zrh (i : Int) : zqw [.int i] = .ok (.int (i.natAbs : Int)) := rfl
theorem znW (i j : Int) : gMin [.int i, .int j] = .ok (.int (min i j)) := rfl
theorem znX (i j : Int) : zvB [.int i, .int j] = .ok (.int (max i j)) := rfl
theorem zri (b : Bool) : gInt [.bl b] = .ok (.int (if b then 1 else 0)) := rfl
theorem zgj (i : Int) : g2 zet [.int i, .ty "int"] = .ok (.bl true) := rfl
theorem zfo (i : Int) : g2 zet [.int i, .ty "bool"] = .ok (.bl false) := rfl
theorem zgk (i : Bool) : g2 zet [.bl i, .ty "bool"] = .ok (.bl true) := rfl
theorem zhn (i : Bool) : g2 zet [.bl i, .ty "int"] = .ok (.bl true) := rfl
theorem zgl (xs : List D) : g2 zet [.tup xs, .ty "tuple"] = .ok (.bl true) := rfl
theorem zgm (xs : List D) : g2 zet [.lst xs, .ty "list"] = .ok (.bl true) := rfl
theorem zgn (xs : List D) : g2 zet [.lst xs, .ty "tuple"] = .ok (.bl false) := rfl
theorem zgo (xs : List D) : g2 zet [.tup xs, .ty "list"] = .ok (.bl false) := rfl
theorem znY {c d : Str} {b : Bool} (h : zjz c d = some b) : g2 zet [.exc c [], .cls d] = .ok (.bl b) := by
 show (match zjz c d with | some b => R.ok (D.bl b) | none => .bad) = _
 rw [h]
theorem zlc (c : Str) : g2 zet [.exc c [], .ty "ValueError"] = .ok (.bl true) := rfl
theorem zrj (j : Int) (h : rOk j = true) : zgS [.int j] = .ok (zm6 0 j.toNat) := by
 show (bif rOk j then _ else _) = _
 rw [h]; rfl
theorem zsA (i j : Int) (h : rOk i = true) (h' : rOk j = true) : rng2 [.int i, .int j] = .ok (zm6 i (j - i).toNat) := by
 show (bif rOk i && rOk j then _ else _) = _
 rw [h, h']; rfl
theorem zrk {i : Int} (h : -1000000000 <= i) (h' : i <= 1000000000) : rOk i = true := by
 unfold rOk
 rw [Nat.blt_eq]
 omega
def zu7 (g : List D -> R (List D)) (a : R (List D)) : R (List D) := a.bind g
theorem zjb (g : List D -> R (List D)) (fs : DSt -> R (List D)) (O : DSt) : zc2 g fs O = zu7 g (fs O) := (rfl)
theorem zld (g : List D -> R (List D)) (ds : List D) : zu7 g (.ok ds) = g ds := (rfl)
def zsB (a : R D) : R (List D) := a.bind zue
theorem zle (f : DSt -> R D) (O : DSt) : zhU f O = zsB (f O) := rfl
theorem znZ (xs : List D) : zsB (.ok (.tup xs)) = .ok xs := rfl
theorem zn0 (xs : List D) : zsB (.ok (.lst xs)) = .ok xs := rfl
def forK (ks : List Nat) (gp : D -> R (List D)) (fb : DSt -> R Out) (a : R (List D)) (O : DSt) : R Out := a.bind fun ds => zgb ks gp fb ds O
theorem zlf (own ks : List Nat) (gp : D -> R (List D)) (fi : DSt -> R (List D)) (fb : DSt -> R Out) (O : DSt) : zjA own ks gp fi fb O = forK ks gp fb (fi (mask own O)) O := rfl
theorem zn1 (ks : List Nat) (gp : D -> R (List D)) (fb : DSt -> R Out) (ds : List D) (O : DSt) : forK ks gp fb (.ok ds) O = zgb ks gp fb ds O := rfl
def zgU (r : R Out) (k : DSt -> R Out) : R Out := r.bind fun o => match o with
 | .nx O' => k O'
 | .ct O' => k O'
 | .bk O' => .ok (.nx O')
 | .rt d => .ok (.rt d)
 | .rf d => .ok (.rf d)
theorem zfO (O : DSt) (k : DSt -> R Out) : zgU (.ok (.nx O)) k = k O := rfl
theorem zlg (O : DSt) (k : DSt -> R Out) : zgU (.ok (.ct O)) k = k O := rfl
theorem zlh (O : DSt) (k : DSt -> R Out) : zgU (.ok (.bk O)) k = .ok (.nx O) := rfl
theorem zli (d : D) (k : DSt -> R Out) : zgU (.ok (.rt d)) k = .ok (.rt d) := rfl
theorem zjc (d : D) (k : DSt -> R Out) : zgU (.err d) k = .err d := rfl
theorem zlj (ks : List Nat) (gp : D -> R (List D)) (fb : DSt -> R Out) (O : DSt) : zgb ks gp fb [] O = .ok (.nx O) := rfl
theorem zd5 (i : Nat) (fb : DSt -> R Out) (d : D) (ds : List D) (O : DSt) : zgb [i] zaJ fb (d :: ds) O = zgU (fb (O.set i (some d))) (zgb [i] zaJ fb ds) := by
 show (fb (O.set i (some d))).bind _ = _
 unfold zgU
 cases fb (O.set i (some d)) with
 | ok o => cases o <;> rfl
 | err e => rfl
 | bad => rfl
theorem zlk {i : Nat} {fb : DSt -> R Out} (I : DSt -> Prop) : ∀ (ds : List D), (∀ d ∈ ds, ∀ O, I O -> ∃ O', (fb (O.set i (some d)) = .ok (.nx O') \/ fb (O.set i (some d)) = .ok (.ct O')) /\ I O') -> ∀ O, I O -> ∃ O', zgb [i] zaJ fb ds O = .ok (.nx O') /\ I O'
 | [], _, O, h => ⟨O, rfl, h⟩
 | d :: ds, hs, O, h => by
  obtain ⟨O1, h1, h2⟩ := hs d xan O h
  obtain ⟨O2, h3, h4⟩ := zlk I ds (fun d' hd => hs d' (xae _ hd)) O1 h2
  refine ⟨O2, ?_, h4⟩
  rw [zd5]
  rcases h1 with h1 | h1 <;> rw [h1]
  ·exact h3
  ·exact h3
theorem zll {i : Nat} {fb : DSt -> R Out} (I : Nat -> DSt -> Prop) (ds : List D) (hs : ∀ (k : Nat) (d : D) (O : DSt), ds[k]? = some d -> I k O -> ∃ O', (fb (O.set i (some d)) = .ok (.nx O') \/ fb (O.set i (some d)) = .ok (.ct O')) /\ I (k + 1) O') (O : DSt) (h : I 0 O) : ∃ O', zgb [i] zaJ fb ds O = .ok (.nx O') /\ I ds.length O' := by
 have go : ∀ (ds : List D) (n : Nat), (∀ (k : Nat) (d : D) (O : DSt), ds[k]? = some d -> I (n + k) O -> ∃ O', (fb (O.set i (some d)) = .ok (.nx O') \/ fb (O.set i (some d)) = .ok (.ct O')) /\ I (n + k + 1) O') -> ∀ O, I n O -> ∃ O', zgb [i] zaJ fb ds O = .ok (.nx O') /\ I (n + ds.length) O' := by
  intro ds
  induction ds with
  | nil => intro n _ O h; exact ⟨O, rfl, h⟩
  | cons d ds ih =>
   intro n hs O h
   obtain ⟨O1, h1, h2⟩ := hs 0 d O rfl h
   obtain ⟨O2, h3, h4⟩ := ih (n + 1) (fun k d' O hd hI => by
    have := hs (k + 1) d' O (by simpa using hd) (by rw [show n + (k + 1) = n + 1 + k by omega]; exact hI)
    rw [show n + (k + 1) + 1 = n + 1 + k + 1 by omega] at this
    exact this) O1 h2
   refine ⟨O2, ?_, by rw [xas, show n + (ds.length + 1) = n + 1 + ds.length by omega]; exact h4⟩
   rw [zd5]
   rcases h1 with h1 | h1 <;> rw [h1]
   ·exact h3
   ·exact h3
 obtain ⟨O', h1, h2⟩ := go ds 0 (fun k d O hd hI => by
  rw [xbm] at hI ⊢
  exact hs k d O hd hI) O h
 exact ⟨O', h1, by rw [xbm] at h2; exact h2⟩
theorem zlm {c : DSt -> R Bool} {fb : DSt -> R Out} {O O' : DSt} (h : c O = .ok true) (h' : fb O = .ok (.nx O')) : zbp c fb O = zbp c fb O' := by rw [zgc, h]; show (fb O).bind _ = _; rw [h']; rfl
theorem zln {c : DSt -> R Bool} {fb : DSt -> R Out} {O : DSt} (h : c O = .ok false) : zbp c fb O = .ok (.nx O) := by rw [zgc, h]; rfl
def lcK (k : Nat) (ks : List Nat) (a : R (List D)) (gp : D -> R (List D)) (c : DSt -> R Bool) (e : DSt -> R D) (O : DSt) : R (List D) := a.bind fun ds => bif most ds.length then (lcD ks gp c e (List.replicate k none ++ O) ds).noerr else .bad
theorem zn2 (k : Nat) (ks : List Nat) (fi : DSt -> R (List D)) (gp : D -> R (List D)) (c : DSt -> R Bool) (e : DSt -> R D) (O : DSt) : eLC k ks fi gp c e O = lcK k ks (fi O) gp c e O := rfl
theorem zjU {n : Nat} (h : n <= 1000000) : most n = true := decide_eq_true (xbq h (by decide))
theorem zjd {ds : List D} {e : DSt -> R D} {O : DSt} {g : D -> D} (hl : ds.length <= 1000000) (h : ∀ d ∈ ds, e (some d :: O) = .ok (g d)) : lcK 1 [0] (.ok ds) zaJ zbv e O = .ok (ds.map g) := by
 have go : ∀ ds : List D, (∀ d ∈ ds, e (some d :: O) = .ok (g d)) -> lcD [0] zaJ zbv e (List.replicate 1 none ++ O) ds = .ok (ds.map g) := by
  intro ds
  induction ds with
  | nil => intro _; rfl
  | cons d ds ih =>
   intro h
   show (e (some d :: O)).bind (fun y => (lcD [0] zaJ zbv e (List.replicate 1 none ++ O) ds).bind fun ys => .ok (y :: ys)) = _
   rw [h d xan, ih fun d' hd => h d' (xae _ hd)]; rfl
 show (bif most ds.length then _ else _) = _
 rw [zjU hl, go ds h]; rfl
theorem zgp {ds : List D} {c : DSt -> R Bool} {e : DSt -> R D} {O : DSt} {p : D -> Bool} {g : D -> D} (hl : ds.length <= 1000000) (hc : ∀ d ∈ ds, c (some d :: O) = .ok (p d)) (h : ∀ d ∈ ds, p d = true -> e (some d :: O) = .ok (g d)) :
  lcK 1 [0] (.ok ds) zaJ c e O = .ok ((ds.filter p).map g) := by
 have go : ∀ ds : List D, (∀ d ∈ ds, c (some d :: O) = .ok (p d)) -> (∀ d ∈ ds, p d = true -> e (some d :: O) = .ok (g d)) -> lcD [0] zaJ c e (List.replicate 1 none ++ O) ds = .ok ((ds.filter p).map g) := by
  intro ds
  induction ds with
  | nil => intro _ _; rfl
  | cons d ds ih =>
   intro hc h
   have ih' := ih (fun d' hd => hc d' (xae _ hd)) fun d' hd => h d' (xae _ hd)
   show (c (some d :: O)).bind (fun k => bif k then (e (some d :: O)).bind (fun y => (lcD [0] zaJ c e (List.replicate 1 none ++ O) ds).bind fun ys => .ok (y :: ys)) else lcD [0] zaJ c e (List.replicate 1 none ++ O) ds) = _
   rw [hc d xan, ih']
   cases hp : p d with
   | true =>
    show (e (some d :: O)).bind _ = _
    rw [h d xan hp, List.filter_cons_of_pos hp]; rfl
   | false => rw [List.filter_cons_of_neg (by rw [hp]; exact xau)]; rfl
 show (bif most ds.length then _ else _) = _
 rw [zjU hl, go ds hc h]; rfl
end DL
namespace DL
open L2 PyProof.Rows
section
variable {X : Cx} {E : XK} {e : Expr} {te : TE} {pos : Pos}
def zvG (i : Nat) (l : R (List D)) (a k : R D) (O : DSt) : R Out := l.bind fun ds => a.bind fun d => k.bind fun kd => match kd with
 | .int n => match ixN ds.length n with
  | some j => .ok (.nx (O.set i (some (.lst (ds.set j d)))))
  | none => .bad
 | _ => .bad
def zu8 (i : Nat) (l : R (List D)) (a k : R D) (O : DSt) : R Out := l.bind fun ds => a.bind fun d => bif imm d then k.bind fun kd => match kd with
 | .int n => match ixN ds.length n with
  | some j => .ok (.nx (O.set i (some (.lst (ds.set j d)))))
  | none => .bad
 | _ => .bad else .bad
def zvH (own : List Nat) (i : Nat) (fk fe : DSt -> R D) : DSt -> R Out := fun O => zvG i (zd9 O i) (fe (mask own O)) (fk (mask own O)) O
def zpL (i : Nat) (fk fe : DSt -> R D) : DSt -> R Out := fun O => zu8 i (zd9 O i) (fe O) (fk O) O
variable {own ol : List Nat} {x : Str} {k : Expr} {fk fe : DSt -> R D} {np tpos : Pos}
theorem zu9 (i : Nat) (hk : DE X E k fk) (he : DE X E e fe) (ho : own.contains i = true := by rfl) (hN : X.N[i]? = some x := by rfl) (hv : Vis X.env.scope x := by first | exact Or.inl rfl | exact Or.inr (Or.inl rfl) | exact Or.inr (Or.inr rfl)) (hd : (x == ("__debug__" : Str)) = false := by decide)
  (hcd : (x == ("__classdict__" : Str)) = false := by decide)
  (ha : ∀ v, assign (.Subscript (.Name x np) k tpos) X.env v = (do
   let ov <- holding [v] (eval (.Name x np) X.env)
   let iv <- holding [v, ov] (eval k X.env)
   standAt tpos
   holding [v, ov, iv] (setItem ov iv v)
   release [v, ov, iv] []) := by intro _; rfl)
  (hs : swapsWithSole [.Subscript (.Name x np) k tpos] e pos.line X.env = pure false := by rfl) (hw : swappedStores [.Subscript (.Name x np) k tpos] e X.env = pure none := by rfl)
  (h1 : (assignEach [.Subscript (.Name x np) k tpos] X.env).map (·.2) = [assign (.Subscript (.Name x np) k tpos) X.env] := by rfl) :
  DS X E own own ol (.Assign [.Subscript (.Name x np) k tpos] e pos) (zvH own i fk fe) := fun G0 =>
 PS.mono' (zmk he (zqb (pv i hN hv hd hcd) hk zkh ha) hs hw h1) fun Dn O H ⟨G, Od, ok, s0, q⟩ => by
 unfold zvH zvG at q
 cases hL : zd9 Od i with
 | bad => rw [hL] at q; exact q.elim
 | err e => exact absurd hL zhY
 | ok ds =>
  rw [hL] at q
  have hd := zhX hL
  have hi : i ∈ own := by simpa using ho
  obtain ⟨a, ds', vs, p1, p2, p3, p4, p5, p6⟩ := ok.mine i _ hi hd
  cases p2
  refine ⟨G, mask own Od, ok.masked, (show RW ((fe (mask own Od)).bind _) _ _ from q).of_bind.mono (fun d _ z v G1 H1 s1 r1 => ?_) fun _ z => z.step s0⟩
  have ok1 := ok.step s1
  refine ⟨_, p1, G1, mask own Od, ok1.masked, z.of_bind.mono (fun kd _ z kv G2 H2 s2 r2 => ?_) fun _ z => z.step (s0.trans s1)⟩
  have ok2 := ok1.step s2
  have s12 := s1.trans s2
  cases kd with
  | int n =>
   cases r2
   cases hj : ixN ds.length n with
   | none => simp only [hj] at z; exact z.elim
   | some j =>
    simp only [hj] at z
    refine ⟨a, vs, n, j, rfl, rfl, s12.h _ _ p3, by rw [<- p6.length]; exact hj, ?_⟩
    exact (show ze4 X.K X.mg G0 X.H₀ own ol Dn G (.nx (Od.set i (some (.lst (ds.set j d))))) from z) O G2 _ (ok2.write hi hd p1 ((p6.mono s12.g).set j (r1.mono s2.g))) ((s0.trans s12).write (o := .lst vs) p5 (s12.c _ _ p3 p4)) s12.g
  | _ => exact (show False from z).elim
theorem zsC (i : Nat) (hk : DE X E k fk) (he : DE X E e fe) (ho : own.contains i = true := by rfl) (hN : X.N[i]? = some x := by rfl) (hv : Vis X.env.scope x := by first | exact Or.inl rfl | exact Or.inr (Or.inl rfl) | exact Or.inr (Or.inr rfl)) (hd : (x == ("__debug__" : Str)) = false := by decide)
  (hcd : (x == ("__classdict__" : Str)) = false := by decide)
  (ha : ∀ v, assign (.Subscript (.Name x np) k tpos) X.env v = (do
   let ov <- holding [v] (eval (.Name x np) X.env)
   let iv <- holding [v, ov] (eval k X.env)
   standAt tpos
   holding [v, ov, iv] (setItem ov iv v)
   release [v, ov, iv] []) := by intro _; rfl)
  (hs : swapsWithSole [.Subscript (.Name x np) k tpos] e pos.line X.env = pure false := by rfl) (hw : swappedStores [.Subscript (.Name x np) k tpos] e X.env = pure none := by rfl)
  (h1 : (assignEach [.Subscript (.Name x np) k tpos] X.env).map (·.2) = [assign (.Subscript (.Name x np) k tpos) X.env] := by rfl) :
  DS X E own own ol (.Assign [.Subscript (.Name x np) k tpos] e pos) (zpL i fk fe) := fun G0 =>
 PS.mono' (zmk he (zqb (pv i hN hv hd hcd) hk zkh ha) hs hw h1) fun Dn O H ⟨G, Od, ok, s0, q⟩ => by
 unfold zpL zu8 at q
 cases hL : zd9 Od i with
 | bad => rw [hL] at q; exact q.elim
 | err e => exact absurd hL zhY
 | ok ds =>
  rw [hL] at q
  have hd := zhX hL
  have hi : i ∈ own := by simpa using ho
  obtain ⟨a, ds', vs, p1, p2, p3, p4, p5, p6⟩ := ok.mine i _ hi hd
  cases p2
  have sp := ok.pubStep s0
  refine ⟨_, Od, ok.pub.1, (show RW ((fe Od).bind _) _ _ from q).of_bind.mono (fun d _ z v G1 H1 s1 r1 => ?_) fun _ z => z.step sp⟩
  cases hd2 : imm d with
  | false => rw [hd2] at z; exact (show False from z).elim
  | true =>
   rw [hd2] at z
   obtain ⟨st1, sT1⟩ := ok.hide s1
   have ok1 := ok.step st1
   have rd := r1.imm sT1 hd2
   have sp1 := ok1.pubStep (s0.trans st1)
   refine ⟨_, p1, _, Od, ok1.pub.1, (show RW ((fk Od).bind _) _ _ from z).of_bind.mono (fun kd _ z kv G2 H2 s2 r2 => ?_) fun _ z => z.step sp1⟩
   have ok2 := ok1.drop s2.h
   have st12 := st1.trans (.heap ok1.ext s2.h)
   cases kd with
   | int n =>
    cases r2
    cases hj : ixN ds.length n with
    | none => simp only [hj] at z; exact z.elim
    | some j =>
     simp only [hj] at z
     refine ⟨a, vs, n, j, rfl, rfl, st12.h _ _ p3, by rw [<- p6.length]; exact hj, ?_⟩
     exact (show ze4 X.K X.mg G0 X.H₀ own ol Dn G (.nx (Od.set i (some (.lst (ds.set j d))))) from z) O _ _ (ok2.write hi hd p1 ((p6.mono st12.g).set j rd)) ((s0.trans st12).write (o := .lst vs) p5 (st12.c _ _ p3 p4)) st12.g
   | _ => exact (show False from z).elim
end
end DL
namespace DL
open L2 PyProof.Rows
def inD (d : D) (xs : List D) : Bool := xs.any fun y => eqD y d
def in2 (d : D) (xs : List D) : Bool := zdK 9 d && xs.all (zdK 9)
def gIn : D -> D -> R D
 | d, .lst xs => bif in2 d xs then .ok (.bl (inD d xs)) else .bad
 | d, .tup xs => bif in2 d xs then .ok (.bl (inD d xs)) else .bad
 | .str i, .str j => .ok (.bl (!(Builtin.Str.occurrences j i 0 j.length 1).isEmpty))
 | _, _ => .bad
def zoO : D -> D -> R D
 | d, .lst xs => bif in2 d xs then .ok (.bl (!inD d xs)) else .bad
 | d, .tup xs => bif in2 d xs then .ok (.bl (!inD d xs)) else .bad
 | .str i, .str j => .ok (.bl (!(!(Builtin.Str.occurrences j i 0 j.length 1).isEmpty)))
 | _, _ => .bad
section
variable {X : Cx} {E : XK}
theorem zva {K : xFg} {mg : Str -> Option Value} {G : Hp} {d : D} (f : Value -> Bool) : ∀ {ds : List D} {vs : List V} {its : List Value}, (∀ d' v' u, d' ∈ ds -> Rep K mg G d' v' -> zbf v' u -> f u = eqD d' d) -> Reps K mg G ds vs -> zbg vs its -> its.any f = ds.any fun y => eqD y d
 | [], _, _, _, r, t => by cases r; cases t; rfl
 | d' :: ds, _, _, h, ⟨v, vs, e, r1, r2⟩, t => by
  subst e
  cases t with
  | cons q t =>
   rw [List.any_cons, List.any_cons, h d' _ _ xan r1 q, zva f (fun d'' v'' u hd => h d'' v'' u (xae _ hd)) r2 t]
theorem zgq {K : xFg} {mg : Str -> Option Value} {G : Hp} : ∀ {ds : List D} {vs : List V} {its : List Value}, Reps K mg G ds vs -> zbg vs its -> ∀ u ∈ its, ∃ d' v', d' ∈ ds /\ Rep K mg G d' v' /\ zbf v' u
 | [], _, _, r, t, u, hu => by cases r; cases t; cases hu
 | d' :: ds, _, _, ⟨v, vs, e, r1, r2⟩, t, u, hu => by
  subst e
  cases t with
  | cons q t =>
   rcases xaf.mp hu with rfl | hu
   ·exact ⟨d', v, xan, r1, q⟩
   ·obtain ⟨d'', v'', h1, h2, h3⟩ := zgq r2 t u hu
    exact ⟨d'', v'', xae _ h1, h2, h3⟩
def rInD (K : xFg) (mg : Str -> Option Value) (neg : Bool) : R2 := fun x y H Q => ∃ G d ds p vs, zay G H /\ Rep K mg G d x /\ y = .ref p /\ (SqL K G p vs \/ SqT K G p vs) /\ Reps K mg G ds vs /\ in2 d ds = true /\ Q (.bl (bif neg then !inD d ds else inD d ds)) H
open Classical in
theorem zfP {pins : List (Addr × Obj)} {O : L2.St} {G H : Hp} {s : Shared} (I : Inv X pins O H s) {k : Nat} (r : zfA k X.A) (e : zay G H) {d : D} {x : V} {v : Value} {ds : List D} {vs : List V} {its : List Value} (rx : Rep X.K X.mg G d x) (qx : zbf x v) (rs : Reps X.K X.mg G ds vs) (t : zbg vs its) (h : in2 d ds = true) :
  ∃ f : Value -> Bool, (∀ u ∈ its, SeqAt.EqAt X.A.in1 s u v (f u)) /\ its.any f = inD d ds := by
 unfold in2 at h
 rw [xay, xa1] at h
 obtain ⟨h1, h2⟩ := h
 have key : ∀ d' v' u, d' ∈ ds -> Rep X.K X.mg G d' v' -> zbf v' u -> decide (∃ d'' v'', d'' ∈ ds /\ Rep X.K X.mg G d'' v'' /\ zbf v'' u /\ eqD d'' d = true) = eqD d' d := by
  intro d' v' u hd r1 q1
  by_cases hq : eqD d' d = true
  ·rw [hq]; exact decide_eq_true ⟨d', v', hd, r1, q1, hq⟩
  ·rw [Bool.not_eq_true] at hq
   rw [hq]
   refine decide_eq_false ?_
   rintro ⟨d'', v'', hd', r2, q2, hq'⟩
   have ev := q1.inj q2
   subst ev
   have := zjO I e 9 (h2 _ hd) (h2 _ hd') r1 r2
   subst this
   rw [hq] at hq'; cases hq'
 refine ⟨fun u => decide (∃ d'' v'', d'' ∈ ds /\ Rep X.K X.mg G d'' v'' /\ zbf v'' u /\ eqD d'' d = true), fun u hu => ?_, zva _ key rs t⟩
 obtain ⟨d', v', hd, r1, q1⟩ := zgq rs t u hu
 show SeqAt.EqAt X.A.in1 s u v (decide _)
 rw [key d' v' u hd r1 q1]
 exact (zne I e 9 (by rw [in1_units]; have := r.un; omega) (h2 _ hd) h1 r1 q1 rx qx).1
theorem zvb {k : Nat} (r : zfA k X.A) : OpR X (compareOp .In) (rInD X.K X.mg false) := by
 intro pins s O H x y v u Q I rx ry h
 obtain ⟨G, d, ds, p, vs, e, r1, rfl, hq, rs, c, q⟩ := h
 cases ry
 rcases hq with hq | hq
 ·obtain ⟨its, t, pl, hz⟩ := I.list (e.seq hq)
  obtain ⟨f, h1, h2⟩ := zfP I r e r1 rx rs t c
  refine SeqAt.in_listAt f pl.isList (fun w hw => h1 w (by simpa using hw)) ⟨.bl _, H, I, rfl, ?_⟩
  rw [show its.toArray.any f = its.any f by simp, h2]; exact q
 ·obtain ⟨its, t, pl, hz⟩ := I.tuple (zay.sqT e hq)
  obtain ⟨f, h1, h2⟩ := zfP I r e r1 rx rs t c
  refine SeqAt.in_tupleAt f pl (fun w hw => h1 w (by simpa using hw)) ⟨.bl _, H, I, rfl, ?_⟩
  rw [show its.toArray.any f = its.any f by simp, h2]; exact q
theorem zsD {k : Nat} (r : zfA k X.A) : OpR X (compareOp .NotIn) (rInD X.K X.mg true) := by
 intro pins s O H x y v u Q I rx ry h
 obtain ⟨G, d, ds, p, vs, e, r1, rfl, hq, rs, c, q⟩ := h
 cases ry
 rcases hq with hq | hq
 ·obtain ⟨its, t, pl, hz⟩ := I.list (e.seq hq)
  obtain ⟨f, h1, h2⟩ := zfP I r e r1 rx rs t c
  refine SeqAt.notIn_listAt f pl.isList (fun w hw => h1 w (by simpa using hw)) ⟨.bl _, H, I, rfl, ?_⟩
  rw [show its.toArray.any f = its.any f by simp, h2]; exact q
 ·obtain ⟨its, t, pl, hz⟩ := I.tuple (zay.sqT e hq)
  obtain ⟨f, h1, h2⟩ := zfP I r e r1 rx rs t c
  refine SeqAt.notIn_tupleAt f pl (fun w hw => h1 w (by simpa using hw)) ⟨.bl _, H, I, rfl, ?_⟩
  rw [show its.toArray.any f = its.any f by simp, h2]; exact q
abbrev rInS (neg : Bool) : R2 := fun x y H Q => ∃ i j, x = .str i /\ y = .str j /\ Q (.bl (bif neg then !(!(Builtin.Str.occurrences j i 0 j.length 1).isEmpty) else !(Builtin.Str.occurrences j i 0 j.length 1).isEmpty)) H
theorem zwR {k : Nat} (C : XC X E k) : zkv X .In gIn := ⟨_, (zvb C.room).or (zmo : OpR X _ (rInS false)), fun G H a b x y Q e ra rb q => by
 cases b with
 | lst xs =>
  obtain ⟨p, vs, rfl, h1, h2⟩ := rb
  cases hc : in2 a xs with
  | false => simp only [gIn, hc, cond_false] at q; exact q.elim
  | true => simp only [gIn, hc, cond_true] at q; exact .inl ⟨G, a, xs, p, vs, e, ra, rfl, .inl h1, h2, hc, zao.now q e rfl⟩
 | tup xs =>
  obtain ⟨p, vs, rfl, h1, h2⟩ := rb
  cases hc : in2 a xs with
  | false => simp only [gIn, hc, cond_false] at q; exact q.elim
  | true => simp only [gIn, hc, cond_true] at q; exact .inl ⟨G, a, xs, p, vs, e, ra, rfl, .inr h1, h2, hc, zao.now q e rfl⟩
 | str j => cases a with
  | str i => cases ra; cases rb; exact .inr ⟨i, j, rfl, rfl, zao.now q e rfl⟩
  | _ => exact (show False from q).elim
 | _ => cases a <;> exact (show False from q).elim, fun a b e => by
  cases b with
  | lst xs => simp only [gIn]; cases in2 a xs <;> simp [cond]
  | tup xs => simp only [gIn]; cases in2 a xs <;> simp [cond]
  | _ => cases a <;> simp [gIn]⟩
theorem zvc {k : Nat} (C : XC X E k) : zkv X .NotIn zoO := ⟨_, (zsD C.room).or (zio : OpR X _ (rInS true)), fun G H a b x y Q e ra rb q => by
 cases b with
 | lst xs =>
  obtain ⟨p, vs, rfl, h1, h2⟩ := rb
  cases hc : in2 a xs with
  | false => simp only [zoO, hc, cond_false] at q; exact q.elim
  | true => simp only [zoO, hc, cond_true] at q; exact .inl ⟨G, a, xs, p, vs, e, ra, rfl, .inl h1, h2, hc, zao.now q e rfl⟩
 | tup xs =>
  obtain ⟨p, vs, rfl, h1, h2⟩ := rb
  cases hc : in2 a xs with
  | false => simp only [zoO, hc, cond_false] at q; exact q.elim
  | true => simp only [zoO, hc, cond_true] at q; exact .inl ⟨G, a, xs, p, vs, e, ra, rfl, .inr h1, h2, hc, zao.now q e rfl⟩
 | str j => cases a with
  | str i => cases ra; cases rb; exact .inr ⟨i, j, rfl, rfl, zao.now q e rfl⟩
  | _ => exact (show False from q).elim
 | _ => cases a <;> exact (show False from q).elim, fun a b e => by
  cases b with
  | lst xs => simp only [zoO]; cases in2 a xs <;> simp [cond]
  | tup xs => simp only [zoO]; cases in2 a xs <;> simp [cond]
  | _ => cases a <;> simp [zoO]⟩
end
end DL
namespace DL
open L2 PyProof.Rows
section
variable {prog : Program} {w : World} {A : Around} {E : Value -> Shared -> Prop} {s : Shared}
theorem items_int {ks : List Int} {vs : List Value} (h : ItemsAre (intKind prog w) ks vs) : ∀ v ∈ vs, ∃ i t, v = .int i t := by
 induction h with
 | nil => intro v hv; cases hv
 | cons q _ ih =>
  intro v hv
  rcases xaf.mp hv with rfl | hv
  ·cases v with
   | int i t => exact ⟨i, t, rfl⟩
   | _ => cases q
  ·exact ih v hv
theorem zlo {ks : List Int} {b : Addr} {Q : Bool -> Shared -> Prop} (hk : IsTupleKey (intKind prog w) s.heap ks b) (q : Q false s) : wpAny (model prog w) A (ofAClassStatement 8 (.ref b)) Q E s := by
 have ty := hk.typeIs
 obtain ⟨ob, its, m, g1, _, g2, g3⟩ := hk
 have hint := items_int g3
 unfold ofAClassStatement
 refine wpAny_bind (wpAny_typeOf ty ?_)
 refine wpAny_bind (wpAny_pure ?_)
 dsimp only
 rw [if_neg (by decide)]
 refine wpAny_bind (wpAny_seqItems g1 g2 ?_)
 dsimp only
 refine wpAny_bind ?_
 show wpAny _ _ (forIn its _ _) _ _ s
 rw [<- Array.forIn_toList]
 refine wpAny_forIn_list _ (fun left r s1 => r.1 = none /\ s1 = s /\ ∀ v ∈ left, ∃ i t, v = Value.int i t) _ ?_ ?_ _ _ ⟨rfl, rfl, hint⟩
 ·rintro v left r s1 ⟨hr, rfl, all⟩
  obtain ⟨i, t, rfl⟩ := all v xan
  refine wpAny_bind (wpAny_pure (a := false) ?_)
  rw [if_neg (by decide)]
  exact wpAny_pure ⟨rfl, rfl, fun u hu => all u (xae _ hu)⟩
 ·rintro ⟨r1, r2⟩ s1 ⟨hr, rfl, _⟩
  simp only at hr
  subst hr
  exact wpAny_pure q
theorem zn3 {ks : List Int} {b : Addr} {stored : List Value} {Q : Bool -> Shared -> Prop} (hk : IsTupleKey (intKind prog w) s.heap ks b) (hs : ∀ v ∈ stored, ∃ c ls, v = .ref c /\ IsTupleKey (intKind prog w) s.heap ls c) (q : Q false s) : wpAny (model prog w) A (searchCouldBeSeen (.ref b) stored) Q E s := by
 unfold searchCouldBeSeen
 refine wpAny_bind ?_
 refine wpAny_forIn_list _ (fun left r s1 => r.1 = none /\ s1 = s /\ ∀ v ∈ left, ∃ c ls, v = Value.ref c /\ IsTupleKey (intKind prog w) s.heap ls c) _ ?_ ?_ _ _ ⟨rfl, rfl, hs⟩
 ·rintro v left r s1 ⟨hr, rfl, all⟩
  obtain ⟨c, ls, rfl, hc⟩ := all v xan
  have zce : ∀ u ∈ left, ∃ c ls, u = Value.ref c /\ IsTupleKey (intKind prog w) s1.heap ls c := fun u hu => all u (xae _ hu)
  dsimp only
  by_cases hv : (b == c || carriedByValue (.ref b) && carriedByValue (.ref c)) = true
  ·rw [if_pos hv]
   exact wpAny_pure ⟨rfl, rfl, zce⟩
  ·rw [if_neg hv]
   refine wpAny_bind (wpAny_eqIsQuiet_tuple hk ?_)
   rw [if_neg (by decide)]
   refine wpAny_bind (wpAny_eqIsQuiet_tuple hc ?_)
   rw [if_neg (by decide)]
   refine wpAny_bind (zlo hk ?_)
   rw [if_neg (by decide)]
   refine wpAny_bind (zlo hc ?_)
   rw [if_neg (by decide)]
   exact wpAny_pure ⟨rfl, rfl, zce⟩
 ·rintro ⟨r1, r2⟩ s1 ⟨hr, rfl, _⟩
  simp only at hr
  subst hr
  exact wpAny_pure q
theorem zsE {ks : List Int} {b : Addr} {Q : Bool -> Shared -> Prop} (hk : IsTupleKey (intKind prog w) s.heap ks b) (q : Q true s) : wpAny (model prog w) A (hashByValue 8 (.ref b)) Q E s := by
 have ty := hk.typeIs
 obtain ⟨ob, its, m, g1, _, g2, g3⟩ := hk
 have hint := items_int g3
 unfold hashByValue
 refine wpAny_bind (wpAny_specialOf ty PySem.F.slot_tuple_hash.lookup ?_)
 dsimp only
 refine wpAny_bind (wpAny_seqItems g1 g2 ?_)
 refine wpAny_bind ?_
 show wpAny _ _ (forIn its _ _) _ _ s
 rw [<- Array.forIn_toList]
 refine wpAny_forIn_list _ (fun left r s1 => r.1 = none /\ s1 = s /\ ∀ v ∈ left, ∃ i t, v = Value.int i t) _ ?_ ?_ _ _ ⟨rfl, rfl, hint⟩
 ·rintro v left r s1 ⟨hr, rfl, all⟩
  obtain ⟨i, t, rfl⟩ := all v xan
  refine wpAny_bind (wpAny_pure (a := true) ?_)
  rw [if_neg (by decide)]
  exact wpAny_pure ⟨rfl, rfl, fun u hu => all u (xae _ hu)⟩
 ·rintro ⟨r1, r2⟩ s1 ⟨hr, rfl, _⟩
  simp only at hr
  subst hr
  exact wpAny_pure q
structure TSet (prog : Program) (w : World) (h : Heap) (a : Addr) (o : Obj) (es : Array (Int × Value)) (ep : Nat) (t : SetTable) (kss : List (List Int)) : Prop where
 get : h.get? a = some o
 ex : o.ExactSet
 dat : o.data = .set es ep t
 dm : t.dummies = #[]
 pl : t.place.size = es.size
 msk : (t.mask = 7 /\ es.size <= 4) \/ (t.mask = 31 /\ es.size <= 18)
 n : es.size = kss.length
 el : ∀ e ∈ es.toList, ∃ c ls, e.2 = .ref c /\ IsTupleKey (intKind prog w) h ls c /\ ls ∈ kss
variable {h : Heap} {a : Addr} {o : Obj} {es : Array (Int × Value)} {ep : Nat} {t : SetTable} {kss : List (List Int)}
theorem zho : ∀ (n : Nat) (p : SetTable.Probe), p.dummy = none -> (SetT.iter t n p).dummy = none
 | 0, _, hp => hp
 | n + 1, p, hp => zho n (t.advance p) (by rw [SetT.adv_dummy]; exact hp)
theorem zew {h' : Heap} (sb : Heap.SameBut a h h') (g : h.get? a = some o) (dd : o.data = .set es ep t) {ls : List Int} {c : Addr} (hk : IsTupleKey (intKind prog w) h ls c) : IsTupleKey (intKind prog w) h' ls c := by
 obtain ⟨ob, its, m, g1, g2, g3, g4⟩ := hk
 have ne : c ≠ a := fun z => by
  subst z
  rw [g] at g1
  cases g1
  rw [dd] at g3
  cases g3
 exact ⟨ob, its, m, (sb.2 c ne).trans g1, g2, g3, g4⟩
theorem zje {es' : Array (Int × Value)} {t' : SetTable} (g : h.get? a = some o) (dd : o.data = .set es ep t) : (h.update a (Obj.putSet es' t')).get? a = some { o with data := .set es' (ep + 1) t' } := by
 have := xb1 (Obj.putSet es' t') g (by rw [putSet_of es' t' dd]; rfl)
 rw [putSet_of es' t' dd] at this
 exact this
theorem zeJ {α : Type} (xs : Array α) (p : Nat) (x : α) : (SetTable.insertAt xs p x).size = xs.size + 1 := by
 have := (SetTable.insertAt_perm xs p x).length_eq
 rw [xat, xat, Array.size_push] at this
 exact this
theorem zjf {α : Type} {xs : Array α} {p : Nat} {x y : α} (hy : y ∈ (SetTable.insertAt xs p x).toList) : y = x \/ y ∈ xs.toList := by
 have := (SetTable.insertAt_perm xs p x).mem_iff.mp hy
 rw [Array.toList_push] at this
 rcases xbd.mp this with z | z
 ·exact .inr z
 ·exact .inl (xbi.mp z)
end
end DL
namespace DL
open L2 PyProof.Rows
section
variable {prog : Program} {w : World} {A : Around} {h h' : Heap} {it l z : Addr} {items : Array Value}
theorem zgr (kp : ∀ b u, b ∉ [it] -> h.get? b = some u -> h'.get? b = some u) {i : Nat} (hi : h.IsListIter it l i) {ls : List Int} {c : Addr} (hk : IsTupleKey (intKind prog w) h ls c) : IsTupleKey (intKind prog w) h' ls c := by
 obtain ⟨ob, its, m, g1, g2, g3, g4⟩ := hk
 obtain ⟨oi, e1, e2, _⟩ := hi
 have ne : c ∉ [it] := fun q => by
  rw [xbi] at q
  subst q
  rw [g1] at e1
  cases e1
  rw [g2] at e2
  exact absurd e2 (by decide)
 exact ⟨ob, its, m, kp c _ ne g1, g2, g3, g4⟩
abbrev zdM (led : Bool) : Obj := { cls := .type "set", dict := none, data := .set #[] 0 (.fresh 0 0 led) }
end
end DL
namespace DL
open L2 PyProof.Rows
section
variable {X : Cx} {E : XK}
def zvI (a : Addr) (n : Nat) : Heap -> Prop := fun h => ∃ o es ep t, h.get? a = some o /\ o.ExactSet /\ o.data = .set es ep t /\ SetTable.fits t es.size = true /\ es.size = n
def zcp (K : xFg) (H : Hp) : List V -> List (List Int) -> Prop
 | [], [] => True
 | v :: vs, ks :: kss => (∃ b, v = .ref b /\ SqT K H b (ks.map V.int)) /\ zcp K H vs kss
 | _, _ => False
theorem zcp.length {K : xFg} {H : Hp} : ∀ {vs : List V} {kss : List (List Int)}, zcp K H vs kss -> vs.length = kss.length
 | [], [], _ => rfl
 | _ :: _, _ :: _, ⟨_, t⟩ => by rw [xas, xas, zcp.length t]
 | [], _ :: _, h => h.elim
 | _ :: _, [], h => h.elim
theorem zlp : ∀ {ks : List Int} {us : List Value}, zbg (ks.map V.int) us -> ItemsAre (intKind X.prog X.w) ks us
 | [], _, h => by cases h; exact .nil
 | k :: ks, _, h => by
  cases h with
  | cons q t =>
   obtain ⟨tk, rfl⟩ := q
   exact .cons (intKind_is _ _ _ _) (zlp t)
theorem zn4 {pins : List (Addr × Obj)} {O : L2.St} {H : Hp} {s : Shared} (I : Inv X pins O H s) : ∀ {vs : List V} {kss : List (List Int)} {us : List Value}, zcp X.K H vs kss -> zbg vs us -> ∀ j, j < us.length -> ∃ b, us[j]? = some (.ref b) /\ IsTupleKey (intKind X.prog X.w) s.heap (kss.getD j []) b
 | [], [], _, _, h, j, hj => by cases h; cases hj
 | v :: vs, ks :: kss, _, ⟨⟨b, e1, e2⟩, t⟩, h, j, hj => by
  cases h with
  | cons q r =>
   subst e1
   cases q
   cases j with
   | zero =>
    obtain ⟨its, rv, ⟨ob, g1, g2, n, g3⟩, _⟩ := I.tuple e2
    exact ⟨b, rfl, ob, its.toArray, n, g1, g2, g3, by rw [xda]; exact zlp rv⟩
   | succ j =>
    obtain ⟨c, c1, c2⟩ := zn4 I t r j (by simpa using hj)
    exact ⟨c, c1, c2⟩
 | [], _ :: _, _, h, _, _, _ => h.elim
 | _ :: _, [], _, h, _, _, _ => h.elim
def zwS : List V -> Hp -> VK -> Prop := fun xs H Q => ∃ (a : Addr) (n : Nat), xs = [.ref a] /\ H a = some (.ext (zvI a n)) /\ n <= 1000 /\ Q (.int n) H
theorem zn5 : zc0 X (.builtin "len") zwS := by
 intro pins s O H xs us Q I rs h
 obtain ⟨a, n, rfl, hq, hn, q⟩ := h
 obtain ⟨u, rfl, rx⟩ := zhI rs
 cases rx
 obtain ⟨⟨o, es, ep, t, g1, g2, g3, g4, g5⟩, _⟩ := (show zdf X.prog X.w H s.heap a (.ext (zvI a n)) from I.hok a _ hq)
 exact call_len_set g1 g2 g3 g4 (by omega) ⟨.int n, H, I.tok _, ⟨s.toks + 1, by rw [g5]⟩, q⟩
def zby : List D -> Option (List (List Int))
 | [] => some []
 | .tup xs :: ds => match zfn xs with
  | some ks => (zby ds).map (ks :: ·)
  | none => none
 | _ => none
theorem zjg {K : xFg} {mg : Str -> Option Value} {G : Hp} : ∀ {ds : List D} {kss : List (List Int)} {vs : List V}, zby ds = some kss -> Reps K mg G ds vs -> zcp K G vs kss
 | [], _, _, h, r => by cases h; cases r; exact True.intro
 | .tup xs :: ds, _, _, h, ⟨v, t, e1, r1, r2⟩ => by
  subst e1
  cases hi : zfn xs with
  | none => simp [zby, hi] at h
  | some ks =>
   cases hd : zby ds with
   | none => simp [zby, hi, hd] at h
   | some kss' =>
    simp [zby, hi, hd] at h
    subst h
    obtain ⟨a, ws, rfl, q1, q2⟩ := r1
    rw [zgd hi] at q2
    rw [Reps.of_ints q2] at q1
    exact ⟨⟨a, rfl, q1⟩, zjg hd r2⟩
 | .non :: _, _, _, h, _ => by simp [zby] at h
 | .bl _ :: _, _, _, h, _ => by simp [zby] at h
 | .int _ :: _, _, _, h, _ => by simp [zby] at h
 | .str _ :: _, _, _, h, _ => by simp [zby] at h
 | .ty _ :: _, _, _, h, _ => by simp [zby] at h
 | .cls _ :: _, _, _, h, _ => by simp [zby] at h
 | .lst _ :: _, _, _, h, _ => by simp [zby] at h
 | .dct _ _ :: _, _, _, h, _ => by simp [zby] at h
 | .exc _ _ :: _, _, _, h, _ => by simp [zby] at h
theorem zcp.mono {K : xFg} {G H : Hp} (e : zay G H) : ∀ {vs : List V} {kss : List (List Int)}, zcp K G vs kss -> zcp K H vs kss
 | [], [], _ => True.intro
 | _ :: _, _ :: _, ⟨⟨b, e1, e2⟩, t⟩ => ⟨⟨b, e1, zay.sqT e e2⟩, zcp.mono e t⟩
 | [], _ :: _, h => h.elim
 | _ :: _, [], h => h.elim
end
end DL
namespace L2
open PyProof.Rows
section
variable {prog : Program} {w : World} {A : Around} {E : Value -> Shared -> Prop} {s : Shared}
theorem zn6 {it t : Addr} {k : Nat} {its : Array Value} {x : Value} {Q : Value -> Shared -> Prop} (st : s.heap.IsTupleIter it t k) (ht : s.heap.IsTuple t its) (hx : its[k]? = some x)
  (q : ∀ g, g.IsTupleIter it t (k + 1) -> Heap.SameBut it s.heap g -> Q x { s with heap := g }) : wpAny (model prog w) A (Builtin.SmallTypes.nextOf (.ref it)) Q E s := by
 obtain ⟨o, eo, co, d⟩ := id st
 obtain ⟨l, el, _, n, dl⟩ := ht
 unfold Builtin.SmallTypes.nextOf
 apply wpAny_bind
 refine wpAny_callSpecial?_slot (name := "__next__") st.typeIs F.slot_tuple_iterator_next ?_
 refine wpAny_call_entry F.slot_tuple_iterator_next st.typeIs F.entry_tuple_iterator_next ?_ (F.args_tuple_iterator_next_1 _)
 show wpAny _ _ (field (.ref it) 0 >>= _) _ _ s
 apply wpAny_bind
 refine wpAny_field eo d (x := .ref t) rfl ?_
 show wpAny _ _ (if (Value.ref t == .none) = true then _ else _) _ _ s
 have nn : ¬ (Value.ref t == .none) = true := xau
 rw [if_neg nn]
 show wpAny _ _ (field (.ref it) 1 >>= _) _ _ s
 apply wpAny_bind
 refine wpAny_field eo d (x := .int k 0) rfl ?_
 show wpAny _ _ (seqItems? (.ref t) >>= _) _ _ s
 apply wpAny_bind
 refine wpAny_seqItems el dl ?_
 simp only [hx, Int.toNat_natCast]
 apply wpAny_bind
 refine wpAny_setField eo d (by simp) (wpAny_pure ⟨x, rfl, wpAny_pure (q _ ⟨_, xb1 _ eo (Obj.isFreed_of_fields (Obj.data_mapFields d _)), (Obj.cls_mapFields ..).trans co, ?_⟩ (.update ..))⟩)
 rw [Obj.data_mapFields d]; simp [rawInt]
theorem zhp {it t : Addr} {k : Nat} {its : Array Value} {Q : Value -> Shared -> Prop} (hh : A.handled = none) (st : s.heap.IsTupleIter it t k) (ht : s.heap.IsTuple t its) (hx : its[k]? = none)
  (q : ∀ g e, Heap.ExtBut it s.heap g -> (∃ o, g.get? e = some o /\ o.cls = .type "StopIteration") -> E (.ref e) { s with heap := g }) : wpAny (model prog w) A (Builtin.SmallTypes.nextOf (.ref it)) Q E s := by
 obtain ⟨o, eo, co, d⟩ := id st
 obtain ⟨l, el, _, n, dl⟩ := ht
 unfold Builtin.SmallTypes.nextOf
 apply wpAny_bind
 refine wpAny_callSpecial?_slot (name := "__next__") st.typeIs F.slot_tuple_iterator_next ?_
 refine wpAny_call_entry F.slot_tuple_iterator_next st.typeIs F.entry_tuple_iterator_next ?_ (F.args_tuple_iterator_next_1 _)
 show wpAny _ _ (field (.ref it) 0 >>= _) _ _ s
 apply wpAny_bind
 refine wpAny_field eo d (x := .ref t) rfl ?_
 show wpAny _ _ (if (Value.ref t == .none) = true then _ else _) _ _ s
 have nn : ¬ (Value.ref t == .none) = true := xau
 rw [if_neg nn]
 show wpAny _ _ (field (.ref it) 1 >>= _) _ _ s
 apply wpAny_bind
 refine wpAny_field eo d (x := .int k 0) rfl ?_
 show wpAny _ _ (seqItems? (.ref t) >>= _) _ _ s
 apply wpAny_bind
 refine wpAny_seqItems el dl ?_
 simp only [hx, Int.toNat_natCast]
 apply wpAny_bind; apply wpAny_rule; apply wpAny_bind
 refine wpAny_setField eo d (by simp) ?_
 show wpAny _ _ (newExc (.type "StopIteration") [] >>= _) _ _ _
 apply wpAny_bind
 simp only [newExc, newTuple]
 apply wpAny_bind
 refine wpAny_newObj_type ?_ (by size_fits)
 apply wpAny_bind (m := firstArgMember _ _)
 refine wpAny_of_eq (a := Value.none) (by first | rfl | (simp only [firstArgMember]; rfl)) ?_
 refine wpAny_newObj_type ?_ (by size_fits)
 simp only [raiseNew]
 apply wpAny_bind
 refine wpAny_handled ?_
 first | rw [show A.in1.handled = none from hh] | rw [hh]
 exact wpAny_bind (wpAny_pure (wpAny_throw (q _ _ (((Heap.SameBut.update ..).extBut.push _).push _) ⟨_, xar _ rfl, rfl⟩)))
structure ZAt (h : Heap) (z TI TO i1 i2 t1 t2 : Addr) (k : Nat) (xs ys : Array Value) (f : Value) : Prop where
 z : IsZip h z TI TO f
 ti : IsPair h TI (.ref i1) (.ref i2)
 to : ∃ a b, IsPair h TO a b
 i1 : h.IsTupleIter i1 t1 k
 i2 : h.IsTupleIter i2 t2 k
 t1 : h.IsTuple t1 xs
 t2 : h.IsTuple t2 ys
theorem ZAt.next {z TI TO i1 i2 t1 t2 : Addr} {k : Nat} {xs ys : Array Value} {x y : Value} {Q : Value -> Shared -> Prop} (D : ZipApart z TI TO i1 i2 t1 t2) (Z : ZAt s.heap z TI TO i1 i2 t1 t2 k xs ys .none) (hx : xs[k]? = some x) (hy : ys[k]? = some y)
  (q : ∀ g, ZAt g z TI TO i1 i2 t1 t2 (k + 1) xs ys (rawInt s.heap.objs.size) -> IsPair g s.heap.objs.size x y -> g.objs.size = s.heap.objs.size + 1 -> (∀ c o, c ≠ z -> c ≠ TO -> c ≠ i1 -> c ≠ i2 -> s.heap.get? c = some o -> g.get? c = some o) -> Q (.ref s.heap.objs.size) { s with heap := g }) :
  wpAny (model prog w) A (Builtin.«zip.__next__» ⟨[.ref z], []⟩) (fun fin s' => ∃ v, fin = .done (.ret v) /\ Q v s') E s := by
 obtain ⟨a, b, hTO⟩ := Z.to
 show wpAny _ _ (field (.ref z) 2 >>= _) _ _ _
 apply wpAny_bind
 refine wpAny_field Z.z rfl (x := .bool false) rfl ?_
 show wpAny _ _ (field (.ref z) 3 >>= _) _ _ _
 apply wpAny_bind
 refine wpAny_field Z.z rfl (x := .ref TI) rfl ?_
 apply wpAny_bind
 refine wpAny_seqItems Z.ti rfl ?_
 show wpAny _ _ (Builtin.SmallTypes.ownedTupleIsFree (.ref z) >>= _) _ _ _
 apply wpAny_bind
 unfold Builtin.SmallTypes.ownedTupleIsFree
 apply wpAny_bind
 refine wpAny_field Z.z rfl (x := .none) rfl (wpAny_pure ?_)
 simp only [if_true]
 apply wpAny_bind; apply wpAny_rule; apply wpAny_bind
 refine wpAny_field Z.z rfl (x := .ref TO) rfl ?_
 apply wpAny_bind
 refine wpAny_setField_rec Z.z (by simp) fun g1 z1 s1 => ?_
 have z1 : IsZip g1 z TI TO .ellipsis := z1
 apply wpAny_bind
 simp only [xc0, xc8, xck, xdc]
 apply wpAny_bind; apply wpAny_bind; apply wpAny_onRaise
 show wpAny _ _ (Builtin.SmallTypes.nextOf (.ref i1) >>= _) _ _ _
 apply wpAny_bind
 refine zn6 (Z.i1.extBut s1.extBut D.i1z) (Z.t1.extBut s1.extBut D.l1z) hx fun g2 j2 s2 => wpAny_pure ?_
 have o2 : IsPair g2 TO a b := s2.extBut _ _ D.TOi1 (s1.extBut _ _ D.TOz hTO)
 apply wpAny_bind
 refine wpAny_seqItems o2 rfl ?_
 apply wpAny_bind
 refine wpAny_updateSeq_pair o2 fun g3 o3 s3 => ?_
 have o3 : IsPair g3 TO x b := o3
 apply wpAny_bind
 refine wpAny_letGo (wpAny_pure ?_)
 apply wpAny_bind; apply wpAny_bind; apply wpAny_onRaise
 show wpAny _ _ (Builtin.SmallTypes.nextOf (.ref i2) >>= _) _ _ _
 apply wpAny_bind
 have u3 : ∀ c o, c ≠ z -> c ≠ TO -> c ≠ i1 -> s.heap.get? c = some o -> g3.get? c = some o := fun c o n1 n2 n3 e => s3.extBut _ _ n2 (s2.extBut _ _ n3 (s1.extBut _ _ n1 e))
 refine zn6 (Z.i2.at fun o e => u3 _ o D.i2z D.TOi2.symm D.i12.symm e) (Z.t2.at fun o e => u3 _ o D.l2z D.l2TO D.l2i1 e) hy fun g4 j4 s4 => wpAny_pure ?_
 have o4 : IsPair g4 TO x b := s4.extBut _ _ D.TOi2 o3
 apply wpAny_bind
 refine wpAny_seqItems o4 rfl ?_
 apply wpAny_bind
 refine wpAny_updateSeq_pair o4 fun g5 o5 s5 => ?_
 have o5 : IsPair g5 TO x y := o5
 apply wpAny_bind
 refine wpAny_letGo (wpAny_pure (wpAny_pure ?_))
 apply wpAny_bind
 refine wpAny_seqItems o5 rfl ?_
 apply wpAny_bind
 refine wpAny_newTuple ?_
 have sz : g5.objs.size = s.heap.objs.size := s5.1.trans (s4.1.trans (s3.1.trans (s2.1.trans s1.1)))
 have z5 : IsZip g5 z TI TO .ellipsis := s5.extBut _ _ D.TOz.symm (s4.extBut _ _ D.i2z.symm (s3.extBut _ _ D.TOz.symm (s2.extBut _ _ D.i1z.symm z1)))
 have u5 : ∀ c o, c ≠ z -> c ≠ TO -> c ≠ i1 -> c ≠ i2 -> s.heap.get? c = some o -> g5.get? c = some o := fun c o n1 n2 n3 n4 e => s5.extBut _ _ n2 (s4.extBut _ _ n4 (u3 c o n1 n2 n3 e))
 have a5 : g5.IsTupleIter i1 t1 (k + 1) := j2.at fun o e => s5.extBut _ _ D.TOi1.symm (s4.extBut _ _ D.i12 (s3.extBut _ _ D.TOi1.symm e))
 have b5 : g5.IsTupleIter i2 t2 (k + 1) := j4.at fun o e => s5.extBut _ _ D.TOi2.symm e
 have lz : z < g5.objs.size := xab z5
 show wpAny _ _ (Builtin.SmallTypes.ownedTupleHandOut (.ref z) (.ref g5.objs.size) >>= _) _ _ _
 apply wpAny_bind
 unfold Builtin.SmallTypes.ownedTupleHandOut
 have z6 : IsZip (g5.push { cls := .type "tuple", data := .seq #[x, y] }) z TI TO .ellipsis := xaa _ z5
 apply wpAny_bind
 refine wpAny_setField_rec z6 (by simp) fun g7 z7 s7 => ?_
 have z7 : IsZip g7 z TI TO (rawInt g5.objs.size) := z7
 refine wpAny_setField_rec z7 (by simp) fun g8 z8 s8 => ?_
 have z8 : IsZip g8 z TI TO (rawInt g5.objs.size) := z8
 have up : ∀ c o, c ≠ z -> g5.get? c = some o -> g8.get? c = some o := fun c o n e => s8.extBut _ _ n (s7.extBut _ _ n (xaa _ e))
 have p8 : IsPair g8 g5.objs.size x y := s8.extBut _ _ (xbt lz) (s7.extBut _ _ (xbt lz) (xar _ rfl))
 have w8 : g8.objs.size = g5.objs.size + 1 := s8.1.trans (s7.1.trans (xba ..))
 rw [sz] at z8 p8 w8
 refine wpAny_pure ⟨_, rfl, ?_⟩
 show Q (.ref g5.objs.size) _
 rw [sz]
 have nT : ∀ c o, s.heap.get? c = some o -> c ≠ z -> c ≠ TO -> c ≠ i1 -> c ≠ i2 -> g8.get? c = some o := fun c o e n1 n2 n3 n4 => up c o n1 (u5 c o n1 n2 n3 n4 e)
 exact q g8 ⟨z8, nT _ _ Z.ti D.TIz D.TITO D.TIi1 D.TIi2, ⟨_, _, up _ _ D.TOz o5⟩, a5.at fun o e => up _ o D.i1z e, b5.at fun o e => up _ o D.i2z e, Z.t1.at fun o e => nT _ o e D.l1z D.l1TO D.l1i1 D.l1i2, Z.t2.at fun o e => nT _ o e D.l2z D.l2TO D.l2i1 D.l2i2⟩ p8 w8 fun c o n1 n2 n3 n4 e => nT c o e n1 n2 n3 n4
theorem ZAt.last {z TI TO i1 i2 t1 t2 : Addr} {k : Nat} {xs ys : Array Value} {Q : Fin -> Shared -> Prop} (hh : A.handled = none) (D : ZipApart z TI TO i1 i2 t1 t2) (Z : ZAt s.heap z TI TO i1 i2 t1 t2 k xs ys .none) (hx : xs[k]? = none)
  (q : ∀ g e, (∀ c o, c ≠ z -> c ≠ TO -> c ≠ i1 -> c ≠ i2 -> s.heap.get? c = some o -> g.get? c = some o) -> (∃ o, g.get? e = some o /\ o.cls = .type "StopIteration") -> E (.ref e) { s with heap := g }) :
  wpAny (model prog w) A (Builtin.«zip.__next__» ⟨[.ref z], []⟩) Q E s := by
 show wpAny _ _ (field (.ref z) 2 >>= _) _ _ _
 apply wpAny_bind
 refine wpAny_field Z.z rfl (x := .bool false) rfl ?_
 show wpAny _ _ (field (.ref z) 3 >>= _) _ _ _
 apply wpAny_bind
 refine wpAny_field Z.z rfl (x := .ref TI) rfl ?_
 apply wpAny_bind
 refine wpAny_seqItems Z.ti rfl ?_
 show wpAny _ _ (Builtin.SmallTypes.ownedTupleIsFree (.ref z) >>= _) _ _ _
 apply wpAny_bind
 unfold Builtin.SmallTypes.ownedTupleIsFree
 apply wpAny_bind
 refine wpAny_field Z.z rfl (x := .none) rfl (wpAny_pure ?_)
 simp only [if_true]
 apply wpAny_bind; apply wpAny_rule; apply wpAny_bind
 refine wpAny_field Z.z rfl (x := .ref TO) rfl ?_
 apply wpAny_bind
 refine wpAny_setField_rec Z.z (by simp) fun g1 z1 s1 => ?_
 have z1 : IsZip g1 z TI TO .ellipsis := z1
 apply wpAny_bind
 simp only [xc0, xc8, xck, xdc]
 apply wpAny_bind; apply wpAny_bind; apply wpAny_onRaise
 show wpAny _ _ (Builtin.SmallTypes.nextOf (.ref i1) >>= _) _ _ _
 apply wpAny_bind
 refine zhp hh (Z.i1.extBut s1.extBut D.i1z) (Z.t1.extBut s1.extBut D.l1z) hx fun g2 e s2 he => ?_
 obtain ⟨o, eo, co⟩ := he
 have z2 : IsZip g2 z TI TO .ellipsis := s2 _ _ D.i1z.symm z1
 have ez : e ≠ z := fun w => by subst w; rw [z2] at eo; cases eo; simp at co
 refine wpAny_setField_rec z2 (by simp) fun g3 _ s3 => ?_
 exact q g3 e (fun c o n1 _ n3 _ w => s3.extBut _ _ n1 (s2 _ _ n3 (s1.extBut _ _ n1 w))) ⟨o, s3.extBut _ _ ez eo, co⟩
theorem zvd {z TI TO i1 i2 t1 t2 : Addr} {k : Nat} {xs ys : Array Value} {x y : Value} {Q : Option Value -> Shared -> Prop} (D : ZipApart z TI TO i1 i2 t1 t2) (Z : ZAt s.heap z TI TO i1 i2 t1 t2 k xs ys .none) (hx : xs[k]? = some x) (hy : ys[k]? = some y)
  (q : ∀ g, ZAt g z TI TO i1 i2 t1 t2 (k + 1) xs ys (rawInt s.heap.objs.size) -> IsPair g s.heap.objs.size x y -> g.objs.size = s.heap.objs.size + 1 -> (∀ c o, c ≠ z -> c ≠ TO -> c ≠ i1 -> c ≠ i2 -> s.heap.get? c = some o -> g.get? c = some o) -> Q (some (.ref s.heap.objs.size)) { s with heap := g }) :
  wpAny (model prog w) A (pyNext (.ref z)) Q E s := by
 have T : s.TypeIs (.ref z) "zip" := ⟨_, Z.z, rfl⟩
 unfold pyNext
 apply wpAny_bind; apply wpAny_attempt
 refine wpAny_callSpecial?_slot (name := "__next__") T F.slot_zip_next ?_
 refine wpAny_call_entry F.slot_zip_next T F.entry_zip_next ?_ (F.args_zip_next_1 _)
 exact Z.next D hx hy fun g a1 a2 a3 a4 => wpAny_pure (q g a1 a2 a3 a4)
theorem zsF {z TI TO i1 i2 t1 t2 : Addr} {k : Nat} {xs ys : Array Value} {Q : Option Value -> Shared -> Prop} (hh : A.handled = none) (D : ZipApart z TI TO i1 i2 t1 t2) (Z : ZAt s.heap z TI TO i1 i2 t1 t2 k xs ys .none) (hx : xs[k]? = none)
  (q : ∀ g, (∀ c o, c ≠ z -> c ≠ TO -> c ≠ i1 -> c ≠ i2 -> s.heap.get? c = some o -> g.get? c = some o) -> Q none { s with heap := g }) : wpAny (model prog w) A (pyNext (.ref z)) Q E s := by
 have T : s.TypeIs (.ref z) "zip" := ⟨_, Z.z, rfl⟩
 unfold pyNext
 apply wpAny_bind; apply wpAny_attempt
 refine wpAny_callSpecial?_slot (name := "__next__") T F.slot_zip_next ?_
 refine wpAny_call_entry F.slot_zip_next T F.entry_zip_next ?_ (F.args_zip_next_1 _)
 refine Z.last hh D hx fun g e hk he => ?_
 obtain ⟨o, ho, hc⟩ := he
 apply wpAny_bind
 exact wpAny_isInstance (T := "StopIteration") (b := true) ⟨o, ho, hc⟩ isSubtype_stop (wpAny_pure (q _ hk))
def ti0 (t : Addr) : Obj := { cls := .type "tuple_iterator", data := .fields #[.ref t, .int 0 0] }
def tp2 (a b : Value) : Obj := { cls := .type "tuple", data := .seq #[a, b] }
def zp0 (TI TO : Addr) : Obj := { cls := .type "zip", data := .fields #[.none, .bool false, .bool false, .ref TI, .ref TO] }
def zpH (h : Heap) (t1 t2 : Addr) : Heap :=
 ((((h.push (ti0 t1)).push (ti0 t2)).push (tp2 (.ref h.objs.size) (.ref (h.push (ti0 t1)).objs.size))).push (tp2 .none .none)).push (zp0 ((h.push (ti0 t1)).push (ti0 t2)).objs.size (((h.push (ti0 t1)).push (ti0 t2)).push (tp2 (.ref h.objs.size) (.ref (h.push (ti0 t1)).objs.size))).objs.size)
theorem zlV (t1 t2 : Addr) (xs ys : Array Value) : Meets (Builtin.«zip.__new__» ⟨[.type "zip", .ref t1, .ref t2], []⟩) (fun _ R s => s.heap.IsTuple t1 xs /\ s.heap.IsTuple t2 ys /\
  R (.ok (.ret (.ref ((((s.heap.push (ti0 t1)).push (ti0 t2)).push (tp2 (.ref s.heap.objs.size) (.ref (s.heap.push (ti0 t1)).objs.size))).push (tp2 .none .none)).objs.size))) { s with heap := zpH s.heap t1 t2 }) :=
 .of_wp fun prog w A R s h => by
  obtain ⟨hp, g, d, tk, os⟩ := s; obtain ⟨h1, h2, h⟩ := h
  have sub := sub_zip
  have L1 : Heap.IsTuple (Shared.heap ⟨hp, g, d, tk, os⟩) t1 xs := h1
  have L2 : Heap.IsTuple (Shared.heap ⟨hp.push { cls := .type "tuple_iterator", data := .fields #[.ref t1, .int 0 0] }, g, d, tk, os⟩) t2 ys := h2.at fun o e => xaa _ e
  wp_walk using wpAny_pyIter_tuple L1, wpAny_pyIter_tuple L2
  exact ⟨_, rfl, h⟩
theorem zn7 {t1 t2 : Addr} {xs ys : Array Value} {Q : Value -> Shared -> Prop} (h1 : s.heap.IsTuple t1 xs) (h2 : s.heap.IsTuple t2 ys)
  (q : ∀ g, ZAt g (s.heap.objs.size + 4) (s.heap.objs.size + 2) (s.heap.objs.size + 3) s.heap.objs.size (s.heap.objs.size + 1) t1 t2 0 xs ys .none -> (∀ c o, s.heap.get? c = some o -> g.get? c = some o) -> Q (.ref (s.heap.objs.size + 4)) { s with heap := g }) :
  wpAny (model prog w) A (call (.type "zip") [.ref t1, .ref t2]) Q E s := by
 refine callType_new F.called_zip (by decide) (F.typeCall_zip_2 _ _) (F.newCall_zip_2 _ _) (fun obj => F.args_object_init_3 obj _ _) F.entry_zip_new (zlV t1 t2 xs ys) ⟨h1, h2, ?_⟩
 have a1 : (s.heap.push (ti0 t1)).objs.size = s.heap.objs.size + 1 := xba ..
 have a2 : ((s.heap.push (ti0 t1)).push (ti0 t2)).objs.size = s.heap.objs.size + 2 := by rw [xba, a1]
 have a3 : (((s.heap.push (ti0 t1)).push (ti0 t2)).push (tp2 (.ref s.heap.objs.size) (.ref (s.heap.push (ti0 t1)).objs.size))).objs.size = s.heap.objs.size + 3 := by rw [xba, a2]
 have a4 : ((((s.heap.push (ti0 t1)).push (ti0 t2)).push (tp2 (.ref s.heap.objs.size) (.ref (s.heap.push (ti0 t1)).objs.size))).push (tp2 .none .none)).objs.size = s.heap.objs.size + 4 := by rw [xba, a3]
 have k : ∀ c o, s.heap.get? c = some o -> (zpH s.heap t1 t2).get? c = some o := fun c o e => xaa _ (xaa _ (xaa _ (xaa _ (xaa _ e))))
 have b5 : (zpH s.heap t1 t2).get? (s.heap.objs.size + 4) = some (zp0 (s.heap.objs.size + 2) (s.heap.objs.size + 3)) := by
  unfold zpH; rw [a2, a3]; exact xbl a4.symm rfl
 have b4 : (zpH s.heap t1 t2).get? (s.heap.objs.size + 3) = some (tp2 .none .none) := xaa _ (xbl a3.symm rfl)
 have b3 : (zpH s.heap t1 t2).get? (s.heap.objs.size + 2) = some (tp2 (.ref s.heap.objs.size) (.ref (s.heap.objs.size + 1))) := xaa _ (xaa _ (by rw [a1]; exact xbl a2.symm rfl))
 have b2 : (zpH s.heap t1 t2).get? (s.heap.objs.size + 1) = some (ti0 t2) := xaa _ (xaa _ (xaa _ (xbl a1.symm rfl)))
 have b1 : (zpH s.heap t1 t2).get? s.heap.objs.size = some (ti0 t1) := xaa _ (xaa _ (xaa _ (xaa _ (xar _ rfl))))
 show _ /\ _
 rw [a4]
 exact ⟨⟨_, b5, rfl⟩, q _ ⟨b5, b3, ⟨_, _, b4⟩, ⟨_, b1, rfl, rfl⟩, ⟨_, b2, rfl, rfl⟩, h1.at fun o e => k _ o e, h2.at fun o e => k _ o e⟩ k⟩
end
section
variable {X : Cx} {pins : List (Addr × Obj)} {O : St} {H : Hp} {s : Shared} {h' : Heap}
theorem Inv.turnedL {t' : Nat} {ch : List Addr} (I : Inv X pins O H s) (k : ∀ b o, b ∉ ch -> s.heap.get? b = some o -> h'.get? b = some o) (f : ∀ b ∈ ch, zke X pins H b) : Inv X pins O H { s with heap := h', toks := t' } := by
 have nit : ∀ b u, H b = some u -> b ∉ ch := fun b u e z => by rw [(f b z).1] at e; cases e
 refine I.step (g' := s.gens) (d' := s.drawn) (ch := ch) (fun b hb => ?_) (fun b o _ _ hc e _ => k b o hc e) (fun b o _ _ hc e _ => ⟨o.slots, k b o hc e⟩) (fun _ _ _ _ n => n) (fun b o hc e => ⟨o, k b o hc e⟩) (fun _ _ e => e) (fun _ _ _ e => e) (fun b ps e => ⟨#[], by rw [e]; simp⟩) (fun m hm => ?_) (fun b u e => ?_) I.bare
 ·obtain ⟨_, f1, _, f3, f4, f5⟩ := f b hb
  exact ⟨f3, f1, f4, f5⟩
 ·obtain ⟨o, es, ep, ho, r⟩ := hm
  exact ⟨o, es, ep, k _ o (fun z => (f _ z).2.1 rfl) ho, r⟩
 ·refine (I.hok b u e).stay (fun c v hc q => k c v ?_ q) (fun _ q => q) fun _ _ q => q
  rcases hc with z | z
  ·rw [z]; exact nit b u e
  ·exact nit c _ z
end
def Itz (K : xFg) (a b : Addr) : It :=
 ⟨fun i H => ∃ xs ys x y, SqT K H a xs /\ SqT K H b ys /\ xs[i]? = some x /\ ys[i]? = some y,
  fun i H v H' => ∃ T x y, v = .ref T /\ H T = none /\ H' = upd H T (.tup [x, y]) /\ (∀ xs, SqT K H a xs -> xs[i]? = some x) /\ ∀ ys, SqT K H b ys -> ys[i]? = some y,
  fun i H => ∃ xs ys, SqT K H a xs /\ SqT K H b ys /\ xs.length <= i⟩
structure ZT (z TI TO i1 i2 a b : Addr) (k : Nat) (h : Heap) : Prop where
 z : IsZip h z TI TO .none
 ti : IsPair h TI (.ref i1) (.ref i2)
 to : ∃ u v, IsPair h TO u v
 i1 : h.IsTupleIter i1 a k
 i2 : h.IsTupleIter i2 b k
theorem zpN {P : Program} {w : World} {K : xFg} {es : List Expr} {ct : Nat} {ps : Pos} {z TI TO i1 i2 a b : Addr} (D : ZipApart z TI TO i1 i2 a b) : zoV P w K (.Tuple es ct ps) (Itz K a b) [z, TI, TO, i1, i2] z (ZT z TI TO i1 i2 a b) where
 mem := by simp
 obj := fun i h st c hc => by
  simp only [xaf, xaq, or_false] at hc
  rcases hc with rfl | rfl | rfl | rfl | rfl
  ·exact ⟨_, st.z, fun v q => by cases q⟩
  ·exact ⟨_, st.ti, fun v q => by cases q⟩
  ·obtain ⟨u, v, e⟩ := st.to
   exact ⟨_, e, fun v q => by cases q⟩
  ·obtain ⟨o, e, c, d⟩ := st.i1
   exact ⟨o, e, fun v q => by rw [d] at q; cases q⟩
  ·obtain ⟨o, e, c, d⟩ := st.i2
   exact ⟨o, e, fun v q => by rw [d] at q; cases q⟩
 keep := fun i h h' st k => by
  obtain ⟨u, v, e⟩ := st.to
  exact ⟨k _ (by simp) _ st.z, k _ (by simp) _ st.ti, ⟨u, v, k _ (by simp) _ e⟩, st.i1.at fun o e => k _ (by simp) o e, st.i2.at fun o e => k _ (by simp) o e⟩
 item := by
  intro X hP hw hK hc i pins s O H E I hf st hg
  subst hP hw hK
  obtain ⟨xs, ys, x, y, h1, h2, hx, hy⟩ := hg
  obtain ⟨its, rv, p, _⟩ := I.tuple h1
  obtain ⟨jts, rw', p', _⟩ := I.tuple h2
  obtain ⟨u, hu, ru⟩ := rv.get hx
  obtain ⟨v, hv, rr⟩ := rw'.get hy
  have Z : ZAt s.heap z TI TO i1 i2 a b i its.toArray jts.toArray .none := ⟨st.z, st.ti, st.to, st.i1, st.i2, p, p'⟩
  refine zvd D Z (x := u) (y := v) (by simpa using hu) (by simpa using hv) fun g Zg pg sg kg => ⟨_, rfl, ?_⟩
  refine wpAny_letOwnedTupleGo_zip Zg.z fun g' zg sb => ?_
  have lz : z < s.heap.objs.size := xab st.z
  have I1 : Inv X pins O (upd H s.heap.objs.size (.tup [x, y])) { s with heap := s.heap.push (tp2 u v), toks := s.toks } :=
   I.laid (fun _ _ q => xaa _ q) (xad _) ⟨by show 2 <= sizeLine; decide, [u, v], .cons ru (.cons rr .nil), ⟨_, xar _ rfl, rfl, 0, rfl⟩⟩
  have fr : ∀ c ∈ [z, TI, TO, i1, i2], c ≠ s.heap.objs.size := fun c hc e => by
   simp only [xaf, xaq, or_false] at hc
   obtain ⟨u, v, eTO⟩ := st.to
   obtain ⟨o1, q1, _⟩ := st.i1
   obtain ⟨o2, q2, _⟩ := st.i2
   rcases hc with rfl | rfl | rfl | rfl | rfl
   ·exact xam lz e
   ·exact xam (xab st.ti) e
   ·exact xam (xab eTO) e
   ·exact xam (xab q1) e
   ·exact xam (xab q2) e
  have I2 : Inv X pins O (upd H s.heap.objs.size (.tup [x, y])) { s with heap := g', toks := s.toks } := by
   refine Inv.turnedL (s := { s with heap := s.heap.push (tp2 u v), toks := s.toks }) (h' := g') (t' := s.toks) (ch := [z, TI, TO, i1, i2]) I1 (fun c o hc e => ?_) fun c hc => ?_
   ·have cz : c ≠ z := fun q => hc (by simp [q])
    rcases xcc e with ⟨rfl, rfl⟩ | e
    ·exact sb.extBut _ _ cz pg
    ·exact sb.extBut _ _ cz (kg c o cz (fun q => hc (by simp [q])) (fun q => hc (by simp [q])) (fun q => hc (by simp [q])) e)
   ·exact ⟨by rw [zam (fr c hc)]; exact (hf c hc).1, (hf c hc).2⟩
  obtain ⟨u', v', eTO⟩ := Zg.to
  refine ⟨.ref s.heap.objs.size, _, I2, rfl, ⟨_, x, y, rfl, I.fresh, rfl, fun zs hz => by rw [I.tuple_inj hz h1]; exact hx, fun zs hz => by rw [I.tuple_inj hz h2]; exact hy⟩, ⟨zg, sb.extBut _ _ D.TIz Zg.ti, ⟨u', v', sb.extBut _ _ D.TOz eTO⟩, Zg.i1.at fun o e => sb.extBut _ _ D.i1z e, Zg.i2.at fun o e => sb.extBut _ _ D.i2z e⟩, fun c hc => by rw [zam (fr c hc)]; exact (hf c hc).1⟩
 done := by
  intro X hP hw hK hc i pins s O H E I hf st hg
  subst hP hw hK
  obtain ⟨xs, ys, h1, h2, hx⟩ := hg
  obtain ⟨its, rv, p, _⟩ := I.tuple h1
  obtain ⟨jts, rw', p', _⟩ := I.tuple h2
  have Z : ZAt s.heap z TI TO i1 i2 a b i its.toArray jts.toArray .none := ⟨st.z, st.ti, st.to, st.i1, st.i2, p, p'⟩
  have hl := rv.length
  refine zsF (I.ok.hd hc) D Z (by simp; omega) fun g kg => ⟨rfl, I.turnedL (t' := s.toks) (ch := [z, TI, TO, i1, i2]) (fun c o hc e => ?_) hf⟩
  exact kg c o (fun q => hc (by simp [q])) (fun q => hc (by simp [q])) (fun q => hc (by simp [q])) (fun q => hc (by simp [q])) e
 self := fun _ _ _ _ _ st h => wpAny_pyIter_zip st.z h
end L2
namespace DL
open L2 PyProof.Rows
section
variable {X : Cx} {E : XK}
def zjV (xs ys : List D) : List D := List.zipWith (fun x y => .tup [x, y]) xs ys
theorem zdJ.zip {K : xFg} {mg : Str -> Option Value} {G : Hp} {a b : Addr} {vs us : List V} {xs ys : List D} (h : SqT K G a vs) (h' : SqT K G b us) (r : Reps K mg G xs vs) (r' : Reps K mg G ys us) (hl : xs.length = ys.length) : zdJ K mg (Itz K a b) G (zjV xs ys) := by
 have ln : (zjV xs ys).length = vs.length := by unfold zjV; rw [xdb, <- hl, Nat.min_self, r.length]
 refine ⟨fun H e => ⟨vs, us, zay.sqT e h, zay.sqT e h', by rw [ln]; exact xad _⟩, fun H i d e hd => ?_⟩
 obtain ⟨x, y, hx, hy, rfl⟩ : ∃ x y, xs[i]? = some x /\ ys[i]? = some y /\ d = .tup [x, y] := by
  unfold zjV at hd
  rw [xc4] at hd
  cases ex : xs[i]? with
  | none => rw [ex] at hd; cases hd
  | some x =>
   cases ey : ys[i]? with
   | none => rw [ex, ey] at hd; cases hd
   | some y => rw [ex, ey] at hd; exact ⟨x, y, rfl, rfl, (Option.some.inj hd).symm⟩
 obtain ⟨v, hv, rv⟩ := r.get hx
 obtain ⟨u, hu, ru⟩ := r'.get hy
 refine ⟨⟨vs, us, v, u, zay.sqT e h, zay.sqT e h', hv, hu⟩, ?_⟩
 rintro _ H' ⟨T, v', u', rfl, hn, rfl, q1, q2⟩ G1 e1 e2
 have z1 := q1 _ (zay.sqT e h)
 have z2 := q2 _ (zay.sqT e h')
 rw [hv] at z1; cases z1
 rw [hu] at z2; cases z2
 have st := zbk.pub (o := .tup [v, u]) e2 hn
 exact ⟨upd G1 T (.tup [v, u]), st, T, [v, u], rfl, SqT.of zap, .cons (rv.mono (e1.trans st.g)) (.cons (ru.mono (e1.trans st.g)) rfl)⟩
end
end DL
namespace DL
open PySem.Spec PyProof.Rows L2
variable {K : xFg} {mg : Str -> Option Value} {X : Cx} {e : Expr} {es : List Expr} {p pos : Pos}
theorem zfp : ∀ l : List Addr, zbg (l.map V.ref) (l.map Value.ref)
 | [] => .nil
 | p :: l => .cons rfl (zfp l)
theorem zpO {G : Hp} {a : Addr} {its : Array Value} {n : Nat} {sl : Array (Option Value)} {l : List Addr} {ds : List D} (lk : K.lookup a = some ⟨.type "list", none, .seq its n, sl⟩) (h : its.toList = l.map Value.ref) (hz : l.length <= 100) (hr : Reps K mg G ds (l.map V.ref)) : Rep K mg G (.lst ds) (.ref a) := by
 refine ⟨a, _, rfl, .inr ⟨_, its, n, lk, rfl, rfl, rfl, ?_, by rw [h]; exact zfp l⟩, hr⟩
 rw [<- xat, h, xag]
 exact xa6 hz (by decide)
end DL
section
namespace SetT
open PySem.SetTable
theorem go_ok2 {t : SetTable} (hd : t.dummies = #[]) (hashAt : Nat -> Int) (h : Int) : ∀ (k n : Nat) (p : Probe), p.dummy = none -> t.slot (iter t k p).j = .empty -> (∀ m, m < k -> t.slot (iter t m p).j ≠ .empty) -> k < n ->
  SetTable.probe.go t hashAt h n p = some (.empty (iter t k p).j none) \/ ∃ j i m, m < k /\ SetTable.probe.go t hashAt h n p = some (.candidate j i (iter t (m + 1) p)) /\ t.slot j = .live i /\ t.place[i]? = some j := by
 intro k
 induction k with
 | zero =>
  intro n p hp he _ hn
  obtain ⟨n, rfl⟩ : ∃ m, n = m + 1 := ⟨n - 1, by omega⟩
  have he : t.slot p.j = .empty := he
  left
  unfold SetTable.probe.go
  rw [he, hp]; rfl
 | succ k ih =>
  intro n p hp he hb hn
  obtain ⟨n, rfl⟩ : ∃ m, n = m + 1 := ⟨n - 1, by omega⟩
  rcases slot_cases hd p.j with e | ⟨i, e, hi⟩
  ·exact absurd e (hb 0 (by omega))
  ·by_cases hh : (hashAt i == h) = true
   ·refine .inr ⟨p.j, i, 0, by omega, ?_, e, hi⟩
    unfold SetTable.probe.go
    rw [e]
    simp only [hh, if_true]
    rfl
   ·rcases ih n (t.advance p) (by rw [adv_dummy]; exact hp) he (fun m hm => hb (m + 1) (by omega)) (by omega) with q | ⟨j, i', m, hm, q, q2, q3⟩
    ·left
     unfold SetTable.probe.go
     rw [e]
     simp only [hh, if_false]
     exact q
    ·refine .inr ⟨j, i', m + 1, by omega, ?_, q2, q3⟩
     unfold SetTable.probe.go
     rw [e]
     simp only [hh, if_false]
     exact q
theorem go_there {t : SetTable} (hd : t.dummies = #[]) (hashAt : Nat -> Int) (h : Int) {i0 : Nat} (h0 : hashAt i0 = h) : ∀ (k n : Nat) (p : Probe), t.slot (iter t k p).j = .live i0 -> (∀ m, m < k -> t.slot (iter t m p).j ≠ .empty) -> k < n ->
  ∃ i m, m <= k /\ SetTable.probe.go t hashAt h n p = some (.candidate (iter t m p).j i (iter t (m + 1) p)) /\ t.slot (iter t m p).j = .live i /\ t.place[i]? = some (iter t m p).j := by
 intro k
 induction k with
 | zero =>
  intro n p he _ hn
  obtain ⟨n, rfl⟩ : ∃ m, n = m + 1 := ⟨n - 1, by omega⟩
  have he : t.slot p.j = .live i0 := he
  refine ⟨i0, 0, by omega, ?_, he, ?_⟩
  ·unfold SetTable.probe.go
   rw [he]
   simp only [h0, beq_self_eq_true, if_true]
   rfl
  ·rcases slot_cases hd p.j with e | ⟨i, e, hi⟩
   ·rw [e] at he; cases he
   ·rw [e] at he; cases he; exact hi
 | succ k ih =>
  intro n p he hb hn
  obtain ⟨n, rfl⟩ : ∃ m, n = m + 1 := ⟨n - 1, by omega⟩
  rcases slot_cases hd p.j with e | ⟨i, e, hi⟩
  ·exact absurd e (hb 0 (by omega))
  ·by_cases hh : (hashAt i == h) = true
   ·refine ⟨i, 0, by omega, ?_, e, hi⟩
    unfold SetTable.probe.go
    rw [e]
    simp only [hh, if_true]
    rfl
   ·obtain ⟨i', m, hm, q, q2, q3⟩ := ih n (t.advance p) he (fun m hm => hb (m + 1) (by omega)) (by omega)
    refine ⟨i', m + 1, by omega, ?_, q2, q3⟩
    unfold SetTable.probe.go
    rw [e]
    simp only [hh, if_false]
    exact q
theorem zn8 {xs : Array Nat} (hs : xs.toList.Pairwise (· < ·)) {i k a b : Nat} (h : i < k) (ha : xs[i]? = some a) (hb : xs[k]? = some b) : a < b := by
 rw [<- xaw] at ha hb
 obtain ⟨h1, rfl⟩ := xaj.mp ha
 obtain ⟨h2, rfl⟩ := xaj.mp hb
 exact xcn.mp hs i k h1 h2 h
theorem zpP {xs : Array Nat} {j : Nat} (hs : xs.toList.Pairwise (· < ·)) : ∀ (n lo hi : Nat), hi - lo <= n -> lo <= hi -> hi <= xs.size -> (∀ i v, i < lo -> xs[i]? = some v -> v < j) -> (∀ i v, hi <= i -> xs[i]? = some v -> j <= v) ->
  SetTable.below.go xs j n lo hi <= xs.size /\ (∀ i v, i < SetTable.below.go xs j n lo hi -> xs[i]? = some v -> v < j) /\ (∀ i v, SetTable.below.go xs j n lo hi <= i -> xs[i]? = some v -> j <= v) := by
 intro n
 induction n with
 | zero =>
  intro lo hi h1 h2 h3 h4 h5
  unfold SetTable.below.go
  exact ⟨by omega, h4, fun i v hi' => h5 i v (by omega)⟩
 | succ n ih =>
  intro lo hi h1 h2 h3 h4 h5
  unfold SetTable.below.go
  by_cases hl : lo < hi
  ·rw [if_pos hl]
   simp only
   have hm : (lo + hi) / 2 < xs.size := by omega
   have hg : xs[(lo + hi) / 2]? = some xs[(lo + hi) / 2] := xbh hm
   have hd : xs.getD ((lo + hi) / 2) j = xs[(lo + hi) / 2] := by rw [xav, hg]; rfl
   rw [hd]
   by_cases hx : xs[(lo + hi) / 2] < j
   ·rw [if_pos hx]
    refine ih _ _ (by omega) (by omega) h3 (fun i v hi' hv => ?_) h5
    by_cases e : i = (lo + hi) / 2
    ·subst e; rw [hg] at hv; cases hv; exact hx
    ·exact Nat.lt_trans (zn8 hs (show i < (lo + hi) / 2 by omega) hv hg) hx
   ·rw [if_neg hx]
    refine ih _ _ (by omega) (by omega) (by omega) h4 (fun i v hi' hv => ?_)
    by_cases e : i = (lo + hi) / 2
    ·subst e; rw [hg] at hv; cases hv; omega
    ·have := zn8 hs (show (lo + hi) / 2 < i by omega) hg hv
     omega
  ·rw [if_neg hl]
   exact ⟨by omega, h4, fun i v hi' => h5 i v (by omega)⟩
theorem below_ok {xs : Array Nat} (j : Nat) (hs : xs.toList.Pairwise (· < ·)) : below xs j <= xs.size /\ (∀ i v, i < below xs j -> xs[i]? = some v -> v < j) /\ (∀ i v, below xs j <= i -> xs[i]? = some v -> j <= v) :=
 zpP hs xs.size 0 xs.size (by omega) (by omega) (by omega) (fun i v h => absurd h (by omega)) fun i v h hv => by
  have := (xa4.mp hv).1
  omega
theorem slot_live {t : SetTable} (hs : t.place.toList.Pairwise (· < ·)) {i j : Nat} (hp : t.place[i]? = some j) : t.slot j = .live i := by
 obtain ⟨b1, b2, b3⟩ := below_ok j hs
 have e : below t.place j = i := by
  by_cases h1 : i < below t.place j
  ·have := b2 i j h1 hp; omega
  ·by_cases h2 : below t.place j < i
   ·have hlt : below t.place j < t.place.size := by have := (xa4.mp hp).1; omega
    have hg : t.place[below t.place j]? = some t.place[below t.place j] := xbh hlt
    have := b3 _ _ (xad _) hg
    have := zn8 hs h2 hg hp
    omega
   ·omega
 unfold slot
 simp only
 rw [e, hp, if_pos (beq_self_eq_true _)]
theorem put_srt {xs : Array Nat} {j : Nat} (hs : xs.toList.Pairwise (· < ·)) (hj : ∀ i : Nat, xs[i]? ≠ some j) : (insertAt xs (below xs j) j).toList.Pairwise (· < ·) := by
 obtain ⟨b1, b2, b3⟩ := below_ok j hs
 rw [toList_insertAt, List.pairwise_append]
 refine ⟨hs.sublist (List.take_sublist _ _), List.pairwise_cons.mpr ⟨fun x hx => ?_, hs.sublist (List.drop_sublist _ _)⟩, fun x hx y hy => ?_⟩
 ·obtain ⟨i, hi, rfl⟩ := xbj hx
  have e : xs[below xs j + i]? = some (xs.toList.drop (below xs j))[i] := by
   rw [<- xaw, <- List.getElem?_drop, xao hi]
  have := b3 _ _ (by omega) e
  have : (xs.toList.drop (below xs j))[i] ≠ j := fun z => hj _ (by rw [e, z])
  omega
 ·have hx' : x < j := by
   obtain ⟨i, hi, rfl⟩ := xbj hx
   rw [xa8] at hi
   have e : xs[i]? = some (xs.toList.take (below xs j))[i] := by
    rw [<- xaw, List.getElem_take, xao]
   exact b2 _ _ (by omega) e
  rcases xaf.mp hy with rfl | hy
  ·exact hx'
  ·obtain ⟨i, hi, rfl⟩ := xbj hy
   have e : xs[below xs j + i]? = some (xs.toList.drop (below xs j))[i] := by
    rw [<- xaw, <- List.getElem?_drop, xao hi]
   have := b3 _ _ (by omega) e
   omega
theorem zip_put {α β : Type} {as : Array α} {bs : Array β} {p : Nat} {x : α} {y : β} (hl : as.size = bs.size) (hp : p <= as.size) {z : α × β} : z ∈ (insertAt as p x).toList.zip (insertAt bs p y).toList ↔ z = (x, y) \/ z ∈ as.toList.zip bs.toList := by
 rw [toList_insertAt, toList_insertAt, List.zip_append (by rw [xa8, xa8, xat, xat, hl]), List.zip_cons_cons, xbd, xaf]
 have e : as.toList.zip bs.toList = (as.toList.take p).zip (bs.toList.take p) ++ (as.toList.drop p).zip (bs.toList.drop p) := by
  rw [<- List.zip_append (by rw [xa8, xa8, xat, xat, hl]), List.take_append_drop, List.take_append_drop]
 rw [e, xbd]
 constructor
 ·rintro (h | h | h)
  ·exact .inr (.inl h)
  ·exact .inl h
  ·exact .inr (.inr h)
 ·rintro (h | h | h)
  ·exact .inr (.inl h)
  ·exact .inl h
  ·exact .inr (.inr h)
theorem iter_mask {t t' : SetTable} (h : t'.mask = t.mask) : ∀ (k : Nat) (p : Probe), iter t' k p = iter t k p
 | 0, _ => rfl
 | k + 1, p => by
  show iter t' k (t'.advance p) = iter t k (t.advance p)
  have : t'.advance p = t.advance p := by unfold advance; rw [h]
  rw [this, iter_mask h k]
theorem start_mask {t t' : SetTable} (h : t'.mask = t.mask) (hh : Int) : t'.probeStart hh = t.probeStart hh := by unfold probeStart; rw [h]
theorem first_empty {t : SetTable} (p : Probe) {k : Nat} (h : t.slot (iter t k p).j = .empty) : ∃ k0, k0 <= k /\ t.slot (iter t k0 p).j = .empty /\ ∀ m, m < k0 -> t.slot (iter t m p).j ≠ .empty := by
 induction k using Nat.strongRecOn with
 | _ k ih =>
  by_cases hx : ∃ m, m < k /\ t.slot (iter t m p).j = .empty
  ·obtain ⟨m, h1, h2⟩ := hx
   obtain ⟨k0, a, b, c⟩ := ih m h1 h2
   exact ⟨k0, by omega, b, c⟩
  ·exact ⟨k, xad _, h, fun m hm e => hx ⟨m, hm, e⟩⟩
theorem relaid_found (t : SetTable) (hashes : Array Int) {n : Nat} (hn : hashes.size = n) (h : n <= 32) : ∃ t' order, t.relaid hashes 20 = some (t', order) /\ t'.mask = 31 /\ t'.dummies = #[] /\ t'.place.size = n /\ order.size = n /\ (∀ k ∈ order.toList, k < n) /\ t'.place.toList.Pairwise (· < ·) /\
  ∀ c, c < n -> ∃ (i j m : Nat), order[i]? = some c /\ t'.place[i]? = some j /\ m < 10 * turns t'.mask /\ (iter t' m (t'.probeStart (hashes.getD c 0))).j = j /\ ∀ m', m' < m -> t'.slot (iter t' m' (t'.probeStart (hashes.getD c 0))).j ≠ .empty := by
 obtain ⟨t', order, r1, r2, r3, r4, r5, r6⟩ := zmT t hashes hn h
 refine ⟨t', order, r1, r2, r3, r4, r5, r6, ?_⟩
 have e0 : sizeAbove 20 - 1 = 31 := by decide
 unfold relaid at r1
 rw [e0] at r1
 unfold laid at r1
 cases hl : layClean 31 hashes with
 | none => rw [hl] at r1; cases r1
 | some o =>
  rw [hl] at r1
  have r1 := Option.some.inj r1
  have rt := (congrArg Prod.fst r1).symm
  have ro := (congrArg Prod.snd r1).symm
  simp only at rt ro
  have pl : t'.place = (((List.range 32).filterMap fun j => (o.getD j none).map (j, ·)).map (·.1)).toArray := by rw [rt]
  have srt : t'.place.toList.Pairwise (· < ·) := by
   rw [pl, xda]
   exact zmV _ _ List.pairwise_lt_range
  refine ⟨srt, ?_⟩
  unfold layClean at hl
  rw [<- Array.foldl_toList] at hl
  obtain ⟨⟨o', k'⟩, hl1, hl2⟩ := xcv.mp hl
  have hl2 : o' = o := hl2
  subst hl2
  have m0 : ∀ P : Nat -> Prop, P 31 -> P t'.mask := fun P hP => by rw [r2]; exact hP
  obtain ⟨os, L⟩ := ziE (t := t') (fun c => hashes.getD c 0) hashes.toList (Array.replicate 32 none) o' 0 k' (by rw [r2]; simp) (fun i hi => by
   rw [xbm, xav, xaw]
   rw [xat] at hi
   rw [xbh hi]; rfl) (fun c hc => absurd hc (by omega)) (by rw [r2]; exact hl1)
  rw [xbm, xat, hn] at L
  have tk : ∀ j, j <= t'.mask -> (o'.getD j none).isSome = true -> t'.slot j ≠ .empty := fun j hj hs => by
   obtain ⟨b, hb⟩ := xbb.mp hs
   have := zqo (f := fun j => o'.getD j none) (l := List.range 32) (xa3.mpr (by omega)) hb
   obtain ⟨i, hi, ei⟩ := xbj this
   have : t'.place[i]? = some j := by
    rw [pl, xb9, xbv, xao hi, ei]; rfl
   rw [slot_live srt this]
   exact fun z => by cases z
  intro c hc
  obtain ⟨j, j1, j2, m, m1, m2, m3⟩ := L c hc
  have := zqo (f := fun j => o'.getD j none) (l := List.range 32) (xa3.mpr (by omega)) j2
  obtain ⟨i, hi, ei⟩ := xbj this
  refine ⟨i, j, m, ?_, ?_, m1, m2, fun m' hm => tk _ (zhS _ _) (m3 m' hm)⟩
  ·rw [ro, xb9, xbv, xao hi, ei]; rfl
  ·rw [pl, xb9, xbv, xao hi, ei]; rfl
end SetT
namespace DL
open L2 PyProof.Rows
section
variable {prog : Program} {w : World} {A : Around} {E : Value -> Shared -> Prop} {s : Shared}
structure zjW (prog : Program) (w : World) (h : Heap) (a : Addr) (o : Obj) (es : Array (Int × Value)) (ep : Nat) (t : SetTable) (kss : List (List Int)) : Prop where
 get : h.get? a = some o
 ex : o.ExactSet
 dat : o.data = .set es ep t
 dm : t.dummies = #[]
 pl : t.place.size = es.size
 msk : (t.mask = 7 /\ es.size <= 4) \/ (t.mask = 31 /\ es.size <= 18)
 srt : t.place.toList.Pairwise (· < ·)
 n : es.size = kss.length
 el : ∀ e ∈ es.toList, ∃ c ls, e.2 = .ref c /\ IsTupleKey (intKind prog w) h ls c /\ ls ∈ kss
 all : ∀ ls ∈ kss, ∃ c j k, ((tupleKeyHash (intKind prog w) ls, Value.ref c), j) ∈ es.toList.zip t.place.toList /\ IsTupleKey (intKind prog w) h ls c /\ k < 10 * SetTable.turns t.mask /\ (SetT.iter t k (t.probeStart (tupleKeyHash (intKind prog w) ls))).j = j /\ ∀ m, m < k -> t.slot (SetT.iter t m (t.probeStart (tupleKeyHash (intKind prog w) ls))).j ≠ .empty
variable {h : Heap} {a : Addr} {o : Obj} {es : Array (Int × Value)} {ep : Nat} {t : SetTable} {kss : List (List Int)}
theorem zjW.fits (S : zjW prog w h a o es ep t kss) : t.fits es.size = true := by
 unfold SetTable.fits SetTable.fill
 rw [S.pl, S.dm, xay, decide_eq_true_eq]
 refine ⟨beq_self_eq_true _, ?_⟩
 show es.size + 0 <= t.mask
 rcases S.msk with ⟨h1, h2⟩ | ⟨h1, h2⟩ <;> omega
theorem zjW.odd (S : zjW prog w h a o es ep t kss) : t.gaveWay = false := by
 unfold SetTable.gaveWay
 rcases S.msk with ⟨h1, h2⟩ | ⟨h1, h2⟩ <;> rw [h1] <;> rfl
theorem zpQ {ks : List Int} {b : Addr} {Q : SetFound -> Shared -> Prop} (S : zjW prog w s.heap a o es ep t kss) (hk : IsTupleKey (intKind prog w) s.heap ks b) (hu : A.units < cLine) (hh : Int) {i0 j0 : Nat} {c0 : Addr} (z1 : es[i0]? = some (hh, .ref c0)) (z2 : t.place[i0]? = some j0) (z3 : IsTupleKey (intKind prog w) s.heap ks c0) (q : Q (.there none) s) :
  ∀ (k fuel : Nat) (stand : Option SetTable.Probe), (SetT.iter t k (stand.getD (t.probeStart hh))).j = j0 -> (∀ m, m < k -> t.slot (SetT.iter t m (stand.getD (t.probeStart hh))).j ≠ .empty) -> k < 10 * SetTable.turns t.mask -> k < fuel -> wpAny (model prog w) A (setSearchFrom a (.ref b) hh true fuel stand) Q E s := by
 intro k
 induction k using Nat.strongRecOn with
 | _ k ih =>
  intro fuel stand he hb hk1 hk2
  obtain ⟨f, rfl⟩ : ∃ f, fuel = f + 1 := ⟨fuel - 1, by omega⟩
  have l0 := SetT.slot_live S.srt z2
  unfold setSearchFrom
  refine wpAny_bind (wpAny_setState_of S.get S.dat S.fits ?_)
  dsimp only
  rw [S.odd, if_neg (by decide)]
  have key2 : ∀ ha X, ha i0 = hh -> t.probe ha hh (stand.getD (t.probeStart hh)) = X -> ∃ i m, m <= k /\ X = some (.candidate (SetT.iter t m (stand.getD (t.probeStart hh))).j i (SetT.iter t (m + 1) (stand.getD (t.probeStart hh)))) /\ t.slot (SetT.iter t m (stand.getD (t.probeStart hh))).j = .live i /\ t.place[i]? = some (SetT.iter t m (stand.getD (t.probeStart hh))).j := fun ha X h0 z => by
   subst z
   exact SetT.go_there S.dm ha hh h0 k (10 * SetTable.turns t.mask) (stand.getD (t.probeStart hh)) (by rw [he]; exact l0) hb hk1
  generalize hX : t.probe _ hh (stand.getD (t.probeStart hh)) = X
  obtain ⟨i, m, hm, rfl, hl, hp⟩ := key2 _ _ (by show (Option.map (fun x => x.fst) es[i0]?).getD 0 = hh; rw [z1]; rfl) hX
  dsimp only
  have hi : i < es.size := by
   have := (xa4.mp hp).1
   rw [S.pl] at this
   exact this
  have pre : ∀ {mm : Sem SetFound}, wpAny (model prog w) A mm Q E s -> wpAny (model prog w) A (if (!t.led) = true then do
    let l <- searchCouldBeSeen (Value.ref b) (List.map (fun x => x.snd) (Array.filter (fun x => x.fst == hh) es).toList)
    if l = true then do
     unsupported "set:the-search-would-show-the-table"
     mm
    else mm
   else mm) Q E s := by
   intro mm hmm
   by_cases hled : (!t.led) = true
   ·rw [if_pos hled]
    refine wpAny_bind (zn3 hk (fun v hv => ?_) ?_)
    ·obtain ⟨x, hx, rfl⟩ := xbf.mp hv
     rw [Array.toList_filter] at hx
     obtain ⟨c, ls, h1, h2, _⟩ := S.el x (xbr.mp hx).1
     exact ⟨c, ls, h1, h2⟩
    ·rw [if_neg (by decide)]
     exact hmm
   ·rw [if_neg hled]
    exact hmm
  refine pre ?_
  by_cases ei : i = i0
  ·subst ei
   rw [z1]
   dsimp only
   refine wpAny_bind (wpAny_holding (wpAny_eqBool_tuple hu z3 hk ?_))
   rw [decide_eq_true rfl]
   refine wpAny_bind (wpAny_setState_of S.get S.dat S.fits ?_)
   dsimp only
   rw [if_pos (by decide)]
   exact wpAny_pure q
  ·have hmk : m < k := by
    refine Nat.lt_of_le_of_ne hm fun z => ei ?_
    rw [z, he, l0] at hl
    cases hl; rfl
   obtain ⟨c, ls, h1, h2, h3⟩ := S.el es[i] (by rw [<- Array.getElem_toList]; exact xb4 _)
   have eqn : es[i]? = some (es[i].1, Value.ref c) := by rw [xbh hi, <- h1]
   rw [eqn]
   dsimp only
   refine wpAny_bind (wpAny_holding (wpAny_eqBool_tuple hu h2 hk ?_))
   by_cases ek : ls = ks
   ·rw [decide_eq_true ek]
    refine wpAny_bind (wpAny_setState_of S.get S.dat S.fits ?_)
    dsimp only
    rw [if_pos (by decide)]
    exact wpAny_pure q
   ·rw [decide_eq_false ek]
    refine wpAny_bind (wpAny_setState_of S.get S.dat S.fits ?_)
    dsimp only
    rw [if_neg (by decide), show t.sameMemory t.moves t.mask = some true from by unfold SetTable.sameMemory; rw [if_pos (beq_self_eq_true _)]]
    dsimp only
    rw [if_pos rfl, hl]
    dsimp only
    rw [eqn]
    dsimp only
    refine wpAny_bind (wpAny_isSame_ref_self ?_)
    refine wpAny_bind (wpAny_pure ?_)
    rw [if_pos rfl]
    dsimp only
    rw [if_neg (by decide)]
    have e3 : ∀ n, SetT.iter t (m + 1 + n) (stand.getD (t.probeStart hh)) = SetT.iter t n (SetT.iter t (m + 1) (stand.getD (t.probeStart hh))) := fun n => SetT.iter_add t (m + 1) n _
    refine ih (k - (m + 1)) (by omega) f (some _) ?_ (fun n hn => ?_) (by omega) (by omega)
    ·show (SetT.iter t (k - (m + 1)) (SetT.iter t (m + 1) (stand.getD (t.probeStart hh)))).j = j0
     rw [<- e3, show m + 1 + (k - (m + 1)) = k by omega]; exact he
    ·show t.slot (SetT.iter t n (SetT.iter t (m + 1) (stand.getD (t.probeStart hh)))).j ≠ .empty
     rw [<- e3]; exact hb _ (by omega)
theorem zlW {ks : List Int} {b : Addr} {Q : SetFound -> Shared -> Prop} (S : zjW prog w s.heap a o es ep t kss) (hk : IsTupleKey (intKind prog w) s.heap ks b) (hu : A.units < cLine) (hne : ks ∉ kss) (hh : Int) {j0 : Nat} (q : Q (.free j0 false) s) :
  ∀ (k fuel : Nat) (stand : Option SetTable.Probe), (stand.getD (t.probeStart hh)).dummy = none -> (SetT.iter t k (stand.getD (t.probeStart hh))).j = j0 -> t.slot j0 = .empty -> (∀ m, m < k -> t.slot (SetT.iter t m (stand.getD (t.probeStart hh))).j ≠ .empty) -> k < 10 * SetTable.turns t.mask -> k < fuel -> wpAny (model prog w) A (setSearchFrom a (.ref b) hh true fuel stand) Q E s := by
 intro k
 induction k using Nat.strongRecOn with
 | _ k ih =>
  intro fuel stand hd hj he hb hk1 hk2
  obtain ⟨f, rfl⟩ : ∃ f, fuel = f + 1 := ⟨fuel - 1, by omega⟩
  unfold setSearchFrom
  refine wpAny_bind (wpAny_setState_of S.get S.dat S.fits ?_)
  dsimp only
  rw [S.odd, if_neg (by decide)]
  have key2 : ∀ ha X, t.probe ha hh (stand.getD (t.probeStart hh)) = X -> X = some (.empty j0 none) \/ ∃ j i m, m < k /\ X = some (.candidate j i (SetT.iter t (m + 1) (stand.getD (t.probeStart hh)))) /\ t.slot j = .live i /\ t.place[i]? = some j := fun ha X z => by
   subst z
   have := SetT.go_ok2 S.dm ha hh k (10 * SetTable.turns t.mask) (stand.getD (t.probeStart hh)) hd (by rw [hj]; exact he) hb hk1
   rw [hj] at this
   exact this
  generalize hX : t.probe _ hh (stand.getD (t.probeStart hh)) = X
  rcases key2 _ _ hX with rfl | ⟨j, i, m, hm, rfl, hl, hp⟩
  ·exact wpAny_pure q
  ·dsimp only
   have hi : i < es.size := by
    have := (xa4.mp hp).1
    rw [S.pl] at this
    exact this
   have pre : ∀ {mm : Sem SetFound}, wpAny (model prog w) A mm Q E s -> wpAny (model prog w) A (if (!t.led) = true then do
     let l <- searchCouldBeSeen (Value.ref b) (List.map (fun x => x.snd) (Array.filter (fun x => x.fst == hh) es).toList)
     if l = true then do
      unsupported "set:the-search-would-show-the-table"
      mm
     else mm
    else mm) Q E s := by
    intro mm hmm
    by_cases hled : (!t.led) = true
    ·rw [if_pos hled]
     refine wpAny_bind (zn3 hk (fun v hv => ?_) ?_)
     ·obtain ⟨x, hx, rfl⟩ := xbf.mp hv
      rw [Array.toList_filter] at hx
      obtain ⟨c, ls, h1, h2, _⟩ := S.el x (xbr.mp hx).1
      exact ⟨c, ls, h1, h2⟩
     ·rw [if_neg (by decide)]
      exact hmm
    ·rw [if_neg hled]
     exact hmm
   refine pre ?_
   obtain ⟨c, ls, h1, h2, h3⟩ := S.el es[i] (by rw [<- Array.getElem_toList]; exact xb4 _)
   have eqn : es[i]? = some (es[i].1, Value.ref c) := by rw [xbh hi, <- h1]
   rw [eqn]
   dsimp only
   refine wpAny_bind (wpAny_holding (wpAny_eqBool_tuple hu h2 hk ?_))
   rw [decide_eq_false (fun z : ls = ks => hne (z ▸ h3))]
   refine wpAny_bind (wpAny_setState_of S.get S.dat S.fits ?_)
   dsimp only
   rw [if_neg (by decide), show t.sameMemory t.moves t.mask = some true from by unfold SetTable.sameMemory; rw [if_pos (beq_self_eq_true _)]]
   dsimp only
   rw [if_pos rfl, hl]
   dsimp only
   rw [eqn]
   dsimp only
   refine wpAny_bind (wpAny_isSame_ref_self ?_)
   refine wpAny_bind (wpAny_pure ?_)
   rw [if_pos rfl]
   dsimp only
   rw [if_neg (by decide)]
   have e3 : ∀ n, SetT.iter t (m + 1 + n) (stand.getD (t.probeStart hh)) = SetT.iter t n (SetT.iter t (m + 1) (stand.getD (t.probeStart hh))) := fun n => SetT.iter_add t (m + 1) n _
   refine ih (k - (m + 1)) (by omega) f (some _) (zho _ _ hd) ?_ he (fun n hn => ?_) (by omega) (by omega)
   ·show (SetT.iter t (k - (m + 1)) (SetT.iter t (m + 1) (stand.getD (t.probeStart hh)))).j = j0
    rw [<- e3, show m + 1 + (k - (m + 1)) = k by omega]; exact hj
   ·show t.slot (SetT.iter t n (SetT.iter t (m + 1) (stand.getD (t.probeStart hh)))).j ≠ .empty
    rw [<- e3]; exact hb _ (by omega)
theorem zve {ks : List Int} {b : Addr} {Q : Bool -> Shared -> Prop} (S : zjW prog w s.heap a o es ep t kss) (hk : IsTupleKey (intKind prog w) s.heap ks b) (hu : A.units < cLine) (hks : ks ∈ kss)
  (q : ∀ tk, Q false { s with toks := tk }) : wpAny (model prog w) A (setAdd a (.ref b)) Q E s := by
 unfold setAdd
 refine wpAny_holding (wpAny_bind (wpAny_pyHash_tuple hu hk ?_))
 obtain ⟨c0, j0, k, z1, z2, z3, z4, z5⟩ := S.all ks hks
 generalize tupleKeyHash (intKind prog w) ks = hh at z1 z4 z5
 unfold setAddHashed setAddHashedIn
 refine wpAny_holding (wpAny_bind (wpAny_setState_of S.get S.dat S.fits ?_))
 dsimp only
 rw [show byScan (.ref b) es = false from rfl, if_neg (by decide)]
 unfold setSearch
 obtain ⟨i0, hi, e⟩ := xbj z1
 have hi1 : i0 < es.toList.length := by rw [xc9] at hi; omega
 have hi2 : i0 < t.place.toList.length := by rw [xc9] at hi; omega
 rw [List.getElem_zip] at e
 have e1 : es[i0]? = some (hh, .ref c0) := by rw [<- xaw, xao hi1]; exact congrArg some (congrArg Prod.fst e)
 have e2 : t.place[i0]? = some j0 := by rw [<- xaw, xao hi2]; exact congrArg some (congrArg Prod.snd e)
 refine wpAny_bind (zpQ (s := { s with toks := s.toks + (ks.length + 1) }) S hk hu hh e1 e2 z2 ?_ k 100000 none z4 z5 z3 (by
  have : 10 * SetTable.turns t.mask <= 460 := by unfold SetTable.turns; rcases S.msk with ⟨h1, h2⟩ | ⟨h1, h2⟩ <;> omega
  omega))
 dsimp only
 exact wpAny_pure (q _)
theorem zvf {ks : List Int} {b : Addr} {Q : Bool -> Shared -> Prop} (S : zjW prog w s.heap a o es ep t kss) (hk : IsTupleKey (intKind prog w) s.heap ks b) (hu : A.units < cLine) (hne : ks ∉ kss) (hsz : kss.length <= 17)
  (q : ∀ h' o' es' ep' t' tk, Heap.SameBut a s.heap h' -> zjW prog w h' a o' es' ep' t' (ks :: kss) -> Q true { s with heap := h', toks := tk }) : wpAny (model prog w) A (setAdd a (.ref b)) Q E s := by
 unfold setAdd
 refine wpAny_holding (wpAny_bind (wpAny_pyHash_tuple hu hk ?_))
 obtain ⟨hh, hhe⟩ : ∃ hh, tupleKeyHash (intKind prog w) ks = hh := ⟨_, rfl⟩
 rw [hhe]
 unfold setAddHashed setAddHashedIn
 refine wpAny_holding (wpAny_bind (wpAny_setState_of S.get S.dat S.fits ?_))
 dsimp only
 rw [show byScan (.ref b) es = false from rfl, if_neg (by decide)]
 unfold setSearch
 obtain ⟨k', k1', k2'⟩ := SetT.meets_empty S.dm (S.msk.elim (fun h => .inl h.1) fun h => .inr h.1) (by rw [S.pl]; rcases S.msk with ⟨h1, h2⟩ | ⟨h1, h2⟩ <;> omega) hh
 obtain ⟨k, kk, k2, k3⟩ := SetT.first_empty (t.probeStart hh) k2'
 have k1 : k < 10 * SetTable.turns t.mask := by omega
 obtain ⟨j, hj⟩ : ∃ j, (SetT.iter t k (t.probeStart hh)).j = j := ⟨_, rfl⟩
 rw [hj] at k2
 refine wpAny_bind (zlW (s := { s with toks := s.toks + (ks.length + 1) }) (j0 := j) S hk hu hne hh ?_ k 100000 none rfl hj k2 k3 k1 (by
  have : 10 * SetTable.turns t.mask <= 460 := by unfold SetTable.turns; rcases S.msk with ⟨h1, h2⟩ | ⟨h1, h2⟩ <;> omega
  omega))
 dsimp only
 have p1 : (t.put j).1.mask = t.mask := rfl
 have p2 : (t.put j).1.dummies = #[] := by
  show (if SetTable.has t.dummies j then SetTable.eraseAt t.dummies (SetTable.below t.dummies j) else t.dummies) = #[]
  rw [S.dm, SetT.no_has]
  rfl
 have p3 : (t.put j).1.place.size = es.size + 1 := by
  show (SetTable.insertAt t.place _ j).size = _
  rw [zeJ, S.pl]
 have nj : ∀ i : Nat, t.place[i]? ≠ some j := fun i e => by
  have := SetT.slot_live S.srt e
  rw [k2] at this; cases this
 have p4 : (t.put j).1.place.toList.Pairwise (· < ·) := SetT.put_srt S.srt nj
 have bl := (SetT.below_ok j S.srt).1
 have p5 : ∀ z, z ∈ (SetTable.insertAt es (t.put j).snd (hh, Value.ref b)).toList.zip (t.put j).1.place.toList ↔ z = ((hh, Value.ref b), j) \/ z ∈ es.toList.zip t.place.toList := fun z => SetT.zip_put (as := es) (bs := t.place) (p := SetTable.below t.place j) S.pl.symm (by rw [<- S.pl]; exact bl)
 have fin : wpAny (model prog w) A (do
   storeSet a (SetTable.insertAt es (t.put j).snd (hh, Value.ref b)) (t.put j).fst
   if (!false && (t.put j).fst.tooFull) = true then do
    setRelay a (SetTable.grown (es.size + 1))
    pure true
   else pure true) Q E { s with toks := s.toks + (ks.length + 1) } := by
  generalize (t.put j).fst = t1 at p1 p2 p3 p4 p5
  have zz := zeJ es (t.put j).snd (hh, Value.ref b)
  have mm := fun y hy => zjf (xs := es) (p := (t.put j).snd) (x := (hh, Value.ref b)) (y := y) hy
  generalize SetTable.insertAt es (t.put j).snd (hh, Value.ref b) = es1 at zz mm p5
  have hn := S.n
  have h18 : es.size <= 17 := by omega
  refine wpAny_bind (wpAny_storeSet_of S.get S.dat ?_ (xa6 (show es1.size <= 1000 by omega) (by decide)))
  have g1 := zje (es' := es1) (t' := t1) S.get S.dat
  have sb1 : Heap.SameBut a s.heap (s.heap.update a (Obj.putSet es1 t1)) := Heap.SameBut.update _ a _
  generalize s.heap.update a (Obj.putSet es1 t1) = h1 at g1 sb1
  have el1 : ∀ e ∈ es1.toList, ∃ c ls, e.2 = .ref c /\ IsTupleKey (intKind prog w) h1 ls c /\ ls ∈ ks :: kss := by
   intro e he
   rcases mm e he with rfl | he
   ·exact ⟨b, ks, rfl, zew sb1 S.get S.dat hk, xan⟩
   ·obtain ⟨c, ls, e1, e2, e3⟩ := S.el e he
    exact ⟨c, ls, e1, zew sb1 S.get S.dat e2, xae _ e3⟩
  have fill1 : t1.fill = es.size + 1 := by
   unfold SetTable.fill
   rw [p2, p3]; rfl
  have full : t1.tooFull = decide ((es.size + 1) * 5 ≥ t.mask * 3) := by
   unfold SetTable.tooFull
   rw [fill1, p1]
  have taken : ∀ jj, t.slot jj ≠ .empty -> t1.slot jj ≠ .empty := fun jj hx => by
   rcases SetT.slot_cases S.dm jj with e | ⟨i, e, hi⟩
   ·exact absurd e hx
   ·have hm : jj ∈ t1.place.toList := by
     have hi1 : i < t.place.toList.length := by have := (xa4.mp hi).1; simpa using this
     have hi2 : i < es.toList.length := by have := S.pl; simp at hi1 ⊢; omega
     have : (es.toList[i], t.place.toList[i]) ∈ es.toList.zip t.place.toList := by
      rw [<- List.getElem_zip (h := by rw [xc9]; omega)]; exact xb4 _
     have := (p5 _).mpr (.inr this)
     have := (xc5 this).2
     rw [<- xaw, xao hi1] at hi
     rw [Option.some.inj hi] at this
     exact this
    obtain ⟨i', hi', e'⟩ := xbj hm
    rw [SetT.slot_live p4 (i := i') (j := jj) (by rw [<- xaw, xao hi', e'])]
    exact fun z => by cases z
  have zqy : ∀ ls ∈ ks :: kss, ∃ c j k, ((tupleKeyHash (intKind prog w) ls, Value.ref c), j) ∈ es1.toList.zip t1.place.toList /\ IsTupleKey (intKind prog w) h1 ls c /\ k < 10 * SetTable.turns t1.mask /\ (SetT.iter t1 k (t1.probeStart (tupleKeyHash (intKind prog w) ls))).j = j /\ ∀ m, m < k -> t1.slot (SetT.iter t1 m (t1.probeStart (tupleKeyHash (intKind prog w) ls))).j ≠ .empty := by
   intro ls hls
   rcases xaf.mp hls with rfl | hls
   ·refine ⟨b, j, k, (p5 _).mpr (.inl (by rw [hhe])), zew sb1 S.get S.dat hk, by rw [p1]; exact k1, ?_, fun m hm => ?_⟩
    ·rw [SetT.iter_mask p1, SetT.start_mask p1, hhe]; exact hj
    ·rw [SetT.iter_mask p1, SetT.start_mask p1, hhe]; exact taken _ (k3 m hm)
   ·obtain ⟨c, j', k', y1, y2, y3, y4, y5⟩ := S.all ls hls
    refine ⟨c, j', k', (p5 _).mpr (.inr y1), zew sb1 S.get S.dat y2, by rw [p1]; exact y3, ?_, fun m hm => ?_⟩
    ·rw [SetT.iter_mask p1, SetT.start_mask p1]; exact y4
    ·rw [SetT.iter_mask p1, SetT.start_mask p1]; exact taken _ (y5 m hm)
  by_cases hf : (es.size + 1) * 5 ≥ t.mask * 3
  ·have h7 : t.mask = 7 /\ es.size = 4 := by rcases S.msk with ⟨x1, x2⟩ | ⟨x1, x2⟩ <;> omega
   rw [full, decide_eq_true hf, if_pos (by decide), h7.2]
   have gr : SetTable.grown (4 + 1) = 20 := by decide
   rw [gr]
   unfold setRelay
   refine wpAny_bind (wpAny_bind (wpAny_setState_of g1 rfl ?_ ?_))
   ·unfold SetTable.fits
    rw [fill1, p1, p3, zz, xay, decide_eq_true_eq]
    exact ⟨beq_self_eq_true _, by omega⟩
   ·dsimp only
    obtain ⟨t2, order, r1, r2, r3, r4, r5, r6, r7, r8⟩ := SetT.relaid_found t1 (Array.map (fun x => x.fst) es1) (n := 5) (by rw [Array.size_map]; omega) (by decide)
    have some2 : ∀ k ∈ order.toList, (es1[k]?).isSome = true := fun k hk => by
     have := r6 k hk
     rw [xbh (by omega)]; rfl
    have z2 : (order.filterMap (es1[·]?)).size = 5 := by
     rw [<- xat, xcw, SetT.fm_all _ _ some2, xat, r5]
    have i2 : ∀ i : Nat, (order.filterMap (es1[·]?)).toList[i]? = (order.toList[i]?).bind (es1[·]?) := fun i => by
     rw [xcw]; exact SetT.fm_get _ _ some2 i
    have m2 : ∀ e ∈ (order.filterMap (es1[·]?)).toList, e ∈ es1.toList := by
     intro e he
     rw [xcw] at he
     obtain ⟨k, _, hk⟩ := xbp.mp he
     rw [<- xaw] at hk
     exact xbe hk
    rw [if_neg (by decide), r1]
    refine wpAny_bind (wpAny_of_eq (a := (order.filterMap (es1[·]?), t2)) ?_ ?_)
    ·show (if ((order.filterMap (es1[·]?)).size != es1.size) = true then _ else _) = _
     rw [if_neg (by rw [z2, zz, h7.2]; decide)]
    ·generalize order.filterMap (es1[·]?) = es2 at z2 m2 i2
     refine wpAny_storeSet_of g1 rfl ?_ (xa6 (show es2.size <= 1000 by omega) (by decide))
     have g2 := zje (es' := es2) (t' := t2) g1 rfl
     have sb2 : Heap.SameBut a h1 (h1.update a (Obj.putSet es2 t2)) := Heap.SameBut.update _ a _
     generalize h1.update a (Obj.putSet es2 t2) = h2 at g2 sb2
     refine wpAny_pure (q h2 _ es2 (ep + 1 + 1) t2 _ (sb1.trans sb2) ⟨g2, S.ex, rfl, r3, by rw [r4, z2], .inr ⟨r2, by omega⟩, r7, by rw [z2, xas, <- hn, h7.2], fun e he => ?_, fun ls hls => ?_⟩)
     ·obtain ⟨c, ls, e1, e2, e3⟩ := el1 e (m2 e he)
      exact ⟨c, ls, e1, zew sb2 g1 rfl e2, e3⟩
     ·obtain ⟨c, j1, _, y1, y2, _⟩ := zqy ls hls
      obtain ⟨i0, hi, e⟩ := xbj y1
      have hi1 : i0 < es1.toList.length := by rw [xc9] at hi; omega
      rw [List.getElem_zip] at e
      have e1 : es1[i0]? = some (tupleKeyHash (intKind prog w) ls, .ref c) := by rw [<- xaw, xao hi1]; exact congrArg some (congrArg Prod.fst e)
      have eh : (Array.map (fun x => x.fst) es1).getD i0 0 = tupleKeyHash (intKind prog w) ls := by
       rw [xav, Array.getElem?_map, e1]; rfl
      obtain ⟨i, j2, m, o1, o2, o3, o4, o5⟩ := r8 i0 (by rw [xat, zz, h7.2] at hi1; omega)
      rw [eh] at o4 o5
      refine ⟨c, j2, m, ?_, zew sb2 g1 rfl y2, o3, o4, o5⟩
      have f1 : es2.toList[i]? = some (tupleKeyHash (intKind prog w) ls, .ref c) := by
       rw [i2, xaw, o1]; exact e1
      have f2 : t2.place.toList[i]? = some j2 := by rw [xaw]; exact o2
      refine xbe (i := i) ?_
      rw [List.getElem?_zip_eq_some]
      exact ⟨f1, f2⟩
  ·rw [full, decide_eq_false hf, if_neg (by decide)]
   refine wpAny_pure (q h1 _ es1 (ep + 1) t1 _ sb1 ⟨g1, S.ex, rfl, p2, by rw [p3, zz], ?_, p4, by rw [zz, hn, xas], el1, zqy⟩)
   rw [p1, zz]
   rcases S.msk with ⟨x1, x2⟩ | ⟨x1, x2⟩
   ·exact .inl ⟨x1, by omega⟩
   ·exact .inr ⟨x1, by omega⟩
 refine wpAny_bind (wpAny_setState_of (s := { s with toks := s.toks + (ks.length + 1) }) S.get S.dat S.fits ?_)
 dsimp only
 by_cases hpl : (t.put j).fst.plain = true
 ·rw [if_pos hpl]
  refine wpAny_bind (zsE (s := { s with toks := s.toks + (ks.length + 1) }) hk ?_)
  exact fin
 ·rw [if_neg hpl]
  refine wpAny_bind (wpAny_pure ?_)
  exact fin
end
end DL
namespace DL
open L2 PyProof.Rows
section
variable {prog : Program} {w : World} {A : Around} {h h' : Heap} {it l z : Addr} {items : Array Value}
theorem zjW.move (kp : ∀ b u, b ∉ [it] -> h.get? b = some u -> h'.get? b = some u) {i : Nat} (hi : h.IsListIter it l i) (hz : z ≠ it) {o : Obj} {es : Array (Int × Value)} {ep : Nat} {t : SetTable} {kss : List (List Int)} (S : zjW prog w h z o es ep t kss) : zjW prog w h' z o es ep t kss :=
 ⟨kp z _ (by simpa using hz) S.get, S.ex, S.dat, S.dm, S.pl, S.msk, S.srt, S.n, fun e he => by
  obtain ⟨c, ls, e1, e2, e3⟩ := S.el e he
  exact ⟨c, ls, e1, zgr kp hi e2, e3⟩, fun ls hls => by
  obtain ⟨c, j, k, e1, e2, e3⟩ := S.all ls hls
  exact ⟨c, j, k, e1, zgr kp hi e2, e3⟩⟩
def zh3 (kss : List (List Int)) (ks : List Int) : List (List Int) := if ks ∈ kss then kss else ks :: kss
def zfQ (keys : Nat -> List Int) : Nat -> List (List Int)
 | 0 => []
 | i + 1 => zh3 (zfQ keys i) (keys i)
theorem zsG (kss : List (List Int)) (ks : List Int) : kss.length <= (zh3 kss ks).length := by unfold zh3; split <;> simp
theorem zn9 (keys : Nat -> List Int) : ∀ (n i : Nat), i <= n -> (zfQ keys i).length <= (zfQ keys n).length
 | 0, i, h => by rw [show i = 0 by omega]; exact xad _
 | n + 1, i, h => by
  by_cases e : i = n + 1
  ·rw [e]; exact xad _
  ·exact xa6 (zn9 keys n i (by omega)) (zsG _ _)
def zvg (prog : Program) (w : World) (h : Heap) (z : Addr) (keys : Nat -> List Int) (i : Nat) : Prop := ∃ o es ep t, zjW prog w h z o es ep t (zfQ keys i)
theorem zoa {R : Result -> Shared -> Prop} (hh : A.handled = none) (hl : l ≠ it) (hz1 : z ≠ it) (hz2 : z ≠ l) (hu : A.units + 1 < cLine) (keys : Nat -> List Int) (h4 : (zfQ keys items.size).length <= 18) :
  ∀ (k i : Nat) (s : Shared), items.size - i = k -> i <= items.size -> (s.heap.IsListIter it l i /\ s.heap.IsList l items) -> zvg prog w s.heap z keys i -> (∀ j, j < items.size -> ∃ b, items[j]? = some (.ref b) /\ IsTupleKey (intKind prog w) s.heap (keys j) b) ->
   (∀ h2 tk, (∀ b u, b ≠ z -> b ≠ it -> s.heap.get? b = some u -> h2.get? b = some u) -> zvg prog w h2 z keys items.size -> R (.ok (.ret .none)) { s with heap := h2, toks := tk }) ->
   codeAny (model prog w) A (.builtin "set.update.loop" ⟨[.ref z, .ref it], []⟩) R s := by
 have W := Walks.list (prog := prog) (w := w) (A := A.in1) (by rw [Around.in1_handled]; exact hh) it l hl items
 intro k
 induction k with
 | zero =>
  intro i s hk hi st ⟨o, es, ep, t, S⟩ ht fin
  obtain rfl : i = items.size := by omega
  refine codeAny_builtin PyProof.Rows.F.entry_set_update_loop ?_
  rw [Around.under_plainId PyProof.Rows.F.plain_set_update_loop _]
  show wpAny _ A.in1 (pyNext (.ref it) >>= _) _ _ _
  refine wpAny_bind (W.done s _ _ st fun h2 tk kp => ?_)
  show wpAny _ A.in1 (ret Value.none) _ _ _
  exact wpAny_pure (fin h2 tk (fun b u _ b2 e => kp b u (by simpa using b2) e) ⟨o, es, ep, t, S.move kp st.1 hz1⟩)
 | succ k ih =>
  intro i s hk hi st ⟨o, es, ep, t, S⟩ ht fin
  have hlt : i < items.size := by omega
  refine codeAny_builtin PyProof.Rows.F.entry_set_update_loop ?_
  rw [Around.under_plainId PyProof.Rows.F.plain_set_update_loop _]
  show wpAny _ A.in1 (pyNext (.ref it) >>= _) _ _ _
  refine wpAny_bind (W.item i s _ _ hlt st fun v h1 tk hv st1 kp => ?_)
  obtain ⟨b, e1, e2⟩ := ht i hlt
  rw [hv] at e1
  cases e1
  have S1 := S.move (prog := prog) (w := w) kp st.1 hz1
  have ht1 : ∀ j, j < items.size -> ∃ b, items[j]? = some (.ref b) /\ IsTupleKey (intKind prog w) h1 (keys j) b := fun j hj => by
   obtain ⟨c, c1, c2⟩ := ht j hj
   exact ⟨c, c1, zgr kp st.1 c2⟩
  show wpAny _ A.in1 (holding [Value.ref b] (setAdd z (.ref b)) >>= _) _ _ _
  have gz : z ∉ [it, l] := by
   rw [xaf, xbi]
   rintro (q | q)
   ·exact hz1 q
   ·exact hz2 q
  by_cases hin : keys i ∈ zfQ keys i
  ·refine wpAny_bind (wpAny_holding (zve (s := { s with heap := h1, toks := tk }) S1 (zgr kp st.1 e2) (by rw [Around.in1_units]; exact hu) hin fun tk2 => ?_))
   refine wpAny_pure ⟨plainId_quiet PyProof.Rows.F.plain_set_update_loop _, ih (i + 1) _ (by omega) hlt ?_ ⟨o, es, ep, t, ?_⟩ (fun j hj => ht1 j hj) fun h3 tk3 kp3 S3 => ?_⟩
   ·exact W.frame _ h1 h1 st1 fun b hb u e => e
   ·show zjW prog w _ z o es ep t (zh3 (zfQ keys i) (keys i))
    unfold zh3
    rw [if_pos hin]
    exact S1
   ·exact fin h3 tk3 (fun b u b1 b2 e => kp3 b u b1 b2 (kp b u (by simpa using b2) e)) S3
  ·have l3 : (zfQ keys i).length <= 17 := by
    have := zn9 keys items.size (i + 1) hlt
    have e : (zfQ keys (i + 1)).length = (zfQ keys i).length + 1 := by
     show (zh3 (zfQ keys i) (keys i)).length = _
     unfold zh3
     rw [if_neg hin]; rfl
    omega
   refine wpAny_bind (wpAny_holding (zvf (s := { s with heap := h1, toks := tk }) S1 (zgr kp st.1 e2) (by rw [Around.in1_units]; exact hu) hin l3 fun h2 o2 es2 ep2 t2 tk2 sb S2 => ?_))
   refine wpAny_pure ⟨plainId_quiet PyProof.Rows.F.plain_set_update_loop _, ih (i + 1) _ (by omega) hlt ?_ ⟨o2, es2, ep2, t2, ?_⟩ (fun j hj => ?_) fun h3 tk3 kp3 S3 => ?_⟩
   ·exact W.frame _ h1 h2 st1 fun b hb u e => (sb.2 b fun q => gz (q ▸ hb)).trans e
   ·show zjW prog w _ z o2 es2 ep2 t2 (zh3 (zfQ keys i) (keys i))
    unfold zh3
    rw [if_neg hin]
    exact S2
   ·obtain ⟨c, c1, c2⟩ := ht1 j hj
    exact ⟨c, c1, zew sb S1.get S1.dat c2⟩
   ·exact fin h3 tk3 (fun b u b1 b2 e => kp3 b u b1 b2 ((sb.2 b b1).trans (kp b u (by simpa using b2) e))) S3
theorem zpR {led : Bool} {keys : Nat -> List Int} (g : h.get? z = some (zdM led)) : zvg prog w h z keys 0 :=
 ⟨_, #[], 0, .fresh 0 0 led, g, ⟨rfl, rfl, rfl⟩, rfl, rfl, rfl, .inl ⟨rfl, by decide⟩, List.Pairwise.nil, rfl, (fun e he => by cases he), (fun ls hls => by cases hls)⟩
set_option maxHeartbeats 3200000 in
theorem zob {E : Value -> Shared -> Prop} {s : Shared} {Q : Value -> Shared -> Prop} (hh : A.handled = none) (hl : s.heap.IsList l items) (hu : A.units + 3 < cLine) (keys : Nat -> List Int) (h4 : (zfQ keys items.size).length <= 18)
  (ht : ∀ j, j < items.size -> ∃ b, items[j]? = some (.ref b) /\ IsTupleKey (intKind prog w) s.heap (keys j) b)
  (q : ∀ h2 tk, zvg prog w h2 s.heap.objs.size keys items.size -> (∀ b u, s.heap.get? b = some u -> h2.get? b = some u) -> Q (.ref s.heap.objs.size) { s with heap := h2, toks := tk }) : wpAny (model prog w) A (call (.type "set") [.ref l]) Q E s := by
 obtain ⟨mr1, mr2, mr3⟩ := PySem.F.called_set.mro
 have ma := PySem.F.called_set.made
 have su := PySem.F.called_set.sub
 have no := PySem.F.called_set.notType
 have cc := PySem.F.called_set.canCreate
 have ct := PySem.F.typeCall_set_1 (.ref l)
 refine wpAny_call (codeAny_of_tree ?_)
 show wpAny _ _ (callAny (.type "set") _) _ _ _
 refine wpAny_pure ⟨Code.quiet_builtin _ (by decide +kernel), codeAny_builtin F.entry_type_call ?_⟩
 rw [Around.under_plain (weight_type_call_type "set" [.ref l] []) rfl]
 repeat (any_goals (first | assumption | wp_step))
 refine codeAny_mono (code_set_new_1 (.ref l) (E := E) (Q₁ := fun ob s1 => ∃ led : Bool, ob = .ref s.heap.objs.size /\ s1 = { s with heap := s.heap.push (zdM led) }) fun led => ⟨led, rfl, rfl⟩) fun r s1 hr => ?_
 cases r with
 | error e => exact hr
 | ok fl =>
  cases fl with
  | ret ob =>
   obtain ⟨led, rfl, rfl⟩ := hr
   have gS : (s.heap.push (zdM led)).get? s.heap.objs.size = some (zdM led) := xar _ rfl
   have tS : Shared.TypeIs { s with heap := s.heap.push (zdM led) } (.ref s.heap.objs.size) "set" := ⟨_, gS, rfl⟩
   have il := PySem.F.called_set.init.lookup
   have ib := PySem.F.called_set.init.bind (.ref s.heap.objs.size)
   repeat (any_goals (first | assumption | wp_step))
   refine codeAny_mono (codeAny_call_builtin (R := wants (fun r s2 => r = .none /\ ∃ h2 tk, s2 = { s with heap := h2, toks := tk } /\ zvg prog w h2 s.heap.objs.size keys items.size /\ (∀ b u, s.heap.get? b = some u -> h2.get? b = some u)) E) PySem.F.called_set.init.plain PySem.F.entry_set_init (check_set_init_1 tS ?_)) fun r2 s2 hr2 => ?_
   ·obtain ⟨⟨c1, c2, c3, c4⟩, gl, cl, nl, dl⟩ := hl
    simp only at cl dl
    subst cl dl
    have gl1 : (s.heap.push (zdM led)).get? l = some { cls := .type "list", dict := c2, data := .seq items nl, slots := c4 } := xaa _ gl
    have ls := PySem.F.sub_list_set
    have lf := PySem.F.sub_list_frozenset
    have nd : (Value.type "list" == Value.type "dict") = false := by decide
    have il1 : (s.heap.push (zdM led)).IsList l items := ⟨_, gl1, rfl, nl, rfl⟩
    unfold Builtin.«set.__init__» noKeywords Builtin.Frozenset.updateFrom
    generalize hPI : pyIter = PI
    wp_walk
    subst hPI
    refine wpAny_pyIter_list il1 ?_
    refine wpAny_bind (wpAny_runValue ?_)
    have lS : l < s.heap.objs.size := xab gl
    refine zoa (A := A.in1.in1) (it := (s.heap.push (zdM led)).objs.size) (l := l) (z := s.heap.objs.size) (items := items) hh ?_ ?_ ?_ hu keys h4 items.size 0 _ (by omega) (xch _) ⟨⟨_, xar _ rfl, rfl, rfl⟩, il1.push _⟩ (zpR (led := led) (xaa _ gS)) ?_ ?_
    ·rw [xba]; exact xam (Nat.lt_succ_of_lt lS)
    ·rw [xba]; exact xam (xcz _)
    ·exact xbt lS
    ·intro j hj
     obtain ⟨b, b1, b2⟩ := ht j hj
     obtain ⟨ob, its, m, g1, g2, g3, g4⟩ := b2
     exact ⟨b, b1, ob, its, m, xaa _ (xaa _ g1), g2, g3, g4⟩
    ·intro h2 tk kp S2
     show wpAny _ _ _ _ _ _
     refine wpAny_pure ?_
     show wpAny _ _ (ret Value.none) _ _ _
     refine wpAny_pure ⟨rfl, h2, tk, rfl, S2, fun b u e => ?_⟩
     have lb := xab e
     refine kp b u (xam lb) ?_ (xaa _ (xaa _ e))
     rw [xba]; exact xam (Nat.lt_succ_of_lt lb)
   ·cases r2 with
    | error e => exact hr2
    | ok fl2 =>
     cases fl2 with
     | ret r =>
      obtain ⟨rfl, h2, tk, rfl, S2, k2⟩ := hr2
      repeat (any_goals (first | assumption | wp_step))
      exact q _ _ S2 k2
     | _ => exact hr2.elim
  | _ => exact hr.elim
end
end DL
namespace DL
open L2 PyProof.Rows
section
variable {X : Cx} {E : XK}
def zgs (kss : List (List Int)) : List (List Int) := zfQ (fun j => kss.getD j []) kss.length
def zwT (K : xFg) : List V -> Hp -> VK -> Prop := fun xs H Q => ∃ (p : Addr) (ys : List V) (kss : List (List Int)), xs = [.ref p] /\ SqL K H p ys /\ zcp K H ys kss /\ (zgs kss).length <= 18 /\ ∀ a, H a = none -> Q (.ref a) (upd H a (.ext (zvI a (zgs kss).length)))
theorem zoc {k : Nat} (hc : X.calm = true) (r : zfA k X.A) : zc0 X (.type "set") (zwT X.K) := by
 intro pins s O H xs us Q I rs h
 obtain ⟨p, ys, kss, rfl, hq, ht, h4, q⟩ := h
 obtain ⟨u, rfl, rx⟩ := zhI rs
 cases rx
 obtain ⟨its, rv, pl, hz⟩ := I.list hq
 have hlen : its.length = kss.length := by rw [<- rv.length, ht.length]
 have hsz : its.toArray.size = kss.length := by rw [xah, hlen]
 refine zob (I.ok.hd hc) pl.isList (by have := r.un; omega) (fun j => kss.getD j []) (by rw [hsz]; exact h4) (fun j hj => ?_) fun h2 tk S2 kp => ?_
 ·rw [xah] at hj
  obtain ⟨b, b1, b2⟩ := zn4 I ht rv j hj
  exact ⟨b, by rw [xb9]; exact b1, b2⟩
 ·obtain ⟨o, es, ep, t, S⟩ := S2
  have hn : es.size = (zgs kss).length := by rw [S.n, hsz]; rfl
  refine ⟨.ref s.heap.objs.size, _, I.laid (t' := tk) (h' := h2) kp (xad _) (show zdf X.prog X.w _ h2 _ (.ext (zvI s.heap.objs.size (zgs kss).length)) from ⟨⟨o, es, ep, t, S.get, S.ex, S.dat, S.fits, hn⟩, ⟨o, S.get⟩, ?_⟩), rfl, q _ (I.hok.fresh (xad _))⟩
  rintro h1 h3 ⟨o, es, ep, t, g, r1⟩ kk
  exact ⟨o, es, ep, t, kk o g, r1⟩
def zdN : D -> R D
 | .lst ds => match zby ds with
  | some kss => bif Nat.ble (zgs kss).length 18 then .ok (.int (zgs kss).length) else .bad
  | none => .bad
 | _ => .bad
def zh4 (f : DSt -> R D) : DSt -> R D := fun O => (f O).bind zdN
theorem zlX {k : Nat} (C : XC X E k) (hm1 : X.mg "len" = none) (hm2 : X.mg "set" = none) {e : Expr} {fe : DSt -> R D} {p1 p2 pos pos2 : Pos} (hfe : DE X E e fe) (hg1 : Gl X "len" := by rfl) (hg2 : Gl X "set" := by rfl)
  (he1 : starEach [.Call (.Name "set" p2) [e] [] pos2] X.env = (false, eval (.Call (.Name "set" p2) [e] [] pos2) X.env) :: starEach [] X.env := by rfl) (hpl1 : (backTo pos (starEach [] X.env)).any (·.1) = false := by rfl)
  (he2 : starEach [e] X.env = (false, eval e X.env) :: starEach [] X.env := by rfl) (hpl2 : (backTo pos2 (starEach [] X.env)).any (·.1) = false := by rfl) :
  DE X E (.Call (.Name "len" p1) [.Call (.Name "set" p2) [e] [] pos2] [] pos) (zh4 fe) := by
 refine PE.mono' (zkg zn5 hg1 hm1 PySem.boot_len (zmq (zfY (zoc C.calm C.room) hg2 hm2 (by rfl) (zaB hfe zbF he2) (by decide) (by decide) he2 hpl2) zqd he1) (by decide) (by decide) he1 hpl1) fun O H Q ⟨G, Od, ok, q⟩ => ?_
 refine ⟨G, Od, ok, (show RW ((zaa fe zak) Od) _ _ from ?_)⟩
 unfold zaa
 have q2 := q.of_bind
 cases hf : fe Od with
 | bad => rw [hf] at q2; exact q2.elim
 | err x => rw [hf] at q2; exact (show zaI X.K X.mg E G H x from q2)
 | ok d =>
  rw [hf] at q2
  have q3 : RW (zdN d) (zao X.K X.mg Q G H) (zaI X.K X.mg E G H) := q2
  rintro ws G2 H2 s2 ⟨v, _, e1, r3, r4⟩
  subst e1
  cases r4
  cases d with
  | lst ds =>
   obtain ⟨b, vs, rfl, hb, hv⟩ := r3
   cases hs' : zby ds with
   | none => simp only [zdN, hs'] at q3; exact q3.elim
   | some kss =>
    cases hC : Nat.ble (zgs kss).length 18 with
    | false => simp only [zdN, hs', hC, cond_false] at q3; exact q3.elim
    | true =>
     simp only [zdN, hs', hC, cond_true] at q3
     rw [Nat.ble_eq] at hC
     refine ⟨b, vs, kss, rfl, s2.e.seq hb, (zjg hs' hv).mono s2.e, hC, fun a ha => ?_⟩
     have q4 : zao X.K X.mg Q G H (.int (zgs kss).length) := q3
     exact ⟨a, (zgs kss).length, rfl, zap, by omega, q4 _ G2 _ (s2.trans (.hid s2.e ha)) rfl⟩
  | _ => exact (show False from q3).elim
end
end DL
end
namespace DL
open L2 PyProof.Rows
section
variable {K : xFg} {mg : Str -> Option Value} {G G' H H' : Hp}
def spF (K : xFg) (mg : Str -> Option Value) (m : List D -> R (List D)) : Sp := fun vs H Q E => ∃ G ds, zay G H /\ Reps K mg G ds vs /\ RW (m ds) (zdH K mg Q G H) (zaI K mg E G H)
structure zgV (P : Program) (w : World) (K : xFg) (mg : Str -> Option Value) (base : Heap) (k : Nat) (x : Str) (m : List D -> R (List D)) : Prop where
 ex : ∃ (f : Addr) (fd : FuncData) (ps : List Str), zgR P w K mg base (CXe P w) k f fd ps (spF K mg m) /\ mg x = some (.ref f) /\ PySem.W.keepIn K (.ref f) = true /\ zfX K fd ps []
theorem zgV.mono {P : Program} {w : World} {base : Heap} {j k : Nat} {x : Str} {m : List D -> R (List D)} (F : zgV P w K mg base j x m) (h : j <= k) : zgV P w K mg base k x m := by
 obtain ⟨f, fd, ps, h1, h2⟩ := F.ex
 exact ⟨f, fd, ps, h1.mono h, h2⟩
end
def zod (m : List D -> R (List D)) (fs : DSt -> R (List D)) : DSt -> R (List D) := fun O => (fs O).bind m
def zrl (m : List D -> R (List D)) (a : R (List D)) : R (List D) := a.bind m
theorem zlY (m : List D -> R (List D)) (fs : DSt -> R (List D)) (O : DSt) : zod m fs O = zrl m (fs O) := rfl
theorem zoe (m : List D -> R (List D)) (ds : List D) : zrl m (.ok ds) = m ds := rfl
section
variable {X : Cx} {E : XK} {k : Nat} {x : Str} {m : List D -> R (List D)} {p pos : Pos} {e : Expr} {es : List Expr} {fs : DSt -> R (List D)}
theorem zsH (C : XC X E k) (F : zgV X.prog X.w X.K X.mg X.base k x m) (ha : DA X E (e :: es) fs) (hg : Gl X x := by rfl) (hdb : (x == ("__debug__" : Str)) = false := by decide)
  (he : starEach (e :: es) X.env = (false, eval e X.env) :: starEach es X.env := by rfl) (hpl : (backTo pos (starEach es X.env)).any (·.1) = false := by rfl) : DF X E (.Call (.Name x p) (e :: es) [] pos) (zod m fs) := by
 obtain ⟨f, fd, ps, h1, h2, h3, h4⟩ := F.ex
 refine PE.mono' (zmr h1 C.room hg h2 h3 h4 .nil C.pass ha hdb he hpl) fun O H Q ⟨G, Od, ok, q⟩ => ?_
 refine ⟨G, Od, ok, q.of_bind.mono (fun ds hds z vs G' H' s r => ?_) fun _ z => z⟩
 show spF X.K X.mg m (vs ++ []) H' Q E
 rw [xb7]
 exact ⟨G', ds, s.e, r, z.mono (fun _ _ z => z.step s) fun _ z => z.step s⟩
end
def zvJ : R Out -> R (List D)
 | .ok (.rf ds) => .ok ds
 | .ok _ => .bad
 | .err e => .err e
 | .bad => .bad
def zsI (n nN : Nat) (body : DSt -> R Out) : List D -> R (List D) := fun ds => bif ds.length == n then zvJ (body (zcf nN ds)) else .bad
theorem zsJ {n nN : Nat} {b : DSt -> R Out} {ds : List D} {O : DSt} (h : ds.length = n) (hσ : zcf nN ds = O) : zsI n nN b ds = zvJ (b O) := by
 subst h hσ
 show (bif ds.length == ds.length then _ else _) = _
 rw [beq_self_eq_true]; rfl
section
variable {P : Program} {w : World} {K : xFg} {mg : Str -> Option Value} {base : Heap}
theorem zgV.mk' {x qual : Str} {st : Stmt} {f : Addr} {fd : FuncData} {N ps : List Str} {k n nN : Nat} {own' : List Nat} {body : DSt -> R Out} (F : Fun K x qual st f fd) (S : zdg N ps (zah st)) (hm : mg x = some (.ref f)) (b : zfX K fd ps [])
  (hn : ps.length = n) (hN : N.length = nN)
  (hb : ∀ (X : Cx) (E : XK), (∃ cdv A outer s H, X = zgQ (CXe P w) P w K mg base N qual (zah st) f cdv A outer s H E) -> XC X E k -> XL X -> DSs X E [] own' [] (zbC st) body) : zgV P w K mg base (k + 1) x (zsI n nN body) := by
 refine ⟨f, fd, ps, F.okX S (fun vs H Q E h => ?_) (fun cdv A outer s H vs Q E hr hsp => ?_), hm, F.kp, b⟩
 ·obtain ⟨G, ds, e, r, q⟩ := h
  by_cases hd : ds.length = n
  ·rw [<- r.length, hd, hn]
  ·have : (ds.length == n) = false := by simpa using hd
   unfold zsI at q
   rw [this] at q
   exact (show False from q).elim
 ·obtain ⟨G, ds, e, r, q⟩ := hsp
  have hd : ds.length = n := by
   by_cases hd : ds.length = n
   ·exact hd
   ·have : (ds.length == n) = false := by simpa using hd
    unfold zsI at q
    rw [this] at q
    exact (show False from q).elim
  unfold zsI at q
  rw [show (ds.length == n) = true by simpa using hd] at q
  have q' : RW (zvJ (body (zcf nN ds))) (zdH K mg Q G H) (zaI K mg E G H) := q
  refine ⟨_, hb _ E ⟨cdv, A, outer, s, H, rfl⟩ ⟨rfl, hr, zrS⟩ ⟨PassesOwn.leaving⟩ G, G, zcf nN ds, ?_, .refl e, ?_⟩
  ·have := Reps.startOk e (N.length - vs.length) r
   unfold L2.start zcf
   rw [<- hN, r.length]
   exact .zero this
  ·cases hbd : body (zcf nN ds) with
   | bad => rw [hbd] at q'; exact q'
   | err e => rw [hbd] at q'; exact q'
   | ok o =>
    rw [hbd] at q'
    cases o with
    | rf es => exact fun a vs G' H' s n e g r => (show zdH K mg Q G H es from q') a vs G' H' s n e g r
    | rt d => exact (show False from q').elim
    | nx O => exact (show False from q').elim
    | bk O => exact (show False from q').elim
    | ct O => exact (show False from q').elim
end
def zsK (i : Nat) : DSt -> R Out := fun O => match O[i]? with
 | some (some (.lst ds)) => .ok (.rf ds)
 | _ => .bad
section
variable {X : Cx} {E : XK} {own own' ol : List Nat} {pos p : Pos}
theorem zsL (i : Nat) {x : Str} (ho : own.contains i = true := by rfl) (hN : X.N[i]? = some x := by rfl) (hv : Vis X.env.scope x := by first | exact Or.inl rfl | exact Or.inr (Or.inl rfl) | exact Or.inr (Or.inr rfl)) (hd : (x == ("__debug__" : Str)) = false := by decide)
  (hcd : (x == ("__classdict__" : Str)) = false := by decide) : DS X E own own' ol (.Return (some (.Name x p)) pos) (zsK i) := fun G0 => PS.mono' (zqa (pv i hN hv hd hcd)) fun Dn O H ⟨G, Od, ok, s0, q⟩ => by
 unfold zsK at q
 split at q
 ·rename_i ds e
  obtain ⟨a, es, vs, h1, h2, h3, h4, h5, h6⟩ := ok.mine i (.lst ds) (by simpa using ho) e
  cases h2
  exact ⟨.ref a, h1, (show ze4 X.K X.mg G0 X.H₀ own' ol Dn G (.rf ds) from q) a vs G H s0 h5 h3 h4 h6⟩
 ·exact (show False from q).elim
end
end DL
section
namespace L2
open PyProof.Rows
def zwU (K : xFg) (a b : Addr) : It :=
 ⟨fun i H => ∃ xs ys x y, SqL K H a xs /\ SqL K H b ys /\ xs[i]? = some x /\ ys[i]? = some y,
  fun i H v H' => ∃ T x y, v = .ref T /\ H T = none /\ H' = upd H T (.tup [x, y]) /\ (∀ xs, SqL K H a xs -> xs[i]? = some x) /\ ∀ ys, SqL K H b ys -> ys[i]? = some y,
  fun i H => ∃ xs ys, SqL K H a xs /\ SqL K H b ys /\ xs.length <= i⟩
structure ZL (z TI TO i1 i2 a b : Addr) (k : Nat) (h : Heap) : Prop where
 z : IsZip h z TI TO .none
 ti : IsPair h TI (.ref i1) (.ref i2)
 to : ∃ u v, IsPair h TO u v
 i1 : h.IsListIter i1 a k
 i2 : h.IsListIter i2 b k
theorem zof {P : Program} {w : World} {K : xFg} {es : List Expr} {ct : Nat} {ps : Pos} {z TI TO i1 i2 a b : Addr} (D : ZipApart z TI TO i1 i2 a b) : zoV P w K (.Tuple es ct ps) (zwU K a b) [z, TI, TO, i1, i2] z (ZL z TI TO i1 i2 a b) where
 mem := by simp
 obj := fun i h st c hc => by
  simp only [xaf, xaq, or_false] at hc
  rcases hc with rfl | rfl | rfl | rfl | rfl
  ·exact ⟨_, st.z, fun v q => by cases q⟩
  ·exact ⟨_, st.ti, fun v q => by cases q⟩
  ·obtain ⟨u, v, e⟩ := st.to
   exact ⟨_, e, fun v q => by cases q⟩
  ·obtain ⟨o, e, c, d⟩ := st.i1
   exact ⟨o, e, fun v q => by rw [d] at q; cases q⟩
  ·obtain ⟨o, e, c, d⟩ := st.i2
   exact ⟨o, e, fun v q => by rw [d] at q; cases q⟩
 keep := fun i h h' st k => by
  obtain ⟨u, v, e⟩ := st.to
  exact ⟨k _ (by simp) _ st.z, k _ (by simp) _ st.ti, ⟨u, v, k _ (by simp) _ e⟩, st.i1.at fun o e => k _ (by simp) o e, st.i2.at fun o e => k _ (by simp) o e⟩
 item := by
  intro X hP hw hK hc i pins s O H E I hf st hg
  subst hP hw hK
  obtain ⟨xs, ys, x, y, h1, h2, hx, hy⟩ := hg
  obtain ⟨its, rv, p, _⟩ := I.list h1
  obtain ⟨jts, rw', p', _⟩ := I.list h2
  obtain ⟨u, hu, ru⟩ := rv.get hx
  obtain ⟨v, hv, rr⟩ := rw'.get hy
  obtain ⟨ta, tb, hTO⟩ := st.to
  refine wpAny_pyNext_zip_item D st.z st.ti hTO st.i1 st.i2 p.isList p'.isList (x := u) (y := v) (by simpa using hu) (by simpa using hv) fun g Zz Zto Zi1 Zi2 pg sg kg => ⟨_, rfl, ?_⟩
  refine wpAny_letOwnedTupleGo_zip Zz fun g' zg sb => ?_
  have lz : z < s.heap.objs.size := xab st.z
  have I1 : Inv X pins O (upd H s.heap.objs.size (.tup [x, y])) { s with heap := s.heap.push (tp2 u v), toks := s.toks } :=
   I.laid (fun _ _ q => xaa _ q) (xad _) ⟨by show 2 <= sizeLine; decide, [u, v], .cons ru (.cons rr .nil), ⟨_, xar _ rfl, rfl, 0, rfl⟩⟩
  have fr : ∀ c ∈ [z, TI, TO, i1, i2], c ≠ s.heap.objs.size := fun c hc e => by
   simp only [xaf, xaq, or_false] at hc
   obtain ⟨o1, q1, _⟩ := st.i1
   obtain ⟨o2, q2, _⟩ := st.i2
   rcases hc with rfl | rfl | rfl | rfl | rfl
   ·exact xam lz e
   ·exact xam (xab st.ti) e
   ·exact xam (xab hTO) e
   ·exact xam (xab q1) e
   ·exact xam (xab q2) e
  have I2 : Inv X pins O (upd H s.heap.objs.size (.tup [x, y])) { s with heap := g', toks := s.toks } := by
   refine Inv.turnedL (s := { s with heap := s.heap.push (tp2 u v), toks := s.toks }) (h' := g') (t' := s.toks) (ch := [z, TI, TO, i1, i2]) I1 (fun c o hc e => ?_) fun c hc => ?_
   ·have cz : c ≠ z := fun q => hc (by simp [q])
    rcases xcc e with ⟨rfl, rfl⟩ | e
    ·exact sb.extBut _ _ cz pg
    ·exact sb.extBut _ _ cz (kg c o cz (fun q => hc (by simp [q])) (fun q => hc (by simp [q])) (fun q => hc (by simp [q])) e)
   ·exact ⟨by rw [zam (fr c hc)]; exact (hf c hc).1, (hf c hc).2⟩
  refine ⟨.ref s.heap.objs.size, _, I2, rfl, ⟨_, x, y, rfl, I.fresh, rfl, fun zs hz => by rw [I.list_inj hz h1]; exact hx, fun zs hz => by rw [I.list_inj hz h2]; exact hy⟩, ⟨zg, sb.extBut _ _ D.TIz (kg _ _ D.TIz D.TITO D.TIi1 D.TIi2 st.ti), ⟨_, _, sb.extBut _ _ D.TOz Zto⟩, Zi1.at fun o e => sb.extBut _ _ D.i1z e, Zi2.at fun o e => sb.extBut _ _ D.i2z e⟩, fun c hc => by rw [zam (fr c hc)]; exact (hf c hc).1⟩
 done := by
  intro X hP hw hK hc i pins s O H E I hf st hg
  subst hP hw hK
  obtain ⟨xs, ys, h1, h2, hx⟩ := hg
  obtain ⟨its, rv, p, _⟩ := I.list h1
  obtain ⟨jts, rw', p', _⟩ := I.list h2
  obtain ⟨ta, tb, hTO⟩ := st.to
  have hl := rv.length
  refine wpAny_pyNext_zip_end (I.ok.hd hc) D st.z st.ti hTO st.i1 st.i2 p.isList p'.isList (.inl (by simp; omega)) fun g kg => ⟨rfl, I.turnedL (t' := s.toks) (ch := [z, TI, TO, i1, i2]) (fun c o hc e => ?_) hf⟩
  exact kg c o (fun q => hc (by simp [q])) (fun q => hc (by simp [q])) (fun q => hc (by simp [q])) (fun q => hc (by simp [q])) e
 self := fun _ _ _ _ _ st h => wpAny_pyIter_zip st.z h
end L2
namespace DL
open L2 PyProof.Rows
section
variable {X : Cx} {E : XK}
def zwV (K : xFg) (ta : TA) : TI := fun O H R => ta O H fun vs H1 => ∃ a b, vs = [.ref a, .ref b] /\ (((∃ xs, SqT K H1 a xs) /\ (∃ ys, SqT K H1 b ys) /\ R (Itz K a b) H1) \/ ((∃ xs, SqL K H1 a xs) /\ (∃ ys, SqL K H1 b ys) /\ R (zwU K a b) H1))
theorem zsM {a b : Expr} {ta : TA} {p pos ps : Pos} {es : List Expr} {ct : Nat} (hg : Gl X "zip") (hm : X.mg "zip" = none) (ha : PA X [a, b] ta) (hs : starEach [a, b] X.env = [(false, eval a X.env), (false, eval b X.env)] := by rfl) (hs2 : starEach [b] X.env = [(false, eval b X.env)] := by rfl) :
  PI X (.Tuple es ct ps) (.Call (.Name "zip" p) [a, b] [] pos) (zwV X.K ta) := by
 intro pins s O H R I h
 refine Call_ (zfW I hg hm boot_zip (PyProof.Rows.callWith_type1 (thn (ha pos pins s O H _ I h) fun us s1 ⟨vs, H1, I1, r1, q1⟩ => ?_) (by rw [hs, hs2]) (by rw [hs2]; rfl)))
 obtain ⟨a, b, e, q⟩ := q1
 subst e
 cases r1 with
 | cons r rr =>
  cases rr with
  | cons r' rr =>
   cases rr
   cases r
   cases r'
   have fp : ∀ c ∈ [s1.heap.objs.size + 4, s1.heap.objs.size + 2, s1.heap.objs.size + 3, s1.heap.objs.size, s1.heap.objs.size + 1], zke X pins H1 c := fun c hc => by
    have hc : s1.heap.objs.size <= c := by
     simp only [xaf, xaq, or_false] at hc
     rcases hc with rfl | rfl | rfl | rfl | rfl
     ·exact xbk _ _
     ·exact xbk _ _
     ·exact xbk _ _
     ·exact xad _
     ·exact xbk _ _
    exact I1.fpOk hc (I1.hok.fresh hc)
   rcases q with ⟨⟨xs, hx⟩, ⟨ys, hy⟩, q⟩ | ⟨⟨xs, hx⟩, ⟨ys, hy⟩, q⟩
   ·obtain ⟨its, _, p1, _⟩ := I1.tuple hx
    obtain ⟨jts, _, p2, _⟩ := I1.tuple hy
    have l1 : a < s1.heap.objs.size := by obtain ⟨o, e, _⟩ := p1; exact xab e
    have l2 : b < s1.heap.objs.size := by obtain ⟨o, e, _⟩ := p2; exact xab e
    refine zn7 p1 p2 fun g Z kg => ?_
    refine wpAny_pyIter_zip Z.z ?_
    exact ⟨_, [s1.heap.objs.size + 4, s1.heap.objs.size + 2, s1.heap.objs.size + 3, s1.heap.objs.size, s1.heap.objs.size + 1], _, _, H1, rfl, I1.kept (t' := s1.toks) kg, zpN (zipApart_new l1 l2), ⟨Z.z, Z.ti, Z.to, Z.i1, Z.i2⟩, fp, q⟩
   ·obtain ⟨its, _, p1, _⟩ := I1.list hx
    obtain ⟨jts, _, p2, _⟩ := I1.list hy
    have l1 : a < s1.heap.objs.size := by obtain ⟨o, e, _⟩ := p1.isList; exact xab e
    have l2 : b < s1.heap.objs.size := by obtain ⟨o, e, _⟩ := p2.isList; exact xab e
    refine call_zip_2 p1.isList p2.isList fun g zz zti zto zi1 zi2 _ kg => ?_
    refine wpAny_pyIter_zip zz ?_
    exact ⟨_, [s1.heap.objs.size + 4, s1.heap.objs.size + 2, s1.heap.objs.size + 3, s1.heap.objs.size, s1.heap.objs.size + 1], _, _, H1, rfl, I1.kept (t' := s1.toks) kg, zof (zipApart_new l1 l2), ⟨zz, zti, ⟨_, _, zto⟩, zi1, zi2⟩, fp, q⟩
def zh5 : List D -> R (List D)
 | [.tup xs, .tup ys] => bif xs.length == ys.length then .ok (zjV xs ys) else .bad
 | [.lst xs, .lst ys] => bif xs.length == ys.length then .ok (zjV xs ys) else .bad
 | _ => .bad
theorem zdJ.zipL {K : xFg} {mg : Str -> Option Value} {G : Hp} {a b : Addr} {vs us : List V} {xs ys : List D} (h : SqL K G a vs) (h' : SqL K G b us) (r : Reps K mg G xs vs) (r' : Reps K mg G ys us) (hl : xs.length = ys.length) : zdJ K mg (zwU K a b) G (zjV xs ys) := by
 have ln : (zjV xs ys).length = vs.length := by unfold zjV; rw [xdb, <- hl, Nat.min_self, r.length]
 refine ⟨fun H e => ⟨vs, us, e.seq h, e.seq h', by rw [ln]; exact xad _⟩, fun H i d e hd => ?_⟩
 obtain ⟨x, y, hx, hy, rfl⟩ : ∃ x y, xs[i]? = some x /\ ys[i]? = some y /\ d = .tup [x, y] := by
  unfold zjV at hd
  rw [xc4] at hd
  cases ex : xs[i]? with
  | none => rw [ex] at hd; cases hd
  | some x =>
   cases ey : ys[i]? with
   | none => rw [ex, ey] at hd; cases hd
   | some y => rw [ex, ey] at hd; exact ⟨x, y, rfl, rfl, (Option.some.inj hd).symm⟩
 obtain ⟨v, hv, rv⟩ := r.get hx
 obtain ⟨u, hu, ru⟩ := r'.get hy
 refine ⟨⟨vs, us, v, u, e.seq h, e.seq h', hv, hu⟩, ?_⟩
 rintro _ H' ⟨T, v', u', rfl, hn, rfl, q1, q2⟩ G1 e1 e2
 have z1 := q1 _ (e.seq h)
 have z2 := q2 _ (e.seq h')
 rw [hv] at z1; cases z1
 rw [hu] at z2; cases z2
 have st := zbk.pub (o := .tup [v, u]) e2 hn
 exact ⟨upd G1 T (.tup [v, u]), st, T, [v, u], rfl, SqT.of zap, .cons (rv.mono (e1.trans st.g)) (.cons (ru.mono (e1.trans st.g)) rfl)⟩
theorem zsN {a b : Expr} {fs : DSt -> R (List D)} {p pos ps : Pos} {es : List Expr} {ct : Nat} (hm : X.mg "zip" = none) (ha : DA X E [a, b] fs) (hg : Gl X "zip" := by rfl) (hs : starEach [a, b] X.env = [(false, eval a X.env), (false, eval b X.env)] := by rfl) (hs2 : starEach [b] X.env = [(false, eval b X.env)] := by rfl) :
  DI X E (.Tuple es ct ps) (.Call (.Name "zip" p) [a, b] [] pos) (zc2 zh5 fs) := by
 refine PI.mono' (zsM hg hm ha hs hs2) fun O H R ⟨G, Od, ok, q⟩ => ?_
 refine ⟨G, Od, ok, q.of_bind.mono (fun ds _ z vs G' H' s r => ?_) fun _ z => z⟩
 match ds, z, r with
 | [.tup xs, .tup ys], z, r =>
  obtain ⟨v, r1, rfl, ⟨a, as, rfl, h1, k1⟩, r2⟩ := r
  obtain ⟨v', r3, rfl, ⟨b, bs, rfl, h2, k2⟩, r4⟩ := r2
  cases r4
  cases hl : (xs.length == ys.length) with
  | false => simp only [zh5, hl, cond_false] at z; exact z.elim
  | true =>
   simp only [zh5, hl, cond_true] at z
   exact ⟨a, b, rfl, .inl ⟨⟨as, zay.sqT s.e h1⟩, ⟨bs, zay.sqT s.e h2⟩, z _ G' H' s (.zip h1 h2 k1 k2 (by simpa using hl))⟩⟩
 | [.lst xs, .lst ys], z, r =>
  obtain ⟨v, r1, rfl, ⟨a, as, rfl, h1, k1⟩, r2⟩ := r
  obtain ⟨v', r3, rfl, ⟨b, bs, rfl, h2, k2⟩, r4⟩ := r2
  cases r4
  cases hl : (xs.length == ys.length) with
  | false => simp only [zh5, hl, cond_false] at z; exact z.elim
  | true =>
   simp only [zh5, hl, cond_true] at z
   exact ⟨a, b, rfl, .inr ⟨⟨as, s.e.seq h1⟩, ⟨bs, s.e.seq h2⟩, z _ G' H' s (.zipL h1 h2 k1 k2 (by simpa using hl))⟩⟩
end
end DL
end
namespace DL
open L2 PyProof.Rows
inductive KI | i (n : Int) (t : Tok) | s (x : Str) (t : Tok)
def KI.d : KI -> D
 | .i n _ => .int n
 | .s x _ => .str x
def KI.v : KI -> V
 | .i n _ => .int n
 | .s x _ => .str x
def KI.u : KI -> Value
 | .i n t => .int n t
 | .s x t => .str x t
section
variable {K : xFg} {mg : Str -> Option Value}
theorem zfb : ∀ l : List KI, zbg (l.map KI.v) (l.map KI.u)
 | [] => .nil
 | .i n t :: l => .cons ⟨t, rfl⟩ (zfb l)
 | .s x t :: l => .cons ⟨t, rfl⟩ (zfb l)
theorem zfc {G : Hp} : ∀ l : List KI, Reps K mg G (l.map KI.d) (l.map KI.v)
 | [] => Reps.nil
 | .i n t :: l => Reps.cons rfl (zfc l)
 | .s x t :: l => Reps.cons rfl (zfc l)
theorem zbI {G : Hp} {a : Addr} {dd : Option Addr} {its : Array Value} {n : Nat} {sl : Array (Option Value)} {l : List KI} (lk : K.lookup a = some ⟨.type "tuple", dd, .seq its n, sl⟩) (h : its.toList = l.map KI.u) (hz : l.length <= 100) : Rep K mg G (.tup (l.map KI.d)) (.ref a) := by
 refine ⟨a, _, rfl, .inr ⟨_, its, n, lk, rfl, rfl, ?_, by rw [h]; exact zfb l⟩, zfc l⟩
 rw [<- xat, h, xag]
 exact xa6 hz (by decide)
end
end DL
namespace L2
open PySem.Spec PyProof.Rows
def off (H : Hp) (x : Addr) : Hp := fun b => if b = x then none else H b
end L2
section
namespace L2
open PyProof.Rows
def Ite (K : xFg) (a : Addr) : It :=
 ⟨fun i H => ∃ xs x, SqL K H a xs /\ xs[i]? = some x,
  fun i H v H' => ∃ T x, v = .ref T /\ H T = none /\ H' = upd H T (.tup [.int i, x]) /\ ∀ xs, SqL K H a xs -> xs[i]? = some x,
  fun i H => ∃ xs, SqL K H a xs /\ xs.length <= i⟩
structure EL (e it a : Addr) (k : Nat) (h : Heap) : Prop where
 e : ∃ old, IsEnum h e it k old
 it : h.IsListIter it a k
theorem zjh {P : Program} {w : World} {K : xFg} {es : List Expr} {ct : Nat} {ps : Pos} {e it a : Addr} (ne : e ≠ it) : zoV P w K (.Tuple es ct ps) (Ite K a) [e, it] e (EL e it a) where
 mem := by simp
 obj := fun i h st c hc => by
  simp only [xaf, xaq, or_false] at hc
  rcases hc with rfl | rfl
  ·obtain ⟨old, q⟩ := st.e
   exact ⟨_, q, fun v q => by cases q⟩
  ·obtain ⟨o, e, c, d⟩ := st.it
   exact ⟨o, e, fun v q => by rw [d] at q; cases q⟩
 keep := fun i h h' st k => by
  obtain ⟨old, q⟩ := st.e
  exact ⟨⟨old, k _ (by simp) _ q⟩, st.it.at fun o e => k _ (by simp) o e⟩
 item := by
  intro X hP hw hK hc i pins s O H E I hf st hg
  subst hP hw hK
  obtain ⟨xs, x, h1, hx⟩ := hg
  obtain ⟨its, rv, p, _⟩ := I.list h1
  obtain ⟨u, hu, ru⟩ := rv.get hx
  obtain ⟨old, q0⟩ := st.e
  refine wpAny_pyNext_enum_item q0 st.it p.isList (x := u) (by simpa using hu) ne fun g Zz Zi pg sg kg => ⟨_, rfl, ?_⟩
  refine wpAny_letOwnedTupleGo_enum Zz fun g' zg sb => ?_
  obtain ⟨oi, qi, _⟩ := st.it
  have I1 : Inv X pins O (upd H s.heap.objs.size (.tup [.int i, x])) { s with heap := s.heap.push (tp2 (.int i s.toks) u), toks := s.toks } :=
   I.laid (fun _ _ q => xaa _ q) (xad _) ⟨by show 2 <= sizeLine; decide, [.int i s.toks, u], .cons ⟨s.toks, rfl⟩ (.cons ru .nil), ⟨_, xar _ rfl, rfl, 0, rfl⟩⟩
  have fr : ∀ c ∈ [e, it], c ≠ s.heap.objs.size := fun c hc ec => by
   simp only [xaf, xaq, or_false] at hc
   rcases hc with rfl | rfl
   ·exact xam (xab q0) ec
   ·exact xam (xab qi) ec
  have I2 : Inv X pins O (upd H s.heap.objs.size (.tup [.int i, x])) { s with heap := g', toks := s.toks + 1 } := by
   refine Inv.turnedL (s := { s with heap := s.heap.push (tp2 (.int i s.toks) u), toks := s.toks }) (h' := g') (t' := s.toks + 1) (ch := [e, it]) I1 (fun c o hc ec => ?_) fun c hc => ?_
   ·have cz : c ≠ e := fun q => hc (by simp [q])
    rcases xcc ec with ⟨rfl, rfl⟩ | ec
    ·exact sb.extBut _ _ cz pg
    ·exact sb.extBut _ _ cz (kg c o cz (fun q => hc (by simp [q])) ec)
   ·exact ⟨by rw [zam (fr c hc)]; exact (hf c hc).1, (hf c hc).2⟩
  refine ⟨.ref s.heap.objs.size, _, I2, rfl, ⟨_, x, rfl, I.fresh, rfl, fun zs hz => by rw [I.list_inj hz h1]; exact hx⟩, ⟨⟨_, by simpa using zg⟩, Zi.at fun o eo => sb.extBut _ _ ne.symm eo⟩, fun c hc => by rw [zam (fr c hc)]; exact (hf c hc).1⟩
 done := by
  intro X hP hw hK hc i pins s O H E I hf st hg
  subst hP hw hK
  obtain ⟨xs, h1, hx⟩ := hg
  obtain ⟨its, rv, p, _⟩ := I.list h1
  obtain ⟨old, q0⟩ := st.e
  have hl := rv.length
  refine wpAny_pyNext_enum_end (I.ok.hd hc) q0 st.it p.isList (by simp; omega) fun g kg => ⟨rfl, I.turnedL (t' := s.toks) (ch := [e, it]) (fun c o hc ec => ?_) hf⟩
  exact kg c o (fun q => hc (by simp [q])) ec
 self := fun A i s Q E st h => by
  obtain ⟨old, q0⟩ := st.e
  exact wpAny_pyIter_enum q0 h
end L2
namespace DL
open L2 PyProof.Rows
section
variable {X : Cx} {E : XK}
def zvh (K : xFg) (ta : TA) : TI := fun O H R => ta O H fun vs H1 => ∃ a, vs = [.ref a] /\ (∃ xs, SqL K H1 a xs) /\ R (Ite K a) H1
theorem zog : bootBuiltins "enumerate" = some (.type "enumerate") := by decide +kernel
theorem zsO {a : Expr} {ta : TA} {p pos ps : Pos} {es : List Expr} {ct : Nat} (hg : Gl X "enumerate") (hm : X.mg "enumerate" = none) (ha : PA X [a] ta) (hs : starEach [a] X.env = [(false, eval a X.env)] := by rfl) :
  PI X (.Tuple es ct ps) (.Call (.Name "enumerate" p) [a] [] pos) (zvh X.K ta) := by
 intro pins s O H R I h
 refine Call_ (zfW I hg hm zog (PyProof.Rows.callWith_type1 (thn (ha pos pins s O H _ I h) fun us s1 ⟨vs, H1, I1, r1, q1⟩ => ?_) hs rfl))
 obtain ⟨a, e, ⟨xs, hx⟩, q⟩ := q1
 subst e
 cases r1 with
 | cons r rr =>
  cases rr
  cases r
  obtain ⟨its, _, p1, _⟩ := I1.list hx
  refine call_enumerate_list p1.isList fun g zz zi _ kg => ?_
  have st : EL (s1.heap.objs.size + 1) s1.heap.objs.size a 0 g := ⟨⟨_, zz⟩, zi⟩
  have ne : s1.heap.objs.size + 1 ≠ s1.heap.objs.size := xbt (xcz _)
  refine (zjh (P := X.prog) (w := X.w) (K := X.K) (es := es) (ct := ct) (ps := ps) ne).self X.A 0 { s1 with heap := g } _ _ st ?_
  refine ⟨_, [s1.heap.objs.size + 1, s1.heap.objs.size], _, _, H1, rfl, I1.kept (t' := s1.toks) kg, zjh ne, st, fun c hc => ?_, q⟩
  have hc : s1.heap.objs.size <= c := by
   simp only [xaf, xaq, or_false] at hc
   rcases hc with rfl | rfl
   ·exact xbk _ _
   ·exact xad _
  exact I1.fpOk hc (I1.hok.fresh hc)
def zgW (k : Nat) : List D -> List D
 | [] => []
 | d :: ds => .tup [.int k, d] :: zgW (k + 1) ds
theorem zji : ∀ (ds : List D) (k : Nat), (zgW k ds).length = ds.length
 | [], _ => rfl
 | _ :: ds, k => by rw [zgW, xas, xas, zji ds]
theorem zjj : ∀ (ds : List D) (k i : Nat) (d : D), (zgW k ds)[i]? = some d -> ∃ x, ds[i]? = some x /\ d = .tup [.int ((k + i : Nat) : Int), x]
 | [], _, i, d, h => by cases i <;> cases h
 | y :: ds, k, 0, d, h => ⟨y, rfl, (Option.some.inj h).symm⟩
 | y :: ds, k, i + 1, d, h => by
  obtain ⟨x, h1, h2⟩ := zjj ds (k + 1) i d h
  exact ⟨x, h1, by rw [h2, show k + 1 + i = k + (i + 1) by omega]⟩
def zex : List D -> R (List D)
 | [.lst xs] => .ok (zgW 0 xs)
 | _ => .bad
theorem zdJ.enum {K : xFg} {mg : Str -> Option Value} {G : Hp} {a : Addr} {vs : List V} {xs : List D} (h : SqL K G a vs) (r : Reps K mg G xs vs) : zdJ K mg (Ite K a) G (zgW 0 xs) := by
 refine ⟨fun H e => ⟨vs, e.seq h, by rw [zji, r.length]; exact xad _⟩, fun H i d e hd => ?_⟩
 obtain ⟨x, hx, rfl⟩ := zjj xs 0 i d hd
 obtain ⟨v, hv, rv⟩ := r.get hx
 refine ⟨⟨vs, v, e.seq h, hv⟩, ?_⟩
 rintro _ H' ⟨T, v', rfl, hn, rfl, q1⟩ G1 e1 e2
 have z1 := q1 _ (e.seq h)
 rw [hv] at z1; cases z1
 have st := zbk.pub (o := .tup [.int i, v]) e2 hn
 exact ⟨upd G1 T (.tup [.int i, v]), st, T, [.int i, v], rfl, SqT.of zap, .cons (by rw [xbm]; rfl) (.cons (rv.mono (e1.trans st.g)) rfl)⟩
theorem zh6 {a : Expr} {fs : DSt -> R (List D)} {p pos ps : Pos} {es : List Expr} {ct : Nat} (hm : X.mg "enumerate" = none) (ha : DA X E [a] fs) (hg : Gl X "enumerate" := by rfl) (hs : starEach [a] X.env = [(false, eval a X.env)] := by rfl) :
  DI X E (.Tuple es ct ps) (.Call (.Name "enumerate" p) [a] [] pos) (zc2 zex fs) := by
 refine PI.mono' (zsO hg hm ha hs) fun O H R ⟨G, Od, ok, q⟩ => ?_
 refine ⟨G, Od, ok, q.of_bind.mono (fun ds _ z vs G' H' s r => ?_) fun _ z => z⟩
 match ds, z, r with
 | [.lst xs], z, r =>
  obtain ⟨v, r1, rfl, ⟨a, as, rfl, h1, k1⟩, r2⟩ := r
  cases r2
  exact ⟨a, rfl, ⟨as, s.e.seq h1⟩, z _ G' H' s (.enum h1 k1)⟩
end
end DL
end
section
namespace L2
open PyProof.Rows
section
variable {prog : Program} {w : World} {A : Around} {E : Value -> Shared -> Prop} {s : Shared}
structure ZAm (h : Heap) (z TI TO i1 i2 t1 t2 : Addr) (k : Nat) (xs ys : Array Value) (f : Value) : Prop where
 z : IsZip h z TI TO f
 ti : IsPair h TI (.ref i1) (.ref i2)
 to : ∃ a b, IsPair h TO a b
 i1 : h.IsTupleIter i1 t1 k
 i2 : h.IsListIter i2 t2 k
 t1 : h.IsTuple t1 xs
 t2 : h.IsList t2 ys
theorem ZAm.next {z TI TO i1 i2 t1 t2 : Addr} {k : Nat} {xs ys : Array Value} {x y : Value} {Q : Value -> Shared -> Prop} (D : ZipApart z TI TO i1 i2 t1 t2) (Z : ZAm s.heap z TI TO i1 i2 t1 t2 k xs ys .none) (hx : xs[k]? = some x) (hy : ys[k]? = some y)
  (q : ∀ g, ZAm g z TI TO i1 i2 t1 t2 (k + 1) xs ys (rawInt s.heap.objs.size) -> IsPair g s.heap.objs.size x y -> g.objs.size = s.heap.objs.size + 1 -> (∀ c o, c ≠ z -> c ≠ TO -> c ≠ i1 -> c ≠ i2 -> s.heap.get? c = some o -> g.get? c = some o) -> Q (.ref s.heap.objs.size) { s with heap := g }) :
  wpAny (model prog w) A (Builtin.«zip.__next__» ⟨[.ref z], []⟩) (fun fin s' => ∃ v, fin = .done (.ret v) /\ Q v s') E s := by
 obtain ⟨a, b, hTO⟩ := Z.to
 show wpAny _ _ (field (.ref z) 2 >>= _) _ _ _
 apply wpAny_bind
 refine wpAny_field Z.z rfl (x := .bool false) rfl ?_
 show wpAny _ _ (field (.ref z) 3 >>= _) _ _ _
 apply wpAny_bind
 refine wpAny_field Z.z rfl (x := .ref TI) rfl ?_
 apply wpAny_bind
 refine wpAny_seqItems Z.ti rfl ?_
 show wpAny _ _ (Builtin.SmallTypes.ownedTupleIsFree (.ref z) >>= _) _ _ _
 apply wpAny_bind
 unfold Builtin.SmallTypes.ownedTupleIsFree
 apply wpAny_bind
 refine wpAny_field Z.z rfl (x := .none) rfl (wpAny_pure ?_)
 simp only [if_true]
 apply wpAny_bind; apply wpAny_rule; apply wpAny_bind
 refine wpAny_field Z.z rfl (x := .ref TO) rfl ?_
 apply wpAny_bind
 refine wpAny_setField_rec Z.z (by simp) fun g1 z1 s1 => ?_
 have z1 : IsZip g1 z TI TO .ellipsis := z1
 apply wpAny_bind
 simp only [xc0, xc8, xck, xdc]
 apply wpAny_bind; apply wpAny_bind; apply wpAny_onRaise
 show wpAny _ _ (Builtin.SmallTypes.nextOf (.ref i1) >>= _) _ _ _
 apply wpAny_bind
 refine zn6 (Z.i1.extBut s1.extBut D.i1z) (Z.t1.extBut s1.extBut D.l1z) hx fun g2 j2 s2 => wpAny_pure ?_
 have o2 : IsPair g2 TO a b := s2.extBut _ _ D.TOi1 (s1.extBut _ _ D.TOz hTO)
 apply wpAny_bind
 refine wpAny_seqItems o2 rfl ?_
 apply wpAny_bind
 refine wpAny_updateSeq_pair o2 fun g3 o3 s3 => ?_
 have o3 : IsPair g3 TO x b := o3
 apply wpAny_bind
 refine wpAny_letGo (wpAny_pure ?_)
 apply wpAny_bind; apply wpAny_bind; apply wpAny_onRaise
 show wpAny _ _ (Builtin.SmallTypes.nextOf (.ref i2) >>= _) _ _ _
 apply wpAny_bind
 have u3 : ∀ c o, c ≠ z -> c ≠ TO -> c ≠ i1 -> s.heap.get? c = some o -> g3.get? c = some o := fun c o n1 n2 n3 e => s3.extBut _ _ n2 (s2.extBut _ _ n3 (s1.extBut _ _ n1 e))
 refine wpAny_nextOf_list_item (Z.i2.at fun o e => u3 _ o D.i2z D.TOi2.symm D.i12.symm e) (Z.t2.at fun o e => u3 _ o D.l2z D.l2TO D.l2i1 e) hy fun g4 j4 s4 => wpAny_pure ?_
 have o4 : IsPair g4 TO x b := s4.extBut _ _ D.TOi2 o3
 apply wpAny_bind
 refine wpAny_seqItems o4 rfl ?_
 apply wpAny_bind
 refine wpAny_updateSeq_pair o4 fun g5 o5 s5 => ?_
 have o5 : IsPair g5 TO x y := o5
 apply wpAny_bind
 refine wpAny_letGo (wpAny_pure (wpAny_pure ?_))
 apply wpAny_bind
 refine wpAny_seqItems o5 rfl ?_
 apply wpAny_bind
 refine wpAny_newTuple ?_
 have sz : g5.objs.size = s.heap.objs.size := s5.1.trans (s4.1.trans (s3.1.trans (s2.1.trans s1.1)))
 have z5 : IsZip g5 z TI TO .ellipsis := s5.extBut _ _ D.TOz.symm (s4.extBut _ _ D.i2z.symm (s3.extBut _ _ D.TOz.symm (s2.extBut _ _ D.i1z.symm z1)))
 have u5 : ∀ c o, c ≠ z -> c ≠ TO -> c ≠ i1 -> c ≠ i2 -> s.heap.get? c = some o -> g5.get? c = some o := fun c o n1 n2 n3 n4 e => s5.extBut _ _ n2 (s4.extBut _ _ n4 (u3 c o n1 n2 n3 e))
 have a5 : g5.IsTupleIter i1 t1 (k + 1) := j2.at fun o e => s5.extBut _ _ D.TOi1.symm (s4.extBut _ _ D.i12 (s3.extBut _ _ D.TOi1.symm e))
 have b5 : g5.IsListIter i2 t2 (k + 1) := j4.at fun o e => s5.extBut _ _ D.TOi2.symm e
 have lz : z < g5.objs.size := xab z5
 show wpAny _ _ (Builtin.SmallTypes.ownedTupleHandOut (.ref z) (.ref g5.objs.size) >>= _) _ _ _
 apply wpAny_bind
 unfold Builtin.SmallTypes.ownedTupleHandOut
 have z6 : IsZip (g5.push { cls := .type "tuple", data := .seq #[x, y] }) z TI TO .ellipsis := xaa _ z5
 apply wpAny_bind
 refine wpAny_setField_rec z6 (by simp) fun g7 z7 s7 => ?_
 have z7 : IsZip g7 z TI TO (rawInt g5.objs.size) := z7
 refine wpAny_setField_rec z7 (by simp) fun g8 z8 s8 => ?_
 have z8 : IsZip g8 z TI TO (rawInt g5.objs.size) := z8
 have up : ∀ c o, c ≠ z -> g5.get? c = some o -> g8.get? c = some o := fun c o n e => s8.extBut _ _ n (s7.extBut _ _ n (xaa _ e))
 have p8 : IsPair g8 g5.objs.size x y := s8.extBut _ _ (xbt lz) (s7.extBut _ _ (xbt lz) (xar _ rfl))
 have w8 : g8.objs.size = g5.objs.size + 1 := s8.1.trans (s7.1.trans (xba ..))
 rw [sz] at z8 p8 w8
 refine wpAny_pure ⟨_, rfl, ?_⟩
 show Q (.ref g5.objs.size) _
 rw [sz]
 have nT : ∀ c o, s.heap.get? c = some o -> c ≠ z -> c ≠ TO -> c ≠ i1 -> c ≠ i2 -> g8.get? c = some o := fun c o e n1 n2 n3 n4 => up c o n1 (u5 c o n1 n2 n3 n4 e)
 exact q g8 ⟨z8, nT _ _ Z.ti D.TIz D.TITO D.TIi1 D.TIi2, ⟨_, _, up _ _ D.TOz o5⟩, a5.at fun o e => up _ o D.i1z e, b5.at fun o e => up _ o D.i2z e, Z.t1.at fun o e => nT _ o e D.l1z D.l1TO D.l1i1 D.l1i2, Z.t2.at fun o e => nT _ o e D.l2z D.l2TO D.l2i1 D.l2i2⟩ p8 w8 fun c o n1 n2 n3 n4 e => nT c o e n1 n2 n3 n4
theorem ZAm.last {z TI TO i1 i2 t1 t2 : Addr} {k : Nat} {xs ys : Array Value} {Q : Fin -> Shared -> Prop} (hh : A.handled = none) (D : ZipApart z TI TO i1 i2 t1 t2) (Z : ZAm s.heap z TI TO i1 i2 t1 t2 k xs ys .none) (hx : xs[k]? = none)
  (q : ∀ g e, (∀ c o, c ≠ z -> c ≠ TO -> c ≠ i1 -> c ≠ i2 -> s.heap.get? c = some o -> g.get? c = some o) -> (∃ o, g.get? e = some o /\ o.cls = .type "StopIteration") -> E (.ref e) { s with heap := g }) :
  wpAny (model prog w) A (Builtin.«zip.__next__» ⟨[.ref z], []⟩) Q E s := by
 show wpAny _ _ (field (.ref z) 2 >>= _) _ _ _
 apply wpAny_bind
 refine wpAny_field Z.z rfl (x := .bool false) rfl ?_
 show wpAny _ _ (field (.ref z) 3 >>= _) _ _ _
 apply wpAny_bind
 refine wpAny_field Z.z rfl (x := .ref TI) rfl ?_
 apply wpAny_bind
 refine wpAny_seqItems Z.ti rfl ?_
 show wpAny _ _ (Builtin.SmallTypes.ownedTupleIsFree (.ref z) >>= _) _ _ _
 apply wpAny_bind
 unfold Builtin.SmallTypes.ownedTupleIsFree
 apply wpAny_bind
 refine wpAny_field Z.z rfl (x := .none) rfl (wpAny_pure ?_)
 simp only [if_true]
 apply wpAny_bind; apply wpAny_rule; apply wpAny_bind
 refine wpAny_field Z.z rfl (x := .ref TO) rfl ?_
 apply wpAny_bind
 refine wpAny_setField_rec Z.z (by simp) fun g1 z1 s1 => ?_
 have z1 : IsZip g1 z TI TO .ellipsis := z1
 apply wpAny_bind
 simp only [xc0, xc8, xck, xdc]
 apply wpAny_bind; apply wpAny_bind; apply wpAny_onRaise
 show wpAny _ _ (Builtin.SmallTypes.nextOf (.ref i1) >>= _) _ _ _
 apply wpAny_bind
 refine zhp hh (Z.i1.extBut s1.extBut D.i1z) (Z.t1.extBut s1.extBut D.l1z) hx fun g2 e s2 he => ?_
 obtain ⟨o, eo, co⟩ := he
 have z2 : IsZip g2 z TI TO .ellipsis := s2 _ _ D.i1z.symm z1
 have ez : e ≠ z := fun w => by subst w; rw [z2] at eo; cases eo; simp at co
 refine wpAny_setField_rec z2 (by simp) fun g3 _ s3 => ?_
 exact q g3 e (fun c o n1 _ n3 _ w => s3.extBut _ _ n1 (s2 _ _ n3 (s1.extBut _ _ n1 w))) ⟨o, s3.extBut _ _ ez eo, co⟩
theorem zsP {z TI TO i1 i2 t1 t2 : Addr} {k : Nat} {xs ys : Array Value} {x y : Value} {Q : Option Value -> Shared -> Prop} (D : ZipApart z TI TO i1 i2 t1 t2) (Z : ZAm s.heap z TI TO i1 i2 t1 t2 k xs ys .none) (hx : xs[k]? = some x) (hy : ys[k]? = some y)
  (q : ∀ g, ZAm g z TI TO i1 i2 t1 t2 (k + 1) xs ys (rawInt s.heap.objs.size) -> IsPair g s.heap.objs.size x y -> g.objs.size = s.heap.objs.size + 1 -> (∀ c o, c ≠ z -> c ≠ TO -> c ≠ i1 -> c ≠ i2 -> s.heap.get? c = some o -> g.get? c = some o) -> Q (some (.ref s.heap.objs.size)) { s with heap := g }) :
  wpAny (model prog w) A (pyNext (.ref z)) Q E s := by
 have T : s.TypeIs (.ref z) "zip" := ⟨_, Z.z, rfl⟩
 unfold pyNext
 apply wpAny_bind; apply wpAny_attempt
 refine wpAny_callSpecial?_slot (name := "__next__") T F.slot_zip_next ?_
 refine wpAny_call_entry F.slot_zip_next T F.entry_zip_next ?_ (F.args_zip_next_1 _)
 exact Z.next D hx hy fun g a1 a2 a3 a4 => wpAny_pure (q g a1 a2 a3 a4)
theorem zpS {z TI TO i1 i2 t1 t2 : Addr} {k : Nat} {xs ys : Array Value} {Q : Option Value -> Shared -> Prop} (hh : A.handled = none) (D : ZipApart z TI TO i1 i2 t1 t2) (Z : ZAm s.heap z TI TO i1 i2 t1 t2 k xs ys .none) (hx : xs[k]? = none)
  (q : ∀ g, (∀ c o, c ≠ z -> c ≠ TO -> c ≠ i1 -> c ≠ i2 -> s.heap.get? c = some o -> g.get? c = some o) -> Q none { s with heap := g }) : wpAny (model prog w) A (pyNext (.ref z)) Q E s := by
 have T : s.TypeIs (.ref z) "zip" := ⟨_, Z.z, rfl⟩
 unfold pyNext
 apply wpAny_bind; apply wpAny_attempt
 refine wpAny_callSpecial?_slot (name := "__next__") T F.slot_zip_next ?_
 refine wpAny_call_entry F.slot_zip_next T F.entry_zip_next ?_ (F.args_zip_next_1 _)
 refine Z.last hh D hx fun g e hk he => ?_
 obtain ⟨o, ho, hc⟩ := he
 apply wpAny_bind
 exact wpAny_isInstance (T := "StopIteration") (b := true) ⟨o, ho, hc⟩ isSubtype_stop (wpAny_pure (q _ hk))
def li0 (t : Addr) : Obj := { cls := .type "list_iterator", data := .fields #[.ref t, .int 0 0] }
def zpM (h : Heap) (t1 t2 : Addr) : Heap :=
 ((((h.push (ti0 t1)).push (li0 t2)).push (tp2 (.ref h.objs.size) (.ref (h.push (ti0 t1)).objs.size))).push (tp2 .none .none)).push (zp0 ((h.push (ti0 t1)).push (li0 t2)).objs.size (((h.push (ti0 t1)).push (li0 t2)).push (tp2 (.ref h.objs.size) (.ref (h.push (ti0 t1)).objs.size))).objs.size)
theorem zlZ (t1 t2 : Addr) (xs ys : Array Value) : Meets (Builtin.«zip.__new__» ⟨[.type "zip", .ref t1, .ref t2], []⟩) (fun _ R s => s.heap.IsTuple t1 xs /\ s.heap.IsList t2 ys /\
  R (.ok (.ret (.ref ((((s.heap.push (ti0 t1)).push (li0 t2)).push (tp2 (.ref s.heap.objs.size) (.ref (s.heap.push (ti0 t1)).objs.size))).push (tp2 .none .none)).objs.size))) { s with heap := zpM s.heap t1 t2 }) :=
 .of_wp fun prog w A R s h => by
  obtain ⟨hp, g, d, tk, os⟩ := s; obtain ⟨h1, h2, h⟩ := h
  have sub := sub_zip
  have L1 : Heap.IsTuple (Shared.heap ⟨hp, g, d, tk, os⟩) t1 xs := h1
  have L2 : Heap.IsList (Shared.heap ⟨hp.push { cls := .type "tuple_iterator", data := .fields #[.ref t1, .int 0 0] }, g, d, tk, os⟩) t2 ys := Heap.IsList.push h2 _
  wp_walk using wpAny_pyIter_tuple L1, wpAny_pyIter_list L2
  exact ⟨_, rfl, h⟩
theorem zoh {t1 t2 : Addr} {xs ys : Array Value} {Q : Value -> Shared -> Prop} (h1 : s.heap.IsTuple t1 xs) (h2 : s.heap.IsList t2 ys)
  (q : ∀ g, ZAm g (s.heap.objs.size + 4) (s.heap.objs.size + 2) (s.heap.objs.size + 3) s.heap.objs.size (s.heap.objs.size + 1) t1 t2 0 xs ys .none -> (∀ c o, s.heap.get? c = some o -> g.get? c = some o) -> Q (.ref (s.heap.objs.size + 4)) { s with heap := g }) :
  wpAny (model prog w) A (call (.type "zip") [.ref t1, .ref t2]) Q E s := by
 refine callType_new F.called_zip (by decide) (F.typeCall_zip_2 _ _) (F.newCall_zip_2 _ _) (fun obj => F.args_object_init_3 obj _ _) F.entry_zip_new (zlZ t1 t2 xs ys) ⟨h1, h2, ?_⟩
 have a1 : (s.heap.push (ti0 t1)).objs.size = s.heap.objs.size + 1 := xba ..
 have a2 : ((s.heap.push (ti0 t1)).push (li0 t2)).objs.size = s.heap.objs.size + 2 := by rw [xba, a1]
 have a3 : (((s.heap.push (ti0 t1)).push (li0 t2)).push (tp2 (.ref s.heap.objs.size) (.ref (s.heap.push (ti0 t1)).objs.size))).objs.size = s.heap.objs.size + 3 := by rw [xba, a2]
 have a4 : ((((s.heap.push (ti0 t1)).push (li0 t2)).push (tp2 (.ref s.heap.objs.size) (.ref (s.heap.push (ti0 t1)).objs.size))).push (tp2 .none .none)).objs.size = s.heap.objs.size + 4 := by rw [xba, a3]
 have k : ∀ c o, s.heap.get? c = some o -> (zpM s.heap t1 t2).get? c = some o := fun c o e => xaa _ (xaa _ (xaa _ (xaa _ (xaa _ e))))
 have b5 : (zpM s.heap t1 t2).get? (s.heap.objs.size + 4) = some (zp0 (s.heap.objs.size + 2) (s.heap.objs.size + 3)) := by
  unfold zpM; rw [a2, a3]; exact xbl a4.symm rfl
 have b4 : (zpM s.heap t1 t2).get? (s.heap.objs.size + 3) = some (tp2 .none .none) := xaa _ (xbl a3.symm rfl)
 have b3 : (zpM s.heap t1 t2).get? (s.heap.objs.size + 2) = some (tp2 (.ref s.heap.objs.size) (.ref (s.heap.objs.size + 1))) := xaa _ (xaa _ (by rw [a1]; exact xbl a2.symm rfl))
 have b2 : (zpM s.heap t1 t2).get? (s.heap.objs.size + 1) = some (li0 t2) := xaa _ (xaa _ (xaa _ (xbl a1.symm rfl)))
 have b1 : (zpM s.heap t1 t2).get? s.heap.objs.size = some (ti0 t1) := xaa _ (xaa _ (xaa _ (xaa _ (xar _ rfl))))
 show _ /\ _
 rw [a4]
 exact ⟨⟨_, b5, rfl⟩, q _ ⟨b5, b3, ⟨_, _, b4⟩, ⟨_, b1, rfl, rfl⟩, ⟨_, b2, rfl, rfl⟩, h1.at fun o e => k _ o e, h2.at fun o e => k _ o e⟩ k⟩
end
def zwW (K : xFg) (a b : Addr) : It :=
 ⟨fun i H => ∃ xs ys x y, SqT K H a xs /\ SqL K H b ys /\ xs[i]? = some x /\ ys[i]? = some y,
  fun i H v H' => ∃ T x y, v = .ref T /\ H T = none /\ H' = upd H T (.tup [x, y]) /\ (∀ xs, SqT K H a xs -> xs[i]? = some x) /\ ∀ ys, SqL K H b ys -> ys[i]? = some y,
  fun i H => ∃ xs ys, SqT K H a xs /\ SqL K H b ys /\ xs.length <= i⟩
structure ZM (z TI TO i1 i2 a b : Addr) (k : Nat) (h : Heap) : Prop where
 z : IsZip h z TI TO .none
 ti : IsPair h TI (.ref i1) (.ref i2)
 to : ∃ u v, IsPair h TO u v
 i1 : h.IsTupleIter i1 a k
 i2 : h.IsListIter i2 b k
theorem zoi {P : Program} {w : World} {K : xFg} {es : List Expr} {ct : Nat} {ps : Pos} {z TI TO i1 i2 a b : Addr} (D : ZipApart z TI TO i1 i2 a b) : zoV P w K (.Tuple es ct ps) (zwW K a b) [z, TI, TO, i1, i2] z (ZM z TI TO i1 i2 a b) where
 mem := by simp
 obj := fun i h st c hc => by
  simp only [xaf, xaq, or_false] at hc
  rcases hc with rfl | rfl | rfl | rfl | rfl
  ·exact ⟨_, st.z, fun v q => by cases q⟩
  ·exact ⟨_, st.ti, fun v q => by cases q⟩
  ·obtain ⟨u, v, e⟩ := st.to
   exact ⟨_, e, fun v q => by cases q⟩
  ·obtain ⟨o, e, c, d⟩ := st.i1
   exact ⟨o, e, fun v q => by rw [d] at q; cases q⟩
  ·obtain ⟨o, e, c, d⟩ := st.i2
   exact ⟨o, e, fun v q => by rw [d] at q; cases q⟩
 keep := fun i h h' st k => by
  obtain ⟨u, v, e⟩ := st.to
  exact ⟨k _ (by simp) _ st.z, k _ (by simp) _ st.ti, ⟨u, v, k _ (by simp) _ e⟩, st.i1.at fun o e => k _ (by simp) o e, st.i2.at fun o e => k _ (by simp) o e⟩
 item := by
  intro X hP hw hK hc i pins s O H E I hf st hg
  subst hP hw hK
  obtain ⟨xs, ys, x, y, h1, h2, hx, hy⟩ := hg
  obtain ⟨its, rv, p, _⟩ := I.tuple h1
  obtain ⟨jts, rw', p', _⟩ := I.list h2
  obtain ⟨u, hu, ru⟩ := rv.get hx
  obtain ⟨v, hv, rr⟩ := rw'.get hy
  have Z : ZAm s.heap z TI TO i1 i2 a b i its.toArray jts.toArray .none := ⟨st.z, st.ti, st.to, st.i1, st.i2, p, p'.isList⟩
  refine zsP D Z (x := u) (y := v) (by simpa using hu) (by simpa using hv) fun g Zg pg sg kg => ⟨_, rfl, ?_⟩
  refine wpAny_letOwnedTupleGo_zip Zg.z fun g' zg sb => ?_
  have lz : z < s.heap.objs.size := xab st.z
  have I1 : Inv X pins O (upd H s.heap.objs.size (.tup [x, y])) { s with heap := s.heap.push (tp2 u v), toks := s.toks } :=
   I.laid (fun _ _ q => xaa _ q) (xad _) ⟨by show 2 <= sizeLine; decide, [u, v], .cons ru (.cons rr .nil), ⟨_, xar _ rfl, rfl, 0, rfl⟩⟩
  have fr : ∀ c ∈ [z, TI, TO, i1, i2], c ≠ s.heap.objs.size := fun c hc e => by
   simp only [xaf, xaq, or_false] at hc
   obtain ⟨u, v, eTO⟩ := st.to
   obtain ⟨o1, q1, _⟩ := st.i1
   obtain ⟨o2, q2, _⟩ := st.i2
   rcases hc with rfl | rfl | rfl | rfl | rfl
   ·exact xam lz e
   ·exact xam (xab st.ti) e
   ·exact xam (xab eTO) e
   ·exact xam (xab q1) e
   ·exact xam (xab q2) e
  have I2 : Inv X pins O (upd H s.heap.objs.size (.tup [x, y])) { s with heap := g', toks := s.toks } := by
   refine Inv.turnedL (s := { s with heap := s.heap.push (tp2 u v), toks := s.toks }) (h' := g') (t' := s.toks) (ch := [z, TI, TO, i1, i2]) I1 (fun c o hc e => ?_) fun c hc => ?_
   ·have cz : c ≠ z := fun q => hc (by simp [q])
    rcases xcc e with ⟨rfl, rfl⟩ | e
    ·exact sb.extBut _ _ cz pg
    ·exact sb.extBut _ _ cz (kg c o cz (fun q => hc (by simp [q])) (fun q => hc (by simp [q])) (fun q => hc (by simp [q])) e)
   ·exact ⟨by rw [zam (fr c hc)]; exact (hf c hc).1, (hf c hc).2⟩
  obtain ⟨u', v', eTO⟩ := Zg.to
  refine ⟨.ref s.heap.objs.size, _, I2, rfl, ⟨_, x, y, rfl, I.fresh, rfl, fun zs hz => by rw [I.tuple_inj hz h1]; exact hx, fun zs hz => by rw [I.list_inj hz h2]; exact hy⟩, ⟨zg, sb.extBut _ _ D.TIz Zg.ti, ⟨u', v', sb.extBut _ _ D.TOz eTO⟩, Zg.i1.at fun o e => sb.extBut _ _ D.i1z e, Zg.i2.at fun o e => sb.extBut _ _ D.i2z e⟩, fun c hc => by rw [zam (fr c hc)]; exact (hf c hc).1⟩
 done := by
  intro X hP hw hK hc i pins s O H E I hf st hg
  subst hP hw hK
  obtain ⟨xs, ys, h1, h2, hx⟩ := hg
  obtain ⟨its, rv, p, _⟩ := I.tuple h1
  obtain ⟨jts, rw', p', _⟩ := I.list h2
  have Z : ZAm s.heap z TI TO i1 i2 a b i its.toArray jts.toArray .none := ⟨st.z, st.ti, st.to, st.i1, st.i2, p, p'.isList⟩
  have hl := rv.length
  refine zpS (I.ok.hd hc) D Z (by simp; omega) fun g kg => ⟨rfl, I.turnedL (t' := s.toks) (ch := [z, TI, TO, i1, i2]) (fun c o hc e => ?_) hf⟩
  exact kg c o (fun q => hc (by simp [q])) (fun q => hc (by simp [q])) (fun q => hc (by simp [q])) (fun q => hc (by simp [q])) e
 self := fun _ _ _ _ _ st h => wpAny_pyIter_zip st.z h
end L2
namespace DL
open L2 PyProof.Rows
section
variable {X : Cx} {E : XK}
def zwX (K : xFg) (ta : TA) : TI := fun O H R => ta O H fun vs H1 => ∃ a b, vs = [.ref a, .ref b] /\ (∃ xs, SqT K H1 a xs) /\ (∃ ys, SqL K H1 b ys) /\ R (zwW K a b) H1
theorem zsQ {a b : Expr} {ta : TA} {p pos ps : Pos} {es : List Expr} {ct : Nat} (hg : Gl X "zip") (hm : X.mg "zip" = none) (ha : PA X [a, b] ta) (hs : starEach [a, b] X.env = [(false, eval a X.env), (false, eval b X.env)] := by rfl) (hs2 : starEach [b] X.env = [(false, eval b X.env)] := by rfl) :
  PI X (.Tuple es ct ps) (.Call (.Name "zip" p) [a, b] [] pos) (zwX X.K ta) := by
 intro pins s O H R I h
 refine Call_ (zfW I hg hm boot_zip (PyProof.Rows.callWith_type1 (thn (ha pos pins s O H _ I h) fun us s1 ⟨vs, H1, I1, r1, q1⟩ => ?_) (by rw [hs, hs2]) (by rw [hs2]; rfl)))
 obtain ⟨a, b, e, q⟩ := q1
 subst e
 cases r1 with
 | cons r rr =>
  cases rr with
  | cons r' rr =>
   cases rr
   cases r
   cases r'
   have fp : ∀ c ∈ [s1.heap.objs.size + 4, s1.heap.objs.size + 2, s1.heap.objs.size + 3, s1.heap.objs.size, s1.heap.objs.size + 1], zke X pins H1 c := fun c hc => by
    have hc : s1.heap.objs.size <= c := by
     simp only [xaf, xaq, or_false] at hc
     rcases hc with rfl | rfl | rfl | rfl | rfl
     ·exact xbk _ _
     ·exact xbk _ _
     ·exact xbk _ _
     ·exact xad _
     ·exact xbk _ _
    exact I1.fpOk hc (I1.hok.fresh hc)
   obtain ⟨⟨xs, hx⟩, ⟨ys, hy⟩, q⟩ := q
   obtain ⟨its, _, p1, _⟩ := I1.tuple hx
   obtain ⟨jts, _, p2, _⟩ := I1.list hy
   have l1 : a < s1.heap.objs.size := by obtain ⟨o, e, _⟩ := p1; exact xab e
   have l2 : b < s1.heap.objs.size := by obtain ⟨o, e, _⟩ := p2.isList; exact xab e
   refine zoh p1 p2.isList fun g Z kg => ?_
   refine wpAny_pyIter_zip Z.z ?_
   exact ⟨_, [s1.heap.objs.size + 4, s1.heap.objs.size + 2, s1.heap.objs.size + 3, s1.heap.objs.size, s1.heap.objs.size + 1], _, _, H1, rfl, I1.kept (t' := s1.toks) kg, zoi (zipApart_new l1 l2), ⟨Z.z, Z.ti, Z.to, Z.i1, Z.i2⟩, fp, q⟩
def zl0 : List D -> R (List D)
 | [.tup xs, .lst ys] => bif xs.length == ys.length then .ok (zjV xs ys) else .bad
 | _ => .bad
theorem zdJ.zipM {K : xFg} {mg : Str -> Option Value} {G : Hp} {a b : Addr} {vs us : List V} {xs ys : List D} (h : SqT K G a vs) (h' : SqL K G b us) (r : Reps K mg G xs vs) (r' : Reps K mg G ys us) (hl : xs.length = ys.length) : zdJ K mg (zwW K a b) G (zjV xs ys) := by
 have ln : (zjV xs ys).length = vs.length := by unfold zjV; rw [xdb, <- hl, Nat.min_self, r.length]
 refine ⟨fun H e => ⟨vs, us, zay.sqT e h, e.seq h', by rw [ln]; exact xad _⟩, fun H i d e hd => ?_⟩
 obtain ⟨x, y, hx, hy, rfl⟩ : ∃ x y, xs[i]? = some x /\ ys[i]? = some y /\ d = .tup [x, y] := by
  unfold zjV at hd
  rw [xc4] at hd
  cases ex : xs[i]? with
  | none => rw [ex] at hd; cases hd
  | some x =>
   cases ey : ys[i]? with
   | none => rw [ex, ey] at hd; cases hd
   | some y => rw [ex, ey] at hd; exact ⟨x, y, rfl, rfl, (Option.some.inj hd).symm⟩
 obtain ⟨v, hv, rv⟩ := r.get hx
 obtain ⟨u, hu, ru⟩ := r'.get hy
 refine ⟨⟨vs, us, v, u, zay.sqT e h, e.seq h', hv, hu⟩, ?_⟩
 rintro _ H' ⟨T, v', u', rfl, hn, rfl, q1, q2⟩ G1 e1 e2
 have z1 := q1 _ (zay.sqT e h)
 have z2 := q2 _ (e.seq h')
 rw [hv] at z1; cases z1
 rw [hu] at z2; cases z2
 have st := zbk.pub (o := .tup [v, u]) e2 hn
 exact ⟨upd G1 T (.tup [v, u]), st, T, [v, u], rfl, SqT.of zap, .cons (rv.mono (e1.trans st.g)) (.cons (ru.mono (e1.trans st.g)) rfl)⟩
theorem zsR {a b : Expr} {fs : DSt -> R (List D)} {p pos ps : Pos} {es : List Expr} {ct : Nat} (hm : X.mg "zip" = none) (ha : DA X E [a, b] fs) (hg : Gl X "zip" := by rfl) (hs : starEach [a, b] X.env = [(false, eval a X.env), (false, eval b X.env)] := by rfl) (hs2 : starEach [b] X.env = [(false, eval b X.env)] := by rfl) :
  DI X E (.Tuple es ct ps) (.Call (.Name "zip" p) [a, b] [] pos) (zc2 zl0 fs) := by
 refine PI.mono' (zsQ hg hm ha hs hs2) fun O H R ⟨G, Od, ok, q⟩ => ?_
 refine ⟨G, Od, ok, q.of_bind.mono (fun ds _ z vs G' H' s r => ?_) fun _ z => z⟩
 match ds, z, r with
 | [.tup xs, .lst ys], z, r =>
  obtain ⟨v, r1, rfl, ⟨a, as, rfl, h1, k1⟩, r2⟩ := r
  obtain ⟨v', r3, rfl, ⟨b, bs, rfl, h2, k2⟩, r4⟩ := r2
  cases r4
  cases hl : (xs.length == ys.length) with
  | false => simp only [zl0, hl, cond_false] at z; exact z.elim
  | true =>
   simp only [zl0, hl, cond_true] at z
   exact ⟨a, b, rfl, ⟨as, zay.sqT s.e h1⟩, ⟨bs, s.e.seq h2⟩, z _ G' H' s (.zipM h1 h2 k1 k2 (by simpa using hl))⟩
end
end DL
end
namespace DL
open L2 PyProof.Rows
section
variable {P : Program} {w : World} {K : xFg} {mg : Str -> Option Value} {base : Heap} {x : Str} {st : Stmt} {f : Addr} {fd : FuncData} {N ps : List Str} {k n nN : Nat} {own' : List Nat} {body : DSt -> R Out}
structure FD (K : xFg) (x : Str) (st : Stmt) : Prop where
 ex : ∃ f fd, PySem.W.nsIn K mainGlobals x = some (some (.ref f)) /\ Fun K x x st f fd
theorem FD.mk' {oc : Value} {od an : Option Addr} {osl : Array (Option Value)} {kV doc pm cdv ct : Value} (a : PySem.W.nsIn K mainGlobals x = some (some (.ref f))) (l : K.lookup f = some ⟨oc, od, .func (PySem.W.fnOf x x (zdF st) (zbC st) (zah st) .none kV doc pm an cdv ct), osl⟩)
  (c : PySem.W.codeIn K cdv x = true) (k : PySem.W.keepIn K (.ref f) = true) : FD K x st := ⟨f, _, a, zqe l c k⟩
structure FA (K : xFg) (mg : Str -> Option Value) (x : Str) (st : Stmt) (ps : List Str) (f : Addr) (fd : FuncData) : Prop where
 F : Fun K x x st f fd
 m : mg x = some (.ref f)
 b : zfX K fd ps []
theorem FD.go {h : Heap} (d : FD K x st) (X : K.In h) (G : h.Ns mainGlobals mg) (ps : List Str)
  (b : ∀ (kV doc pm : Value) (an : Option Addr) (cdv ct : Value) (us : List Value), us.length = ps.length -> bindArgs (PySem.W.fnOf x x (zdF st) (zbC st) (zah st) .none kV doc pm an cdv ct) ⟨us, []⟩ = pure (ps.zip us)) : ∃ f fd, FA K mg x st ps f fd := by
 obtain ⟨f, fd, a, F⟩ := d.ex
 exact ⟨f, fd, F, xbo X G a, F.binds b⟩
abbrev XX (P : Program) (w : World) (K : xFg) (mg : Str -> Option Value) (base : Heap) (x : Str) (st : Stmt) (f : Addr) (N : List Str) (k : Nat) (D : Cx -> XK -> Prop) : Prop :=
 ∀ cdv A outer s H E, XC (zgQ (CXe P w) P w K mg base N x (zah st) f cdv A outer s H E) E k -> XL (zgQ (CXe P w) P w K mg base N x (zah st) f cdv A outer s H E) -> N.Nodup -> D (zgQ (CXe P w) P w K mg base N x (zah st) f cdv A outer s H E) E
theorem FA.ok (F : FA K mg x st ps f fd) (S : zdg N ps (zah st)) (hn : ps.length = n) (hN : N.length = nN)
  (hb : XX P w K mg base x st f N k fun X E => DSs X E [] own' [] (zbC st) body) : zaF P w K mg base (k + 1) x (fnM n nN body) :=
 zaF.mk' F.F S F.m F.b hn hN fun X E hX C L => by
  obtain ⟨cdv, A, outer, s, H, rfl⟩ := hX
  exact hb cdv A outer s H E C L S.nd
theorem FA.okF (F : FA K mg x st ps f fd) (S : zdg N ps (zah st)) (hn : ps.length = n) (hN : N.length = nN)
  (hb : XX P w K mg base x st f N k fun X E => DSs X E [] own' [] (zbC st) body) : zgV P w K mg base (k + 1) x (zsI n nN body) :=
 zgV.mk' F.F S F.m F.b hn hN fun X E hX C L => by
  obtain ⟨cdv, A, outer, s, H, rfl⟩ := hX
  exact hb cdv A outer s H E C L S.nd
end
end DL
namespace Mir
open L2 DL
noncomputable def zc8 : DSt -> R Out := (zbZ (zpq (zcD (g2 zet) (zaa (zae 0) (zaa (eC (.ty "int")) zak))) (zvx (zcD (g2 zet) (zaa (zae 0) (zaa (eC (.ty "bool")) zak))))))
noncomputable def zaR : List D -> R D := fnM 1 1 zc8
theorem zeK (a0 : D) : zaR [a0] = fin (zc8 [some a0]) := zaD (b := zc8) rfl rfl
noncomputable def zbJ : DSt -> R Out := (zbZ (zpq (zcD zsj (zaa (zdi (eLC 1 [0] (zhU (zae 0)) zaJ zbv (zat zaR (zaa (zae 0) zak)))) zak)) (eOp gNe (zae 0) (zfl (zaa (eC (.int 0)) (zaa (eC (.int 0)) (zaa (eC (.int 0)) zak)))))))
noncomputable def zbn : List D -> R D := fnM 1 1 zbJ
theorem zdr (a0 : D) : zbn [a0] = fin (zbJ [some a0]) := zaD (b := zbJ) rfl rfl
noncomputable def zcI : DSt -> R Bool := (zaw (eOp gNe (zae 1) (eC (.int 0))))
noncomputable def zed : DSt -> R Out := (zax 1 (zae 2))
noncomputable def zee : DSt -> R Out := (zaC (zax 0 (zae 1)) zed)
noncomputable def zdO : DSt -> R Out := (zaC (zax 2 (eOp zeH (zae 0) (zae 1))) zee)
noncomputable def zgt : DSt -> R Out := (zbZ (zae 0))
noncomputable def zgu : DSt -> R Out := (zaC (zbp zcI zdO) zgt)
noncomputable def zgv : DSt -> R Out := (zaC (zax 1 (zcD zqw (zaa (zae 1) zak))) zgu)
noncomputable def zeL : DSt -> R Out := (zaC (zax 0 (zcD zqw (zaa (zae 0) zak))) zgv)
noncomputable def zbl : List D -> R D := fnM 2 3 zeL
theorem zjk (a0 : D) (a1 : D) : zbl [a0, a1] = fin (zeL [some a0, some a1, none]) := zaD (b := zeL) rfl rfl
noncomputable def zgw : DSt -> R Out := (zbZ (zfl (zaa (eOp zes (eOp gIx (zae 0) (eC (.int 0))) (zae 1)) (zaa (eOp zes (eOp gIx (zae 0) (eC (.int 1))) (zae 1)) (zaa (eOp zes (eOp gIx (zae 0) (eC (.int 2))) (zae 1)) zak)))))
noncomputable def zgx : DSt -> R Out := (zaC (sIf (zaw (eOp gLt (zae 2) (eC (.int 0)))) (zax 1 (eUn zqv (zae 1))) zbq) zgw)
noncomputable def zgy : DSt -> R Out := (zaC (zax 2 (eOp gIx (zdi (eLC 1 [0] (zhU (zae 0)) zaJ (zaw (eOp gNe (zae 0) (eC (.int 0)))) (zae 0))) (eUn zqv (eC (.int 1))))) zgx)
noncomputable def zeM : DSt -> R Out := (zaC (zax 1 (zat zbl (zaa (zat zbl (zaa (eOp gIx (zae 0) (eC (.int 0))) (zaa (eOp gIx (zae 0) (eC (.int 1))) zak))) (zaa (eOp gIx (zae 0) (eC (.int 2))) zak)))) zgy)
noncomputable def zb1 : List D -> R D := fnM 1 3 zeM
theorem zjl (a0 : D) : zb1 [a0] = fin (zeM [some a0, none, none]) := zaD (b := zeM) rfl rfl
noncomputable def zb2 : DSt -> R Out := (zbZ (eOp gEq (zat zb1 (zaa (zae 0) zak)) (zae 0)))
noncomputable def zb3 : DSt -> R Out := (zaC (sIf (zjG (zaw (zat zbn (zaa (zae 0) zak)))) (zbZ (eC (.bl false))) zbq) zb2)
noncomputable def za9 : DSt -> R Out := (zaC (sIf (eOr (zjG (zaw (zcD (g2 zet) (zaa (zae 0) (zaa (eC (.ty "tuple")) zak))))) (zaw (eOp gNe (zcD zh0 (zaa (zae 0) zak)) (eC (.int 3))))) (zbZ (eC (.bl false))) zbq) zb3)
noncomputable def zas : List D -> R D := fnM 1 1 za9
theorem za2 (a0 : D) : zas [a0] = fin (za9 [some a0]) := zaD (b := za9) rfl rfl
noncomputable def zpT : DSt -> R Out := (zbZ (eOp zcH (eOp zcH (eOp za1 (eOp gIx (zae 0) (eC (.int 0))) (eOp gIx (zae 1) (eC (.int 0)))) (eOp za1 (eOp gIx (zae 0) (eC (.int 1))) (eOp gIx (zae 1) (eC (.int 1))))) (eOp za1 (eOp gIx (zae 0) (eC (.int 2))) (eOp gIx (zae 1) (eC (.int 2))))))
noncomputable def zgz : List D -> R D := fnM 2 2 zpT
theorem zpU (a0 : D) (a1 : D) : zgz [a0, a1] = fin (zpT [some a0, some a1]) := zaD (b := zpT) rfl rfl
noncomputable def zeN : DSt -> R Out := (zbZ (eOp gEq (zat zgz (zaa (zae 0) (zaa (zae 1) zak))) (eC (.int 0))))
noncomputable def zdP : List D -> R D := fnM 2 2 zeN
theorem zjm (a0 : D) (a1 : D) : zdP [a0, a1] = fin (zeN [some a0, some a1]) := zaD (b := zeN) rfl rfl
noncomputable def zjn : DSt -> R Out := (zbZ (zfl (zaa (zae 2) (zaa (zae 3) (zaa (zae 4) zak)))))
noncomputable def zjo : DSt -> R Out := (zaC (zax 4 (eOp gSub (eOp za1 (eOp gIx (zae 0) (eC (.int 0))) (eOp gIx (zae 1) (eC (.int 1)))) (eOp za1 (eOp gIx (zae 0) (eC (.int 1))) (eOp gIx (zae 1) (eC (.int 0)))))) zjn)
noncomputable def zjp : DSt -> R Out := (zaC (zax 3 (eOp gSub (eOp za1 (eOp gIx (zae 0) (eC (.int 2))) (eOp gIx (zae 1) (eC (.int 0)))) (eOp za1 (eOp gIx (zae 0) (eC (.int 0))) (eOp gIx (zae 1) (eC (.int 2)))))) zjo)
noncomputable def zh7 : DSt -> R Out := (zaC (zax 2 (eOp gSub (eOp za1 (eOp gIx (zae 0) (eC (.int 1))) (eOp gIx (zae 1) (eC (.int 2)))) (eOp za1 (eOp gIx (zae 0) (eC (.int 2))) (eOp gIx (zae 1) (eC (.int 1)))))) zjp)
noncomputable def zfd : List D -> R D := fnM 2 5 zh7
theorem zl1 (a0 : D) (a1 : D) : zfd [a0, a1] = fin (zh7 [some a0, some a1, none, none, none]) := zaD (b := zh7) rfl rfl
noncomputable def zcJ : DSt -> R Out := (zbZ (zat zb1 (zaa (zat zfd (zaa (zae 0) (zaa (zae 1) zak))) zak)))
noncomputable def zbs : DSt -> R Out := (zaC (sIf (zaw (eOp gEq (zae 0) (zae 1))) zs7 zbq) zcJ)
noncomputable def zaK : List D -> R D := fnM 2 2 zbs
theorem zey (a0 : D) (a1 : D) : zaK [a0, a1] = fin (zbs [some a0, some a1]) := zaD (b := zbs) rfl rfl
noncomputable def zcK : DSt -> R Out := (zbZ (zat zaK (zaa (zae 0) (zaa (zae 1) zak))))
noncomputable def zaA : List D -> R D := fnM 2 2 zcK
theorem zgA (a0 : D) (a1 : D) : zaA [a0, a1] = fin (zcK [some a0, some a1]) := zaD (b := zcK) rfl rfl
noncomputable def zck : DSt -> R Out := (zbZ (zat zaK (zaa (zae 0) (zaa (zae 1) zak))))
noncomputable def zbK : List D -> R D := fnM 2 2 zck
theorem zfF (a0 : D) (a1 : D) : zbK [a0, a1] = fin (zck [some a0, some a1]) := zaD (b := zck) rfl rfl
noncomputable def zeO : DSt -> R Out := (zbZ (zcD zsj (zaa (zdi (eLC 1 [0] (zhU (zae 1)) zaJ zbv (zat zdP (zaa (zae 0) (zaa (zae 3) zak))))) zak)))
noncomputable def zeP : DSt -> R Out := (zaC (zax 2 (zat zaA (zaa (eOp gIx (zae 0) (eC (.int 0))) (zaa (eOp gIx (zae 1) (eC (.int 0))) zak)))) zeO)
noncomputable def zeQ : DSt -> R Out := (zaC (sIf (zaw (eOp gEq (zcD zh0 (zaa (zae 1) zak)) (eC (.int 0)))) (zbZ (eC (.bl true))) zbq) zeP)
noncomputable def zdl : DSt -> R Out := (zaC (zjL [] 1 (zdi (eLC 1 [0] (zhU (zae 0)) zaJ (zaw (eOp gNe (zae 0) (eOp gIx (zae 1) (eC (.int 0))))) (zae 0)))) zeQ)
noncomputable def zbw : List D -> R D := fnM 1 3 zdl
theorem zgX (a0 : D) : zbw [a0] = fin (zdl [some a0, none, none]) := zaD (b := zdl) rfl rfl
def zcq : D := .int 12
noncomputable def zdQ : DSt -> R Out := (zbZ (eOp gEq (zh4 (zae 0)) (zcD zh0 (zaa (zae 0) zak))))
noncomputable def zcr : DSt -> R Out := (zaC (sIf (zjG (zaw (zcD zsj (zaa (zdi (eLC 1 [0] (zhU (zae 0)) zaJ zbv (zat zas (zaa (zae 0) zak)))) zak)))) (zbZ (eC (.bl false))) zbq) zdQ)
noncomputable def zbo : DSt -> R Out := (zaC (sIf (eOr (zjG (zaw (zcD (g2 zet) (zaa (zae 0) (zaa (eC (.ty "list")) zak))))) (zjG (zaw (zhe gLe gLe (eC (.int 1)) (zcD zh0 (zaa (zae 0) zak)) (eC zcq))))) (zbZ (eC (.bl false))) zbq) zcr)
noncomputable def zaz : List D -> R D := fnM 1 1 zbo
theorem zb8 (a0 : D) : zaz [a0] = fin (zbo [some a0]) := zaD (b := zbo) rfl rfl
noncomputable def zgB : DSt -> R Out := (zax 1 (zat zbl (zaa (zae 1) (zaa (zae 2) zak))))
noncomputable def zhq : DSt -> R Out := (zbZ (zcD ziQ (zaa (zdi (eLC 1 [0] (zhU (zae 0)) zaJ zbv (eOp zes (zae 0) (zae 2)))) zak)))
noncomputable def zhr : DSt -> R Out := (zaC (sIf (zaw (eOp gLt (eOp gIx (zdi (eLC 1 [0] (zhU (zae 0)) zaJ (zaw (eOp gNe (zae 0) (eC (.int 0)))) (zae 0))) (eC (.int 0))) (eC (.int 0)))) (zax 1 (eUn zqv (zae 1))) zbq) zhq)
noncomputable def zhs : DSt -> R Out := (zaC (zjA [] [2] zaJ (zhU (zae 0)) zgB) zhr)
noncomputable def zfR : DSt -> R Out := (zaC (zax 1 (eC (.int 0))) zhs)
noncomputable def zeR : List D -> R D := fnM 1 3 zfR
theorem zjX (a0 : D) : zeR [a0] = fin (zfR [some a0, none, none]) := zaD (b := zfR) rfl rfl
noncomputable def zef : DSt -> R Out := (zbZ (zpq (zat zaR (zaa (eOp gIx (zae 0) (eC (.int 1))) zak)) (zat zaR (zaa (eOp gIx (zae 0) (eC (.int 2))) zak))))
noncomputable def zeg : DSt -> R Out := (zaC (sIf (eOr (zjG (zaw (zcD (g2 zet) (zaa (eOp gIx (zae 0) (eC (.int 0))) (zaa (eC (.ty "str")) zak))))) (zaw (eOp zoO (eOp gIx (zae 0) (eC (.int 0))) (zfl (zaa (eC (.str "line")) (zaa (eC (.str "peg")) zak)))))) (zbZ (eC (.bl false))) zbq) zef)
noncomputable def zcL : DSt -> R Out := (zaC (sIf (eOr (zjG (zaw (zcD (g2 zet) (zaa (zae 0) (zaa (eC (.ty "tuple")) zak))))) (zaw (eOp gNe (zcD zh0 (zaa (zae 0) zak)) (eC (.int 3))))) (zbZ (eC (.bl false))) zbq) zeg)
noncomputable def zb4 : List D -> R D := fnM 1 1 zcL
theorem zgC (a0 : D) : zb4 [a0] = fin (zcL [some a0]) := zaD (b := zcL) rfl rfl
noncomputable def zdm : DSt -> R Out := (sIf (zjG (zaw (zhe gLe gLt (eC (.int 0)) (zae 3) (zcD zh0 (zaa (zae 0) zak))))) zs7 zbq)
noncomputable def zeh : DSt -> R Out := (zbZ (zfl (zaa (zae 4) (zaa (zae 5) zak))))
noncomputable def zei : DSt -> R Out := (zaC (sIf (zaw (eOp gEq (zae 4) (zae 5))) zs7 zbq) zeh)
noncomputable def zej : DSt -> R Out := (zaC (zax 5 (eOp gIx (zae 0) (eOp gIx (zae 1) (eC (.int 2))))) zei)
noncomputable def zek : DSt -> R Out := (zaC (zax 4 (eOp gIx (zae 0) (eOp gIx (zae 1) (eC (.int 1))))) zej)
noncomputable def zcM : DSt -> R Out := (zaC (zjA [] [3] zaJ (zhU (zfl (zaa (eOp gIx (zae 1) (eC (.int 1))) (zaa (eOp gIx (zae 1) (eC (.int 2))) zak)))) zdm) zek)
noncomputable def zaS : List D -> R D := fnM 3 6 zcM
theorem zgD (a0 : D) (a1 : D) (a2 : D) : zaS [a0, a1, a2] = fin (zcM [some a0, some a1, some a2, none, none, none]) := zaD (b := zcM) rfl rfl
noncomputable def zcs : DSt -> R Out := (zqt [3, 2] 3 (zat zaA (zaa (eOp gIx (zae 6) (eC (.int 0))) (zaa (eOp gIx (zae 6) (eC (.int 1))) zak))))
noncomputable def zc9 : DSt -> R Out := (zaC (zna 6 (zat zaS (zaa (zae 2) (zaa (zae 5) (zaa (zae 4) zak))))) zcs)
noncomputable def zct : DSt -> R Out := (zqt [3, 2] 2 (zat zbK (zaa (eOp gIx (zae 6) (eC (.int 0))) (zaa (eOp gIx (zae 6) (eC (.int 1))) zak))))
noncomputable def zda : DSt -> R Out := (zaC (zna 6 (zat zaS (zaa (zae 3) (zaa (zae 5) (zaa (zae 4) zak))))) zct)
noncomputable def zds : DSt -> R Out := (sIf (zaw (eOp gEq (eOp gIx (zae 5) (eC (.int 0))) (eC (.str "line")))) zc9 zda)
noncomputable def zba : DSt -> R Out := (zaC (sIf (zjG (zaw (zat zb4 (zaa (zae 5) zak)))) zs7 zbq) zds)
noncomputable def zeS : DSt -> R Out := (zbZ (zfl (zaa (zae 2) (zaa (zae 3) zak))))
noncomputable def zeT : DSt -> R Out := (zaC (zjA [3, 2] [4, 5] (zbM 2) (zc2 zex (zaa (zae 1) zak)) zba) zeS)
noncomputable def zeU : DSt -> R Out := (zaC (znb [2] 3 (zfD zak)) zeT)
noncomputable def zdn : DSt -> R Out := (zaC (znb [] 2 (zlU ziR (zaa (zae 0) zak))) zeU)
noncomputable def zcu : List D -> R D := fnM 2 7 zdn
theorem zgY (a0 : D) (a1 : D) : zcu [a0, a1] = fin (zdn [some a0, some a1, none, none, none, none, none]) := zaD (b := zdn) rfl rfl
noncomputable def zaT : DSt -> R Out := (sIf (zaw (zat zbw (zaa (zdi (zfD (zaa (eOp gIx (zae 0) (zae 3)) (zaa (eOp gIx (zae 0) (zae 2)) (zaa (eOp gIx (zae 0) (zae 1)) zak))))) zak))) (zbZ (eC (.bl true))) zbq)
noncomputable def zaV : DSt -> R Out := (zjA [] [3] zaJ (zc2 zgS (zaa (zae 2) zak)) zaT)
noncomputable def za3 : DSt -> R Out := (zjA [] [2] zaJ (zc2 zgS (zaa (zae 1) zak)) zaV)
noncomputable def zcg : DSt -> R Out := (zbZ (eC (.bl false)))
noncomputable def zbe : DSt -> R Out := (zaC (zjA [] [1] zaJ (zc2 zgS (zaa (zcD zh0 (zaa (zae 0) zak)) zak)) za3) zcg)
noncomputable def zaU : List D -> R D := fnM 1 4 zbe
theorem zdR (a0 : D) : zaU [a0] = fin (zbe [some a0, none, none, none]) := zaD (b := zbe) rfl rfl
noncomputable def zbb : DSt -> R Out := (sIf (eOr (zjG (zaw (zat zaz (zaa (zae 0) zak)))) (eOr (zaw (eOp gNe (zcD zh0 (zaa (zae 0) zak)) (zae 1))) (zaw (zat zaU (zaa (zae 0) zak))))) (zjR "NoBow") zbq)
noncomputable def zan : List D -> R D := fnM 2 2 zbb
theorem zbQ (a0 : D) (a1 : D) : zan [a0, a1] = fin (zbb [some a0, some a1]) := zaD (b := zbb) rfl rfl
noncomputable def zdS : DSt -> R Out := (zbZ (eOp zcH (zae 3) (zae 4)))
noncomputable def zdT : DSt -> R Out := (zaC (zjL [] 4 (zdi (eLC 2 [0, 1] (zhU (zfl (zaa (zfl (zaa (eC (.int 0)) (zaa (eC (.int 1)) zak))) (zaa (zfl (zaa (eC (.int 0)) (zaa (eC (.int 2)) zak))) (zaa (zfl (zaa (eC (.int 1)) (zaa (eC (.int 2)) zak))) zak))))) (zbM 2) zbv (eOp zcH (eOp za1 (eOp gIx (zae 3) (zae 0)) (eOp gIx (zae 4) (zae 1))) (eOp za1 (eOp gIx (zae 3) (zae 1)) (eOp gIx (zae 4) (zae 0))))))) zdS)
noncomputable def zdU : DSt -> R Out := (zaC (zjL [] 3 (zdi (eLC 1 [0] (zc2 zgS (zaa (eC (.int 3)) zak)) zaJ zbv (eOp za1 (eOp gIx (zae 2) (zae 0)) (eOp gIx (zae 3) (zae 0)))))) zdT)
noncomputable def zdV : DSt -> R Out := (zaC (zax 2 (eOp gIx (zae 0) (eC (.int 1)))) zdU)
noncomputable def zcl : DSt -> R Out := (zaC (zax 1 (eOp gIx (zae 0) (eC (.int 0)))) zdV)
noncomputable def za4 : List D -> R D := fnM 1 5 zcl
theorem zfG (a0 : D) : za4 [a0] = fin (zcl [some a0, none, none, none, none]) := zaD (b := zcl) rfl rfl
noncomputable def zht : DSt -> R Out := (zbZ (zat zeR (zaa (zdi (eLC 2 [0, 1] (zc2 zh5 (zaa (eOp gIx (zae 5) (eC (.int 0))) (zaa (eOp gIx (zae 5) (eC (.int 1))) zak))) (zbM 2) zbv (eOp gSub (eOp za1 (zae 5) (zae 0)) (eOp za1 (zae 6) (zae 1))))) zak)))
noncomputable def zhu : DSt -> R Out := (zaC (zax 5 (zfl (zaa (zat za4 (zaa (zae 1) zak)) (zaa (zat za4 (zaa (zae 2) zak)) zak)))) zht)
noncomputable def zhv : DSt -> R Out := (zaC (zax 4 (eOp za1 (zat zgz (zaa (eOp gIx (zae 1) (eC (.int 0))) (zaa (eOp gIx (zae 0) (eC (.int 4))) zak))) (zat zgz (zaa (eOp gIx (zae 1) (eC (.int 1))) (zaa (eOp gIx (zae 0) (eC (.int 4))) zak))))) zhu)
noncomputable def zhw : DSt -> R Out := (zaC (zax 3 (eOp za1 (zat zgz (zaa (eOp gIx (zae 2) (eC (.int 0))) (zaa (eOp gIx (zae 0) (eC (.int 4))) zak))) (zat zgz (zaa (eOp gIx (zae 2) (eC (.int 1))) (zaa (eOp gIx (zae 0) (eC (.int 4))) zak))))) zhv)
noncomputable def zhx : DSt -> R Out := (zaC (zax 2 (zfl (zaa (zat zaA (zaa (eOp gIx (zae 0) (eC (.int 0))) (zaa (eOp gIx (zae 0) (eC (.int 2))) zak))) (zaa (zat zaA (zaa (eOp gIx (zae 0) (eC (.int 1))) (zaa (eOp gIx (zae 0) (eC (.int 3))) zak))) zak)))) zhw)
noncomputable def zhy : DSt -> R Out := (zaC (zax 1 (zfl (zaa (zat zaA (zaa (eOp gIx (zae 0) (eC (.int 0))) (zaa (eOp gIx (zae 0) (eC (.int 1))) zak))) (zaa (zat zaA (zaa (eOp gIx (zae 0) (eC (.int 2))) (zaa (eOp gIx (zae 0) (eC (.int 3))) zak))) zak)))) zhx)
noncomputable def zfS : DSt -> R Out := (zaC (zjK (zat zan (zaa (zae 0) (zaa (eC (.int 5)) zak)))) zhy)
noncomputable def zdo : List D -> R D := fnM 1 6 zfS
theorem zjY (a0 : D) : zdo [a0] = fin (zfS [some a0, none, none, none, none, none]) := zaD (b := zfS) rfl rfl
noncomputable def zhz : DSt -> R Out := (zbZ (eOp gEq (zcD zs8 (zaa (zdi (eLC 2 [0, 1] (zc2 zh5 (zaa (zae 0) (zaa (zae 5) zak))) (zbM 2) zbv (eOp za1 (zae 0) (zae 1)))) zak)) (eC (.int 0))))
noncomputable def zhA : DSt -> R Out := (zaC (zax 5 (zfl (zaa (eOp za1 (zae 2) (zae 2)) (zaa (eOp za1 (zae 3) (zae 3)) (zaa (eOp za1 (zae 4) (zae 4)) (zaa (eOp za1 (zae 2) (zae 3)) (zaa (eOp za1 (zae 2) (zae 4)) (zaa (eOp za1 (zae 3) (zae 4)) zak)))))))) zhz)
noncomputable def zhB : DSt -> R Out := (zaC (zax 4 (eOp gIx (zae 1) (eC (.int 2)))) zhA)
noncomputable def zhC : DSt -> R Out := (zaC (zax 3 (eOp gIx (zae 1) (eC (.int 1)))) zhB)
noncomputable def zfT : DSt -> R Out := (zaC (zax 2 (eOp gIx (zae 1) (eC (.int 0)))) zhC)
noncomputable def zcN : List D -> R D := fnM 2 6 zfT
theorem zjZ (a0 : D) (a1 : D) : zcN [a0, a1] = fin (zfT [some a0, some a1, none, none, none, none]) := zaD (b := zfT) rfl rfl
def zlq : D := .lst [.tup [.str "line", .int 0, .int 5], .tup [.str "line", .int 2, .int 3], .tup [.str "peg", .int 0, .int 1], .tup [.str "line", .int 0, .int 1], .tup [.str "line", .int 3, .int 4], .tup [.str "peg", .int 2, .int 3], .tup [.str "line", .int 6, .int 7], .tup [.str "line", .int 1, .int 2], .tup [.str "peg", .int 4, .int 5], .tup [.str "line", .int 4, .int 8], .tup [.str "peg", .int 0, .int 6]]
def zlr : D := .int 9
noncomputable def zfq : DSt -> R Out := (zbZ (eOp gIx (eOp gIx (zat zcu (zaa (eOp zcH (zae 0) (zdi (zfD (zaa (zae 1) zak)))) (zaa (zdi (zlU ziR (zaa (eC zlq) zak))) zak))) (eC (.int 0))) (eC zlr)))
noncomputable def zfr : DSt -> R Out := (zaC (sIf (zaw (eOp gEq (zae 1) (eOp gIx (zae 0) (eC (.int 0))))) zs7 zbq) zfq)
noncomputable def zd6 : DSt -> R Out := (zaC (zjK (zat zan (zaa (zae 0) (zaa (eC (.int 5)) zak)))) zfr)
noncomputable def zbR : List D -> R D := fnM 2 2 zd6
theorem zh8 (a0 : D) (a1 : D) : zbR [a0, a1] = fin (zd6 [some a0, some a1]) := zaD (b := zd6) rfl rfl
noncomputable def zoj : DSt -> R Out := (zbZ (zfl (zaa (eC (.str "off")) (zaa (zat zbR (zaa (eSl (zae 0) zeu (zb0 (eC (.int 5)))) (zaa (eOp gIx (zae 0) (eC (.int 5))) zak))) zak))))
noncomputable def zok : DSt -> R Out := (zaC (sIf (zaw (zat zcN (zaa (zae 1) (zaa (eOp gIx (zae 0) (eC (.int 5))) zak)))) (zbZ (zfl (zaa (eC (.str "bow")) (zaa (zae 1) zak)))) zbq) zoj)
noncomputable def zol : DSt -> R Out := (zaC (zax 1 (zat zdo (zaa (eSl (zae 0) zeu (zb0 (eC (.int 5)))) zak))) zok)
noncomputable def zom : DSt -> R Out := (zaC (zjK (zat zan (zaa (zae 0) (zaa (eC (.int 6)) zak)))) zol)
noncomputable def zgZ : List D -> R D := fnM 1 2 zom
theorem zls (a0 : D) : zgZ [a0] = fin (zom [some a0, none]) := zaD (b := zom) rfl rfl
noncomputable def zbN : DSt -> R Out := (zjL [4] 3 (eOp zes (zae 3) (eOp zsf (eC (.int 10)) (eC (.int 6)))))
noncomputable def zch : DSt -> R Out := (zaC (zqt [4] 4 (eOp zeH (zae 3) (eOp zsf (eC (.int 10)) (eC (.int 6))))) zbN)
noncomputable def zbO : DSt -> R Out := (zqt [4] 4 (eOp zeH (eOp za1 (eOp zeH (eOp za1 (zae 6) (zae 6)) (eC (.int 2147483629))) (eC (.int 48271))) (eC (.int 2147483647))))
noncomputable def zaW : DSt -> R Out := (zaC (zjL [4] 6 (eOp zeH (eOp za1 (eOp zeH (eOp zcH (eOp zcH (zae 2) (eOp za1 (eOp za1 (eC (.int 101)) (zae 5)) (zae 5))) (zae 5)) (eC (.int 2147483647))) (eC (.int 48271))) (eC (.int 2147483647)))) zbO)
noncomputable def zaQ : DSt -> R Out := (sIf (zr8 (zaw (eOp gGe (zae 2) (eOp zsf (eC (.int 10)) (eC (.int 18))))) (zaw (eOp gGt (zae 3) (eC (.int 0))))) zch zaW)
noncomputable def zcO : DSt -> R Out := (zbZ (zae 4))
noncomputable def zcP : DSt -> R Out := (zaC (zjA [4] [5] zaJ (zc2 zgS (zaa (zae 1) zak)) zaQ) zcO)
noncomputable def zcQ : DSt -> R Out := (zaC (znb [] 4 (zfD zak)) zcP)
noncomputable def zcR : DSt -> R Out := (zaC (zax 3 (zae 2)) zcQ)
noncomputable def zbt : DSt -> R Out := (zaC (zax 2 (zcD zvB (zaa (zae 0) (zaa (eOp gSub (eUn zqv (eC (.int 1))) (zae 0)) zak)))) zcR)
noncomputable def zaL : List D -> R D := fnM 2 7 zbt
theorem zez (a0 : D) (a1 : D) : zaL [a0, a1] = fin (zbt [some a0, some a1, none, none, none, none, none]) := zaD (b := zbt) rfl rfl
noncomputable def za5 : DSt -> R Bool := (zaw (eOp gNe (zae 4) (eC (.int 0))))
noncomputable def zbx : DSt -> R Out := (zwC [] 3 4 (zaa (zae 4) (zaa (eOp zeH (zae 3) (zae 4)) zak)))
noncomputable def zcS : DSt -> R Out := (zbp za5 zbx)
noncomputable def zbS : DSt -> R Out := (zbZ (zfl (zaa (eOp zes (zae 0) (zae 3)) (zaa (eOp zes (zae 1) (zae 3)) (zaa (eOp zes (zae 2) (zae 3)) zak)))))
noncomputable def zdb : DSt -> R Out := (zaC (sIf (zaw (eOp gLt (zae 5) (eC (.int 0)))) (zax 3 (eOp gSub (eC (.int 0)) (zae 3))) zbq) zbS)
noncomputable def zdc : DSt -> R Out := (zaC (zax 5 (eOp gIx (zdi (eLC 1 [0] (zhU (zdi (zfD (zaa (zae 0) (zaa (zae 1) (zaa (zae 2) zak)))))) zaJ (zaw (eOp gNe (zae 0) (eC (.int 0)))) (zae 0))) (eUn zqv (eC (.int 1))))) zdb)
noncomputable def zdd : DSt -> R Out := (zaC (zjA [] [4] zaJ (zhU (zdi (zfD (zaa (zcD zqw (zaa (zae 1) zak)) (zaa (zcD zqw (zaa (zae 2) zak)) zak))))) zcS) zdc)
noncomputable def zbL : DSt -> R Out := (zaC (zax 3 (zcD zqw (zaa (zae 0) zak))) zdd)
noncomputable def zaq : List D -> R D := fnM 3 6 zbL
theorem zeV (a0 : D) (a1 : D) (a2 : D) : zaq [a0, a1, a2] = fin (zbL [some a0, some a1, some a2, none, none, none]) := zaD (b := zbL) rfl rfl
noncomputable def zb9 : DSt -> R Out := (zbZ (zat zaq (zaa (zae 2) (zaa (zae 3) (zaa (zae 4) zak)))))
noncomputable def zdt : DSt -> R Out := (zaC (sIf (zr8 (zaw (eOp gEq (zae 2) (eC (.int 0)))) (zr8 (zaw (eOp gEq (zae 3) (eC (.int 0)))) (zaw (eOp gEq (zae 4) (eC (.int 0)))))) (zax 4 (eC (.int 1))) zbq) zb9)
noncomputable def zdu : DSt -> R Out := (zaC (zax 4 (eOp gSub (eOp zeH (eOp gIx (zae 0) (eC (.int 2))) (eOp zcH (eOp za1 (eC (.int 2)) (zae 1)) (eC (.int 1)))) (zae 1))) zdt)
noncomputable def zdv : DSt -> R Out := (zaC (zax 3 (eOp gSub (eOp zeH (eOp gIx (zae 0) (eC (.int 1))) (eOp zcH (eOp za1 (eC (.int 2)) (zae 1)) (eC (.int 1)))) (zae 1))) zdu)
noncomputable def zdw : DSt -> R Out := (zaC (zax 2 (eOp gSub (eOp zeH (eOp gIx (zae 0) (eC (.int 0))) (eOp zcH (eOp za1 (eC (.int 2)) (zae 1)) (eC (.int 1)))) (zae 1))) zdv)
noncomputable def zbU : DSt -> R Out := (zaC (zax 1 (eOp gIx (zdi (zfD (zaa (eC (.int 2)) (zaa (eC (.int 5)) (zaa (eC (.int 1000)) zak))))) (eOp zeH (eOp gIx (zae 0) (eC (.int 3))) (eC (.int 3))))) zdw)
noncomputable def zaE : List D -> R D := fnM 1 5 zbU
theorem zfe (a0 : D) : zaE [a0] = fin (zbU [some a0, none, none, none, none]) := zaD (b := zbU) rfl rfl
noncomputable def zeW : DSt -> R Out := (zbZ (eOp zcH (eOp zcH (eOp za1 (eOp gIx (zae 0) (eC (.int 0))) (eOp gIx (zae 1) (eC (.int 0)))) (eOp za1 (eOp gIx (zae 0) (eC (.int 1))) (eOp gIx (zae 1) (eC (.int 1))))) (eOp za1 (eOp gIx (zae 0) (eC (.int 2))) (eOp gIx (zae 1) (eC (.int 2))))))
noncomputable def zb5 : List D -> R D := fnM 2 2 zeW
theorem zjq (a0 : D) (a1 : D) : zb5 [a0, a1] = fin (zeW [some a0, some a1]) := zaD (b := zeW) rfl rfl
noncomputable def zc3 : DSt -> R Out := (zbZ (eOp zcH (eOp gSub (zae 9) (zae 10)) (eOp za1 (eOp gIx (zae 0) (eC (.int 2))) (eOp gSub (eOp za1 (zae 3) (zae 7)) (eOp za1 (zae 4) (zae 6))))))
noncomputable def zc4 : DSt -> R Out := (zaC (zax 10 (eOp za1 (eOp gIx (zae 0) (eC (.int 1))) (eOp gSub (eOp za1 (zae 3) (zae 8)) (eOp za1 (zae 5) (zae 6))))) zc3)
noncomputable def zc5 : DSt -> R Out := (zaC (zax 9 (eOp za1 (eOp gIx (zae 0) (eC (.int 0))) (eOp gSub (eOp za1 (zae 4) (zae 8)) (eOp za1 (zae 5) (zae 7))))) zc4)
noncomputable def zc6 : DSt -> R Out := (zaC (zuk [] [6, 7, 8] (zbM 3) (zae 2)) zc5)
noncomputable def zb6 : DSt -> R Out := (zaC (zuk [] [3, 4, 5] (zbM 3) (zae 1)) zc6)
noncomputable def zaN : List D -> R D := fnM 3 11 zb6
theorem zgE (a0 : D) (a1 : D) (a2 : D) : zaN [a0, a1, a2] = fin (zb6 [some a0, some a1, some a2, none, none, none, none, none, none, none, none]) := zaD (b := zb6) rfl rfl
noncomputable def zde : DSt -> R Out := (zqt [2] 2 (zdi (eLC 1 [0] (zhU (zae 4)) zaJ zbv (eOp gSub (eOp zeH (zae 0) (eOp zcH (eOp za1 (eC (.int 2)) (zae 2)) (eC (.int 1)))) (zae 2)))))
noncomputable def zcv : DSt -> R Out := (zaC (zjL [2] 4 (zdi (eLC 1 [0] (zc2 zgS (zaa (eC (.int 3)) zak)) zaJ zbv (eOp gIx (zae 1) (eOp zcH (eOp za1 (eC (.int 3)) (zae 4)) (zae 0)))))) zde)
noncomputable def zel : DSt -> R Out := (zbZ (zae 2))
noncomputable def zem : DSt -> R Out := (zaC (sIf (zaw (eOp gEq (zat zaN (zaa (eOp gIx (zae 2) (eC (.int 0))) (zaa (eOp gIx (zae 2) (eC (.int 1))) (zaa (eOp gIx (zae 2) (eC (.int 2))) zak)))) (eC (.int 0)))) (zbZ (zdi (zfD (zaa (zdi (zfD (zaa (eC (.int 1)) (zaa (eOp zeH (eOp gIx (zae 0) (eC (.int 0))) (eC (.int 7))) (zaa (eOp zeH (eOp gIx (zae 0) (eC (.int 1))) (eC (.int 5))) zak))))) (zaa (zdi (zfD (zaa (eC (.int 0)) (zaa (eC (.int 1)) (zaa (eOp zeH (eOp gIx (zae 0) (eC (.int 2))) (eC (.int 9))) zak))))) (zaa (zdi (zfD (zaa (eC (.int 0)) (zaa (eC (.int 0)) (zaa (eOp zcH (eC (.int 1)) (eOp zeH (eOp gIx (zae 0) (eC (.int 4))) (eC (.int 4)))) zak))))) zak)))))) zbq) zel)
noncomputable def zen : DSt -> R Out := (zaC (zjA [2] [3] zaJ (zc2 zgS (zaa (eC (.int 3)) zak)) zcv) zem)
noncomputable def zeo : DSt -> R Out := (zaC (znb [] 2 (zfD zak)) zen)
noncomputable def zcT : DSt -> R Out := (zaC (zax 1 (eOp gIx (zdi (zfD (zaa (eC (.int 1)) (zaa (eC (.int 2)) (zaa (eC (.int 30)) zak))))) (eOp zeH (eOp gIx (zae 0) (eC (.int 9))) (eC (.int 3))))) zeo)
noncomputable def zbz : List D -> R D := fnM 1 5 zcT
theorem zgF (a0 : D) : zbz [a0] = fin (zcT [some a0, none, none, none, none]) := zaD (b := zcT) rfl rfl
noncomputable def zcU : DSt -> R Out := (zbZ (zat zaq (zaa (zat zb5 (zaa (eOp gIx (zae 0) (eC (.int 0))) (zaa (zae 1) zak))) (zaa (zat zb5 (zaa (eOp gIx (zae 0) (eC (.int 1))) (zaa (zae 1) zak))) (zaa (zat zb5 (zaa (eOp gIx (zae 0) (eC (.int 2))) (zaa (zae 1) zak))) zak)))))
noncomputable def zbA : List D -> R D := fnM 2 2 zcU
theorem zgG (a0 : D) (a1 : D) : zbA [a0, a1] = fin (zcU [some a0, some a1]) := zaD (b := zcU) rfl rfl
noncomputable def za6 : DSt -> R Out := (zqt [2] 2 (zat zbA (zaa (zae 1) (zaa (zfl (zaa (eOp za1 (zae 4) (zae 4)) (zaa (eOp za1 (zae 4) (zae 5)) (zaa (eOp za1 (zae 5) (zae 5)) zak)))) zak))))
noncomputable def zcw : DSt -> R Out := (zaC (sIf (zr8 (zaw (eOp gEq (zae 4) (eC (.int 0)))) (zaw (eOp gEq (zae 5) (eC (.int 0))))) (zjL [2] 5 (eC (.int 1))) zbq) za6)
noncomputable def zcx : DSt -> R Out := (zaC (zjL [2] 5 (eOp zeH (eOp gIx (zae 0) (eOp zcH (eOp za1 (eC (.int 2)) (zae 3)) (eC (.int 1)))) (eC (.int 4)))) zcw)
noncomputable def zaX : DSt -> R Out := (zaC (zjL [2] 4 (eOp gSub (eOp zeH (eOp gIx (zae 0) (eOp za1 (eC (.int 2)) (zae 3))) (eC (.int 13))) (eC (.int 6)))) zcx)
noncomputable def zfH : DSt -> R Out := (zsK 2)
noncomputable def zdx : DSt -> R Out := (zaC (zjA [2] [3] zaJ (zc2 zgS (zaa (eOp zes (zcD zh0 (zaa (zae 0) zak)) (eC (.int 2))) zak)) zaX) zfH)
noncomputable def zbV : DSt -> R Out := (zaC (znb [] 2 (zfD zak)) zdx)
noncomputable def zbc : List D -> R (List D) := zsI 2 6 zbV
theorem zff (a0 : D) (a1 : D) : zbc [a0, a1] = zvJ (zbV [some a0, some a1, none, none, none, none]) := zsJ (b := zbV) rfl rfl
noncomputable def zbW : DSt -> R Out := (sIf (zaw (eOp gEq (zat zaN (zaa (eOp gIx (zae 0) (zae 1)) (zaa (eOp gIx (zae 0) (zae 2)) (zaa (eOp gIx (zae 0) (zae 3)) zak)))) (eC (.int 0)))) (zbZ (eC (.bl true))) zbq)
noncomputable def zcm : DSt -> R Out := (zjA [] [3] zaJ (zc2 zgS (zaa (zae 2) zak)) zbW)
noncomputable def zcV : DSt -> R Out := (zjA [] [2] zaJ (zc2 zgS (zaa (zae 1) zak)) zcm)
noncomputable def zeX : DSt -> R Out := (zbZ (eC (.bl false)))
noncomputable def zdp : DSt -> R Out := (zaC (zjA [] [1] zaJ (zc2 zgS (zaa (zcD zh0 (zaa (zae 0) zak)) zak)) zcV) zeX)
noncomputable def zcy : List D -> R D := fnM 1 4 zdp
theorem zg0 (a0 : D) : zcy [a0] = fin (zdp [some a0, none, none, none]) := zaD (b := zdp) rfl rfl
noncomputable def zcW : DSt -> R Out := (zbZ (zpq (zcD (g2 zet) (zaa (zae 1) (zaa (eC (.cls "NoBow")) zak))) (zpq (zcD (g2 zet) (zaa (zae 1) (zaa (eC (.ty "ValueError")) zak))) (zvx (zcD (g2 zet) (zaa (zae 1) (zaa (eC (.cls "Same")) zak)))))))
noncomputable def zcX : DSt -> R Out := (zaC (zvD 2 "ChalkError" (zjK (zkz zgZ (zaa (zae 0) zak))) (zax 1 (zae 2))) zcW)
noncomputable def zbu : DSt -> R Out := (zaC (zax 1 (eC .non)) zcX)
noncomputable def zaM : List D -> R D := fnM 1 3 zbu
theorem zeA (a0 : D) : zaM [a0] = fin (zbu [some a0, none, none]) := zaD (b := zbu) rfl rfl
noncomputable def zdy : DSt -> R Out := (zbZ (zpq (zat zcN (zaa (zae 3) (zaa (eOp gIx (zae 2) (eC (.int 1))) zak))) (eOp gEq (eOp gIx (zae 2) (eC (.int 1))) (zat zbR (zaa (eSl (zae 0) zeu (zb0 (eC (.int 5)))) (zaa (eOp gIx (zae 0) (eC (.int 5))) zak))))))
noncomputable def zca : DSt -> R Out := (zaC (sIf (eOr (zaw (eOp gNe (eOp gIx (zae 2) (eC (.int 0))) (eC (.str "off")))) (eOr (zaw (eOp gEq (eOp gIx (zae 2) (eC (.int 1))) (eOp gIx (zae 0) (eC (.int 5))))) (zaw (eOp gNe (zat zaN (zaa (eOp gIx (zae 0) (eC (.int 0))) (zaa (eOp gIx (zae 0) (eC (.int 5))) (zaa (eOp gIx (zae 2) (eC (.int 1))) zak)))) (eC (.int 0)))))) (zbZ (eC (.bl false))) zbq) zdy)
noncomputable def zdz : DSt -> R Out := (zaC (sIf (zaw (eOp gEq (zcD zs8 (zaa (zdi (eLC 2 [0, 1] (zc2 zl0 (zaa (zae 3) (zaa (zae 7) zak))) (zbM 2) zbv (eOp za1 (zae 0) (zae 1)))) zak)) (eC (.int 0)))) (zbZ (eOp gEq (zae 2) (zfl (zaa (eC (.str "bow")) (zaa (zae 3) zak))))) zbq) zca)
noncomputable def zdA : DSt -> R Out := (zaC (zax 7 (zdi (zfD (zaa (eOp za1 (zae 4) (zae 4)) (zaa (eOp za1 (zae 5) (zae 5)) (zaa (eOp za1 (zae 6) (zae 6)) (zaa (eOp za1 (zae 4) (zae 5)) (zaa (eOp za1 (zae 4) (zae 6)) (zaa (eOp za1 (zae 5) (zae 6)) zak))))))))) zdz)
noncomputable def zdB : DSt -> R Out := (zaC (zuk [] [4, 5, 6] (zbM 3) (eOp gIx (zae 0) (eC (.int 5)))) zdA)
noncomputable def zcb : DSt -> R Out := (zaC (zax 3 (zat zdo (zaa (eSl (zae 0) zeu (zb0 (eC (.int 5)))) zak))) zdB)
noncomputable def zcc : DSt -> R Out := (zaC (sIf (eOr (zjG (zaw (zcD (g2 zet) (zaa (zae 2) (zaa (eC (.ty "tuple")) zak))))) (eOr (zaw (eOp gNe (zcD zh0 (zaa (zae 2) zak)) (eC (.int 2)))) (zaw (eOp gNe (zae 1) (zae 0))))) (zbZ (eC (.bl false))) zbq) zcb)
noncomputable def zdC : DSt -> R Out := (zaC (zax 2 (zat zgZ (zaa (zae 1) zak))) zcc)
noncomputable def zdD : DSt -> R Out := (zaC (sIf (zaw (zat zcy (zaa (zae 0) zak))) (zbZ (zpq (zat zaM (zaa (zae 1) zak)) (eOp gEq (zae 1) (zae 0)))) zbq) zdC)
noncomputable def zbX : DSt -> R Out := (zaC (zax 1 (zdi (zlU ziR (zaa (zae 0) zak)))) zdD)
noncomputable def zbr : List D -> R D := fnM 1 8 zbX
theorem zfg (a0 : D) : zbr [a0] = fin (zbX [some a0, none, none, none, none, none, none, none]) := zaD (b := zbX) rfl rfl
noncomputable def zgH : DSt -> R Out := (zbZ (zat zaq (zaa (zae 3) (zaa (zae 4) (zaa (eOp zcH (eOp gIx (zae 0) (eC (.int 2))) (eOp za1 (zae 2) (eOp gIx (zae 1) (eC (.int 2))))) zak)))))
noncomputable def zgI : DSt -> R Out := (zaC (zax 4 (eOp zcH (eOp gIx (zae 0) (eC (.int 1))) (eOp za1 (zae 2) (eOp gIx (zae 1) (eC (.int 1)))))) zgH)
noncomputable def zeY : DSt -> R Out := (zaC (zax 3 (eOp zcH (eOp gIx (zae 0) (eC (.int 0))) (eOp za1 (zae 2) (eOp gIx (zae 1) (eC (.int 0)))))) zgI)
noncomputable def zdW : List D -> R D := fnM 3 5 zeY
theorem zjr (a0 : D) (a1 : D) (a2 : D) : zdW [a0, a1, a2] = fin (zeY [some a0, some a1, some a2, none, none]) := zaD (b := zeY) rfl rfl
noncomputable def zfs : DSt -> R Out := (sIf (eOr (zjG (zaw (zat zbr (zaa (zae 4) zak)))) (zjG (zaw (zat zaM (zaa (zae 6) zak))))) (zbZ (eC (.bl false))) zbq)
noncomputable def zft : DSt -> R Out := (zaC (zax 6 (eOp gIx (zae 6) (eOp zeH (eOp gIx (zae 2) (eC (.int 54))) (eC (.int 7))))) zfs)
noncomputable def zfu : DSt -> R Out := (zaC (zax 6 (zdi (zfD (zaa (eSl (zae 4) zeu (zb0 (eC (.int 5)))) (zaa (eOp zcH (zae 4) (zdi (zfD (zaa (eOp gIx (zae 4) (eC (.int 0))) zak)))) (zaa (zcD ziQ (zaa (zae 4) zak)) (zaa (eC .non) (zaa (zdi (zfD zak)) (zaa (eOp zcH (eSl (zae 4) zeu (zb0 (eC (.int 5)))) (zdi (zfD (zaa (zae 5) zak)))) (zaa (eOp zcH (zdi (zfD (zaa (zae 5) zak))) (eSl (zae 4) (zb0 (eC (.int 1))) zeu)) zak)))))))))) zft)
noncomputable def zbB : DSt -> R Out := (zaC (zax 5 (eOp gIx (zdi (zfD (zaa (eC .non) (zaa (eC (.str "a")) (zaa (zfl (zaa (eC (.int 0)) (zaa (eC (.int 0)) (zaa (eC (.int 0)) zak)))) (zaa (zfl (zaa (eC (.int 2)) (zaa (eC (.int 0)) (zaa (eC (.int 2)) zak)))) (zaa (zfl (zaa (eC (.int 1)) (zaa (eC (.int 0)) zak))) (zaa (zdi (zfD (zaa (eC (.int 1)) (zaa (eC (.int 0)) (zaa (eC (.int 1)) zak))))) (zaa (zfl (zaa (eC (.bl true)) (zaa (eC (.int 0)) (zaa (eC (.int 1)) zak)))) zak))))))))) (eOp zeH (eOp gIx (zae 2) (eC (.int 55))) (eC (.int 7))))) zfu)
noncomputable def zcY : DSt -> R Out := (zaC (sIf (zr8 (zaw (eOp gEq (eOp zeH (eOp gIx (zae 2) (eC (.int 27))) (eC (.int 8))) (eC (.int 1)))) (zaw (eOp gNe (eOp gIx (zae 4) (eC (.int 1))) (eOp gIx (zae 4) (eC (.int 2)))))) (zaC (zpL 4 (eC (.int 5)) (zat zdW (zaa (eOp gIx (zae 4) (eC (.int 1))) (zaa (eOp gIx (zae 4) (eC (.int 2))) (zaa (eOp zcH (eC (.int 1)) (eOp zeH (eOp gIx (zae 2) (eC (.int 28))) (eC (.int 5)))) zak))))) zbq) zbq) zbB)
noncomputable def zcZ : DSt -> R Out := (zaC (sIf (zaw (eOp gEq (eOp zeH (eOp gIx (zae 2) (eC (.int 22))) (eC (.int 2))) (eC (.int 1)))) (zvH [4] 4 (eC (.int 5)) (zat zaE (zaa (eSl (zae 2) (zb0 (eC (.int 23))) (zb0 (eC (.int 27)))) zak))) zbq) zcY)
noncomputable def zfv : DSt -> R Out := (zaC (sIf (zaw (eOp gEq (eOp zeH (eOp gIx (zae 2) (eC (.int 29))) (eC (.int 4))) (eC (.int 1)))) (znb [4] 4 (eLC 1 [0] (zc2 zgS (zaa (eC (.int 6)) zak)) zaJ zbv (zat zaE (zaa (eSl (zae 3) (zb0 (eOp zcH (eC (.int 30)) (eOp za1 (eC (.int 4)) (zae 0)))) (zb0 (eOp zcH (eC (.int 34)) (eOp za1 (eC (.int 4)) (zae 0))))) zak)))) zbq) zcZ)
noncomputable def zfw : DSt -> R Out := (zaC (znb [] 4 (zod zbc (zaa (eSl (zae 2) (zb0 (eC (.int 10))) (zb0 (eC (.int 22)))) (zaa (zae 3) zak)))) zfv)
noncomputable def zfx : DSt -> R Out := (zaC (zax 3 (zat zbz (zaa (eSl (zae 2) zeu (zb0 (eC (.int 10)))) zak))) zfw)
noncomputable def zbT : DSt -> R Out := (zaC (zax 2 (zat zaL (zaa (zae 1) (zaa (eC (.int 60)) zak)))) zfx)
noncomputable def zgJ : DSt -> R Out := (zbZ (eC (.bl true)))
noncomputable def zeZ : DSt -> R Out := (zaC (zjA [] [1] zaJ (zhU (eSl (eOp zcH (zdi (zfD (zaa (eC (.int 0)) zak))) (zae 0)) zeu (zb0 (eC (.int 16))))) zbT) zgJ)
noncomputable def ze0 : List D -> R D := fnM 1 7 zeZ
theorem zjs (a0 : D) : ze0 [a0] = fin (zeZ [some a0, none, none, none, none, none, none]) := zaD (b := zeZ) rfl rfl
end Mir
section
open L2 DL Mir
local macro_rules | `(tactic| kd_p) => `(tactic| simp only [zkA, zjS, znp, znq, znr, zkB, ziS, ziT, ziU, zqB, zns, znt, znu, zqC, zgf, zkC, ziV, zhh, ziW, zkD, znv, ziX, zkE, ziY, zkF, zgg, zkG, ziZ, zkH, zqE, zqF, zqG, zqH, zqI, zqJ, zqK, zqL, zkI, zqM, zqN, zqO, zqP, zqQ, zqR, zqS, zkJ, zkK, zi0, zkL, zkM, zqT, zqU, znw, zuZ, zu0, zkN, znx, zkO, zny, znz, znA, zqV, zqW, zkP, zkQ, znB, zqX, zqY, znC, zst, zsu, zhi, zhj, zkR, zi3, zhk, zhl, zkT, znD, zkU, zi4, zkV, zi5, zi6, zkW, znE, zkX, zkY, znF, zkZ, znG, znH, znI, znJ, zk0, znK, zhm, zk1, zgi, zk2, znL, zk3, zq1, zq2, znM, znN, znO, zq3, zq4, zq5, zq6, zq7, zq8, zq9, zra, zrb, zrc, zrd, zre, zrf, znP, znQ, zk5, zjQ, zk6, zk7, zk8, zk9, zla, zlb, zrg, znR, znS, znT, znU, znV, eq_self, decide_true, decide_false, Int.reduceEq, Int.reduceLT, Int.reduceLE, Int.reduceNeg, Int.reduceToNat, zrh, znW, znX, zri, zgj, zfo, zgk, zhn, zgl, zgm, zgn, zgo, zlc, zjb, zld, zle, znZ, zn0, zlf, zn1, zd5, zlj, zfO, zlg, zlh, zli, zjc, zn2, zfJ, mask, zfE, List.contains_cons, List.contains_nil, Bool.or_false, Bool.false_or, Bool.true_or, Bool.or_true, Nat.reduceBEq, Nat.reduceAdd, xbm, cond_true, cond_false, List.set_cons_zero, List.set_cons_succ, Bool.not_true, xdd, Bool.not_not, Bool.true_and, Bool.false_and, Bool.and_true, Bool.and_false])
namespace LmP
open Mth
theorem zvK {n : Nat} {i : Int} (h : B n i) : i.natAbs <= 2 ^ n - 1 := by unfold B at h; omega
theorem zlt {n : Nat} {x y z : Int} (hx : B n x) (hy : B n y) (hz : B n z) (h : NZ x y z) (hn : n <= 9000) : zng (zdE x y z) = true := by
 refine zjP (n := n) ?_ (zco h).ne hn
 have := zrU (zvK hx) (zvK hy) (zvK hz)
 have p : 0 < 2 ^ n := Nat.pow_pos (by decide)
 unfold B; omega
theorem zfh (a b : Int) : zbl [.int a, .int b] = .ok (.int ((Nat.gcd a.natAbs b.natAbs : Nat) : Int)) := by
 rw [zjk]
 unfold zeL zgv zgu zgt
 kd_p
 have loop : ∀ (n m : Nat) (z : Option D), ∃ z', zbp zcI zdO [some (.int (m : Int)), some (.int (n : Int)), z] = .ok (.nx [some (.int ((Nat.gcd m n : Nat) : Int)), some (.int 0), z']) := by
  intro n
  induction n using Nat.strongRecOn with
  | _ n ih =>
   intro m z
   by_cases hn : n = 0
   ·subst hn
    refine ⟨z, ?_⟩
    rw [zln (by unfold zcI; kd_p; rfl), Nat.gcd_zero_right]; rfl
   ·have hlt : m % n < n := xcq _ (by omega)
    obtain ⟨z', h⟩ := ih (m % n) hlt n (some (.int ((m % n : Nat) : Int)))
    refine ⟨z', ?_⟩
    rw [zlm (O' := [some (.int (n : Int)), some (.int ((m % n : Nat) : Int)), some (.int ((m % n : Nat) : Int))]) ?_ ?_, h, Mth.gcd_step]
    ·unfold zcI; kd_p
     simp [hn]
    ·unfold zdO zee zed; kd_p
     rw [zau _ _ (by omega)]
     kd_p
     rfl
 obtain ⟨z', h⟩ := loop b.natAbs a.natAbs none
 rw [h]
 kd_p
theorem zl2 (i : Int) : zaR [.int i] = .ok (.bl true) := by
 rw [zeK]; unfold zc8; kd_p
theorem zvi (x y z : Int) : (!decide (x = 0 /\ y = 0 /\ z = 0)) = decide (NZ x y z) := by
 unfold NZ; by_cases h : x = 0 /\ y = 0 /\ z = 0 <;> simp [h]
theorem ze1 (x y z : Int) : zbn [t3 x y z] = .ok (.bl (decide (NZ x y z))) := by
 rw [zdr]; unfold zbJ; kd_p
 rw [zjd (g := fun _ => .bl true) (by simp) (fun d hd => ?_)]
 ·kd_p
  rw [show zsj [.lst ([D.int x, D.int y, D.int z].map fun _ => D.bl true)] = .ok (.bl true) from rfl]
  kd_p
  rw [zvi]
 ·simp only [xaf, xaq, or_false] at hd
  rcases hd with rfl | rfl | rfl <;> (kd_p; exact zl2 _)
theorem zon (x y z : Int) (h : NZ x y z) (O : DSt) : opK gIx (zsr (lcK 1 [0] (.ok [.int x, .int y, .int z]) zaJ (zaw (eOp gNe (zae 0) (eC (.int 0)))) (zae 0) O)) (.ok (.int (-1))) = .ok (.int (zaG x y z)) := by
 rw [zgp (p := fun d => !eqD d (.int 0)) (g := id) (by simp) (fun d hd => ?_) (fun d hd _ => ?_)]
 ·kd_p
  unfold zaG
  by_cases hz : z = 0
  ·by_cases hy : y = 0
   ·have hx : x ≠ 0 := fun e => h ⟨e, hy, hz⟩
    subst hz; subst hy
    simp only [xc1, List.filter_nil, zec, hx, decide_false, decide_true, xdd, Bool.not_true, if_true, Bool.false_eq_true, if_false, xa7, xc6, id, ne_eq, not_true_eq_false]
    rfl
   ·subst hz
    by_cases hx : x = 0
    ·subst hx
     simp only [xc1, List.filter_nil, zec, hy, decide_false, decide_true, xdd, Bool.not_true, if_true, Bool.false_eq_true, if_false, xa7, xc6, id, ne_eq, not_true_eq_false, not_false_eq_true]
     rfl
    ·simp only [xc1, List.filter_nil, zec, hx, hy, decide_false, decide_true, xdd, Bool.not_true, if_true, Bool.false_eq_true, if_false, xa7, xc6, id, ne_eq, not_true_eq_false, not_false_eq_true]
     rfl
  ·have e : List.map id (List.filter (fun d => !eqD d (.int 0)) [.int x, .int y, .int z]) = List.map id (List.filter (fun d => !eqD d (.int 0)) [.int x, .int y]) ++ [D.int z] := by
    rw [show ([.int x, .int y, .int z] : List D) = [.int x, .int y] ++ [.int z] from rfl, List.filter_append, xb2]
    congr 1
    simp [zec, hz]
   rw [e, zpK]
   simp [hz]
 ·simp only [xaf, xaq, or_false] at hd
  rcases hd with rfl | rfl | rfl <;> (kd_p; rw [zec])
 ·simp only [xaf, xaq, or_false] at hd
  rcases hd with rfl | rfl | rfl <;> (kd_p; rfl)
abbrev lowD (x y z : Int) : D := t3 (x.fdiv (zdE x y z)) (y.fdiv (zdE x y z)) (z.fdiv (zdE x y z))
theorem zhD (x y z : Int) : (zaG x y z < 0 /\ zdE x y z = -((g3 x y z : Nat) : Int)) \/ (¬ zaG x y z < 0 /\ zdE x y z = ((g3 x y z : Nat) : Int)) := by
 unfold zdE
 by_cases h : zaG x y z < 0
 ·left; rw [if_pos h]; exact ⟨h, by omega⟩
 ·right; rw [if_neg h]; exact ⟨h, rfl⟩
theorem zjt {n : Nat} {x y z : Int} (hx : B n x) (hy : B n y) (hz : B n z) (h : NZ x y z) (hn : n <= 9000) : zb1 [t3 x y z] = .ok (lowD x y z) := by
 have hd := zlt hx hy hz h hn
 rw [zjl]; unfold zeM zgy zgx zgw; kd_p
 rw [zfh]; kd_p
 rw [zfh]; kd_p
 rw [zon x y z h]; kd_p
 rw [xb8]
 rcases zhD x y z with ⟨hl, hs⟩ | ⟨hl, hs⟩
 ·rw [decide_eq_true hl]; kd_p
  rw [show -(((Nat.gcd (Nat.gcd x.natAbs y.natAbs) z.natAbs : Nat)) : Int) = zdE x y z from hs.symm, zbm _ _ hd, zbm _ _ hd, zbm _ _ hd]
  kd_p
 ·rw [decide_eq_false hl]; kd_p
  rw [show (((Nat.gcd (Nat.gcd x.natAbs y.natAbs) z.natAbs : Nat)) : Int) = zdE x y z from hs.symm, zbm _ _ hd, zbm _ _ hd, zbm _ _ hd]
  kd_p
theorem zhE {n : Nat} {x y z : Int} (hx : B n x) (hy : B n y) (hz : B n z) (h : NZ x y z) (hn : n <= 9000) : zas [t3 x y z] = .ok (.bl (decide (x.fdiv (zdE x y z) = x /\ y.fdiv (zdE x y z) = y /\ z.fdiv (zdE x y z) = z))) := by
 rw [za2]; unfold za9 zb3 zb2; kd_p
 rw [ze1, decide_eq_true h]; kd_p
 rw [zjt hx hy hz h hn]; kd_p
theorem zl3 : zas [t3 0 0 0] = .ok (.bl false) := by
 rw [za2]; unfold za9 zb3 zb2; kd_p
 rw [ze1]; rfl
end LmP
open L2 DL Mir
open L2 DL Mir
namespace LmD
open Mth LmP
abbrev ptD (p : P3) : D := t3 p.1 p.2.1 p.2.2
structure BP (n : Nat) (p : P3) : Prop where
 x : B n p.1
 y : B n p.2.1
 z : B n p.2.2
theorem BP.mono {m n : Nat} {p : P3} (h : BP m p) (hn : m <= n) : BP n p := ⟨h.x.mono hn, h.y.mono hn, h.z.mono hn⟩
theorem BP.crs {m n : Nat} {p q : P3} (hp : BP m p) (hq : BP n q) : BP (m + n + 1) (Mth.crs p q) :=
 ⟨((hp.y.mul hq.z).sub (hp.z.mul hq.y)).mono (by omega), ((hp.z.mul hq.x).sub (hp.x.mul hq.z)).mono (by omega), ((hp.x.mul hq.y).sub (hp.y.mul hq.x)).mono (by omega)⟩
theorem BP.dot {m n : Nat} {p q : P3} (hp : BP m p) (hq : BP n q) : B (m + n + 2) (Mth.dot p q) :=
 (((hp.x.mul hq.x).add (hp.y.mul hq.y)).add (hp.z.mul hq.z)).mono (by omega)
theorem BP.low {n : Nat} {p : P3} (h : BP n p) (hz : Nz p) : BP n (Mth.low p) := by
 obtain ⟨a, b, c⟩ := zrV hz
 exact ⟨xbq a h.x, xbq b h.y, xbq c h.z⟩
theorem zal {n : Nat} {i : Int} (h : B n i) (hn : n <= 10000) : zgT i = true := znf h (by omega)
theorem eqP (p q : P3) : (p.1 = q.1 /\ p.2.1 = q.2.1 /\ p.2.2 = q.2.2) ↔ p = q := ⟨fun ⟨a, b, c⟩ => xap a (xap b c), fun h => by subst h; exact ⟨rfl, rfl, rfl⟩⟩
theorem zvj (p q : P3) : eqD (ptD p) (ptD q) = decide (p = q) := by
 rw [zja, decide_eq_decide.mpr (eqP p q)]
theorem zpV (d : D) (ds : List D) : gIx (.lst (d :: ds)) (.int 0) = .ok d := zjT (j := 0) rfl
theorem zju {m n : Nat} {p q : P3} (hp : BP m p) (hq : BP n q) (hm : m <= 10000) (hn : n <= 10000) : zgz [ptD p, ptD q] = .ok (.int (dot p q)) := by
 rw [zpU]; unfold zpT; kd_p
 rw [zag _ _ (zal hp.x hm) (zal hq.x hn), zag _ _ (zal hp.y hm) (zal hq.y hn), zag _ _ (zal hp.z hm) (zal hq.z hn)]; kd_p
 rfl
theorem zpW {m n : Nat} {p q : P3} (hp : BP m p) (hq : BP n q) (hm : m <= 10000) (hn : n <= 10000) : zfd [ptD p, ptD q] = .ok (ptD (crs p q)) := by
 rw [zl1]; unfold zh7 zjp zjo zjn; kd_p
 rw [zag _ _ (zal hp.y hm) (zal hq.z hn), zag _ _ (zal hp.z hm) (zal hq.y hn)]; kd_p
 rw [zag _ _ (zal hp.z hm) (zal hq.x hn), zag _ _ (zal hp.x hm) (zal hq.z hn)]; kd_p
 rw [zag _ _ (zal hp.x hm) (zal hq.y hn), zag _ _ (zal hp.y hm) (zal hq.x hn)]; kd_p
 rfl
structure BM (n : Nat) (m : M3) : Prop where
 a : BP n m.1
 b : BP n m.2.1
 c : BP n m.2.2
theorem BM.mul {k n : Nat} {m : M3} {p : P3} (h : BM k m) (hp : BP n p) : BP (k + n + 2) (Mth.mul m p) := ⟨h.a.dot hp, h.b.dot hp, h.c.dot hp⟩
theorem zlu : ∀ {ns : List Int}, zaH ns ≠ 0 -> gIx (.lst (((ns.map D.int).filter fun d => !eqD d (.int 0)).map id)) (.int 0) = .ok (.int (zaH ns))
 | [], h => absurd rfl h
 | n :: ns, h => by
  unfold zaH at h ⊢
  rw [xa7, xc1, zec]
  by_cases e : n = 0
  ·rw [if_pos e] at h ⊢
   rw [decide_eq_true e]
   exact zlu h
  ·rw [if_neg e, decide_eq_false e]
   exact zpV _ _
theorem zoo {ns : List Int} {s : Int} {O : DSt} (hl : ns.length <= 1000) (h : zng s = true) {j : Nat} (hj : zae j O = .ok (.int s)) : lcK 1 [0] (.ok (ns.map D.int)) zaJ zbv (eOp zes (zae 0) (zae (j + 1))) O = .ok ((ns.map fun n => n.fdiv s).map .int) := by
 rw [zjd (g := fun d => match d with | .int n => .int (n.fdiv s) | d => d) (by rw [xag]; omega) (fun d hd => ?_)]
 ·rw [xb5, xb5]; rfl
 ·obtain ⟨n, _, rfl⟩ := xbf.mp hd
  kd_p
  rw [hj]; kd_p
  exact zbm _ _ h
theorem zsS {k n : Nat} {ns : List Int} (hb : ∀ i ∈ ns, B n i) (h : zaH ns ≠ 0) (hn : n <= 9000) : zng (zd8 ns) = true := by
 refine zjP (n := n) ?_ (ze5 h) hn
 have := zr1 (ns := ns) (k := 2 ^ n - 1) fun i hi => zvK (hb i hi)
 have p : 0 < 2 ^ n := Nat.pow_pos (by decide)
 unfold B; omega
end LmD
open L2 DL Mir
namespace LmE
open Mth LmP LmD
theorem zsT {i j : Nat} {ds : List D} {d : D} {O : DSt} (hj : j < ds.length) : zvG i (.ok ds) (.ok d) (.ok (.int (j : Int))) O = .ok (.nx (O.set i (some (.lst (ds.set j d))))) := by
 show (match ixN ds.length (j : Int) with | some j => R.ok (Out.nx (O.set i (some (.lst (ds.set j d))))) | none => .bad) = _
 have : ixN ds.length (j : Int) = some j := by
  unfold ixN; rw [if_pos (by omega), if_pos (by omega)]; rfl
 rw [this]
abbrev ptL (p : P3) : D := l3 p.1 p.2.1 p.2.2
end LmE
open L2 DL Mir
namespace Lk42
open Mth LmP LmD LmE
theorem eSl_to (fe f : DSt -> R D) (O : DSt) (ds : List D) (n : Nat) (h1 : fe O = .ok (.lst ds)) (h2 : f O = .ok (.int (n : Int))) : eSl fe zeu (zb0 f) O = .ok (.lst (ds.take n)) := by
 unfold eSl zeu zb0
 rw [h1, h2]
 show R.ok (D.lst (zme ds none (some (n : Int)))) = _
 unfold zme
 rw [HT.sIx_none, HT.sIx_nat, List.drop_zero, Nat.sub_zero, <- List.take_eq_take_min]
theorem gAdd_ll {xs ys : List D} (h : xs.length + ys.length <= 1000000) : zcH (.lst xs) (.lst ys) = .ok (.lst (xs ++ ys)) := by
 show (bif znh (xs.length + ys.length) then _ else _) = _
 rw [show znh (xs.length + ys.length) = true from decide_eq_true (xa6 h (by decide))]; rfl
end Lk42
open L2 DL Mir
namespace LmB
open Mth LmP LmD
theorem zl4 {n : Nat} {p : P3} (h : BP n p) (hz : Nz p) (hn : n <= 9000) : zb1 [t3 p.1 p.2.1 p.2.2] = .ok (ptD (low p)) := zjt h.x h.y h.z hz hn
theorem zhF {n : Nat} {p q : P3} (hp : BP n p) (hq : BP n q) (hn : n <= 4000) (hne : p ≠ q) (hL : Nz (crs p q)) : zaK [ptD p, ptD q] = .ok (ptD (low (crs p q))) := by
 rw [zey]; unfold zbs zcJ; kd_p
 rw [decide_eq_false (fun h => hne ((eqP p q).mp h))]; kd_p
 rw [zpW hp hq (by omega) (by omega)]; kd_p
 rw [zl4 (hp.crs hq) hL (by omega)]; kd_p
theorem through_v1 {n : Nat} {p q : P3} (hp : BP n p) (hq : BP n q) (hn : n <= 4000) (hne : p ≠ q) (hL : Nz (crs p q)) : zaA [ptD p, ptD q] = .ok (ptD (low (crs p q))) := by
 rw [zgA]; unfold zcK; kd_p
 rw [zhF hp hq hn hne hL]; kd_p
theorem zsU {m n : Nat} {p q : P3} (hp : BP m p) (hq : BP n q) (hm : m <= 10000) (hn : n <= 10000) : zdP [ptD p, ptD q] = .ok (.bl (decide (dot p q = 0))) := by
 rw [zjm]; unfold zeN; kd_p
 rw [zju hp hq hm hn]; kd_p
theorem zfU (bs : List Bool) : zsj [.lst (bs.map D.bl)] = .ok (.bl (bs.all id)) := by
 show zqy (.lst (bs.map D.bl)) = _
 simp only [zqy, ziP]
theorem zop {α : Type} {xs : List α} {f : α -> D} {e : DSt -> R D} {O : DSt} {g : α -> D} (hl : xs.length <= 1000000) (h : ∀ a ∈ xs, e (some (f a) :: O) = .ok (g a)) : lcK 1 [0] (.ok (xs.map f)) zaJ zbv e O = .ok (xs.map g) := by
 have go : ∀ xs : List α, (∀ a ∈ xs, e (some (f a) :: O) = .ok (g a)) -> lcD [0] zaJ zbv e (List.replicate 1 none ++ O) (xs.map f) = .ok (xs.map g) := by
  intro xs
  induction xs with
  | nil => intro _; rfl
  | cons d ds ih =>
   intro h
   show (e (some (f d) :: O)).bind (fun y => (lcD [0] zaJ zbv e (List.replicate 1 none ++ O) (ds.map f)).bind fun ys => .ok (y :: ys)) = _
   rw [h d xan, ih fun d' hd => h d' (xae _ hd)]; rfl
 show (bif most (xs.map f).length then _ else _) = _
 rw [zjU (by rw [xag]; exact hl), go xs h]; rfl
structure Pts (n : Nat) (ps : List P3) : Prop where
 nrm : ∀ p ∈ ps, Nrm p
 bd : ∀ p ∈ ps, BP n p
theorem zoq {n : Nat} {ps : List P3} (h : Pts n ps) (hn : n <= 4000) (hl : ps.length <= 100000) : ∃ b, zbw [.lst (ps.map ptD)] = .ok (.bl b) /\ (b = true ↔ Col ps) := by
 rw [zgX]; unfold zdl; kd_p
 cases ps with
 | nil =>
  refine ⟨true, ?_, fun _ => Col.same (p0 := (0, 0, 0)) (by simp), fun _ => rfl⟩
  rfl
 | cons p0 ps =>
  rw [zgp (p := fun d => !eqD d (ptD p0)) (g := id) (by rw [xag]; omega) (fun d hd => ?_) (fun d hd _ => ?_)]
  ·rw [List.map_id]
   have hf : ((p0 :: ps).map ptD).filter (fun d => !eqD d (ptD p0)) = ((p0 :: ps).filter fun p => !decide (p = p0)).map ptD := by
    rw [List.filter_map]
    congr 1
    apply List.filter_congr
    intro p _
    exact congrArg _ (zvj p p0)
   rw [hf]; kd_p
   unfold zeQ; kd_p
   cases ho : (p0 :: ps).filter (fun p => !decide (p = p0)) with
   | nil =>
    refine ⟨true, by rfl, fun _ => Col.same (p0 := p0) fun p hp => ?_, fun _ => rfl⟩
    by_cases e : p = p0
    ·exact e
    ·have : p ∈ (p0 :: ps).filter (fun p => !decide (p = p0)) := xbr.mpr ⟨hp, by simp [e]⟩
     rw [ho] at this; cases this
   | cons o os =>
    have mo : o ∈ p0 :: ps /\ o ≠ p0 := by
     have : o ∈ (p0 :: ps).filter (fun p => !decide (p = p0)) := by rw [ho]; exact xan
     rw [xbr] at this
     exact ⟨this.1, by simpa using this.2⟩
    have m0 : p0 ∈ p0 :: ps := xan
    have hL : Nz (crs p0 o) := zd0 (h.nrm _ m0) (h.nrm _ mo.1) fun e => mo.2 e.symm
    have hthru := through_v1 (h.bd _ m0) (h.bd _ mo.1) hn (fun e => mo.2 e.symm) hL
    rw [decide_eq_false (by simp; omega)]; kd_p
    simp only [xa7]
    unfold zeP; kd_p
    rw [zpV, zpV]; kd_p
    rw [hthru]; kd_p
    unfold zeO; kd_p
    have hos : ∀ p ∈ o :: os, p ∈ p0 :: ps := fun p hp => by
     rw [<- ho] at hp; exact (xbr.mp hp).1
    have hle : (o :: os).length <= 100000 := by
     rw [<- ho]; exact xa6 (List.length_filter_le _ _) hl
    rw [<- xa7 (f := ptD), zop (g := fun p => .bl (decide (dot p (low (crs p0 o)) = 0))) (by omega) (fun p hp => ?_)]
    ·kd_p
     rw [show (o :: os).map (fun p => D.bl (decide (dot p (low (crs p0 o)) = 0))) = ((o :: os).map fun p => decide (dot p (low (crs p0 o)) = 0)).map D.bl by rw [xb5]; rfl, zfU]; kd_p
     refine ⟨_, rfl, ?_⟩
     rw [Col.iff m0 mo.1 hL, List.all_map, xa1]
     constructor
     ·intro q p hp
      by_cases e : p = p0
      ·subst e; unfold dot crs; grind
      ·have : p ∈ o :: os := by rw [<- ho]; exact xbr.mpr ⟨hp, by simp [e]⟩
       exact (zjD hL).mp (of_decide_eq_true (q p this))
     ·intro q p hp
      exact decide_eq_true ((zjD hL).mpr (q p (hos p hp)))
    ·kd_p
     rw [zsU (h.bd _ (hos p hp)) (((h.bd _ m0).crs (h.bd _ mo.1)).low hL) (by omega) (by omega)]
  ·obtain ⟨p, _, rfl⟩ := xbf.mp hd
   kd_p
   rw [xa7, zpV]; kd_p
   rw [zja]
  ·rfl
end LmB
open L2 DL Mir
namespace LmF
open Mth LmP LmD LmE
theorem zor : ∀ (ns : List Int) (g : Nat) (s a : Option D), ∃ a', zgb [2] zaJ (zax 1 (zat zbl (zaa (zae 1) (zaa (zae 2) zak)))) (ns.map .int) [s, some (.int (g : Int)), a] = .ok (.nx [s, some (.int ((ns.foldl (fun g n => Nat.gcd g n.natAbs) g : Nat) : Int)), a'])
 | [], g, s, a => ⟨a, rfl⟩
 | n :: ns, g, s, a => by
  obtain ⟨a', h⟩ := zor ns (Nat.gcd g n.natAbs) s (some (.int n))
  refine ⟨a', ?_⟩
  rw [xa7, zd5]; kd_p
  rw [zfh, xb8]; kd_p
  exact h
theorem zpX (ns : List Int) (s a : Option D) : ∃ a', zgb [2] zaJ (zax 1 (zat zbl (zaa (zae 1) (zaa (zae 2) zak)))) (ns.map .int) [s, some (.int 0), a] = .ok (.nx [s, some (.int ((ns.foldl (fun g n => Nat.gcd g n.natAbs) 0 : Nat) : Int)), a']) := zor ns 0 s a
theorem zwY {a b c x y z : D} {e : DSt -> R D} {O : DSt} (ha : e (some a :: O) = .ok x) (hb : e (some b :: O) = .ok y) (hc : e (some c :: O) = .ok z) : lcK 1 [0] (.ok [a, b, c]) zaJ zbv e O = .ok [x, y, z] := by
 have t : lcD [0] zaJ zbv e (List.replicate 1 none ++ O) [a, b, c] = (e (some a :: O)).bind (fun y => ((e (some b :: O)).bind fun y' => ((e (some c :: O)).bind fun y'' => (R.ok ([] : List D)).bind fun ys => .ok (y'' :: ys)).bind fun ys => .ok (y' :: ys)).bind fun ys => .ok (y :: ys)) := rfl
 show (bif most 3 then (lcD [0] zaJ zbv e (List.replicate 1 none ++ O) [a, b, c]).noerr else .bad) = _
 rw [t, ha, hb, hc]; rfl
end LmF
open L2 DL Mir
namespace LmH
open Mth LmP LmD LmB LmE LmF
theorem zfy {n : Nat} {p : P3} (hp : BP n p) (h : Nrm p) (hn : n <= 9000) : zas [ptD p] = .ok (.bl true) := by
 rw [zhE hp.x hp.y hp.z h.nz hn, show zdE p.1 p.2.1 p.2.2 = 1 from h.one, zdZ, zdZ, zdZ]
 simp
def key (p : P3) : List Int := [p.1, p.2.1, p.2.2]
theorem zsV {p q : P3} (h : key p = key q) : p = q := by
 simp only [key, List.cons.injEq, and_true] at h
 exact xap h.1 (xap h.2.1 h.2.2)
theorem zlv : ∀ ps : List P3, zby (ps.map ptD) = some (ps.map key)
 | [] => rfl
 | p :: ps => by
  have ih := zlv ps
  rw [xa7, xa7]
  unfold zby
  rw [ih]; rfl
end LmH
open L2 DL Mir
namespace LmI
open Mth LmP LmD LmB LmE LmF LmH
theorem zwZ {a b c d f g x y z : D} {e : DSt -> R D} {O : DSt} (h1 : e (some a :: some b :: O) = .ok x) (h2 : e (some c :: some d :: O) = .ok y) (h3 : e (some f :: some g :: O) = .ok z) : lcK 2 [0, 1] (.ok [.tup [a, b], .tup [c, d], .tup [f, g]]) (zbM 2) zbv e O = .ok [x, y, z] := by
 have t : lcD [0, 1] (zbM 2) zbv e (List.replicate 2 none ++ O) [.tup [a, b], .tup [c, d], .tup [f, g]] = (e (some a :: some b :: O)).bind (fun y1 => ((e (some c :: some d :: O)).bind fun y2 => ((e (some f :: some g :: O)).bind fun y3 => (R.ok ([] : List D)).bind fun ys => .ok (y3 :: ys)).bind fun ys => .ok (y2 :: ys)).bind fun ys => .ok (y1 :: ys)) := rfl
 show (bif most 3 then (lcD [0, 1] (zbM 2) zbv e (List.replicate 2 none ++ O) [.tup [a, b], .tup [c, d], .tup [f, g]]).noerr else .bad) = _
 rw [t, h1, h2, h3]; rfl
theorem Pts.snoc {n : Nat} {ps : List P3} {r : P3} (h : Pts n ps) (hr : Nrm r) (br : BP n r) : Pts n (ps ++ [r]) :=
 ⟨fun p hp => (xbd.mp hp).elim (h.nrm p) fun z => by rw [xbi.mp z]; exact hr, fun p hp => (xbd.mp hp).elim (h.bd p) fun z => by rw [xbi.mp z]; exact br⟩
end LmI
open L2 DL Mir
namespace LmJ
open Mth LmP LmD LmB LmE LmF LmH LmI
def rg (lo m : Nat) : List Nat := (List.range (m - lo)).map (lo + ·)
theorem zcz {lo m k : Nat} : k ∈ rg lo m ↔ lo <= k /\ k < m := by
 unfold rg
 rw [xbf]
 constructor
 ·rintro ⟨i, hi, rfl⟩
  have := xa3.mp hi
  omega
 ·rintro ⟨h1, h2⟩
  exact ⟨k - lo, xa3.mpr (by omega), by omega⟩
theorem zsW (lo m : Nat) : zm6 (lo : Int) ((m : Int) - (lo : Int)).toNat = (rg lo m).map fun k : Nat => D.int (k : Int) := by
 unfold zm6 rg
 rw [xb5, show ((m : Int) - (lo : Int)).toNat = m - lo by omega]
 congr 1
theorem zeB {i : Nat} {fb : DSt -> R Out} (I : DSt -> Prop) (g : Nat -> Option D) : ∀ (ks : List Nat), (∀ k ∈ ks, ∀ O, I O -> (∃ v, g k = some v /\ fb (O.set i (some (.int (k : Int)))) = .ok (.rt v)) \/ (g k = none /\ ∃ O', fb (O.set i (some (.int (k : Int)))) = .ok (.nx O') /\ I O')) -> ∀ O, I O ->
  (∃ v, ks.findSome? g = some v /\ zgb [i] zaJ fb (ks.map fun k : Nat => .int (k : Int)) O = .ok (.rt v)) \/ (ks.findSome? g = none /\ ∃ O', zgb [i] zaJ fb (ks.map fun k : Nat => .int (k : Int)) O = .ok (.nx O') /\ I O')
 | [], _, O, h => .inr ⟨rfl, O, rfl, h⟩
 | k :: ks, hs, O, h => by
  rw [xa7, zd5, List.findSome?_cons]
  rcases hs k (by simp) O h with ⟨v, e1, e2⟩ | ⟨e1, O', e2, h'⟩
  ·rw [e1, e2]; exact .inl ⟨v, rfl, rfl⟩
  ·rw [e1, e2, zfO]
   exact zeB I g ks (fun k hk => hs k (by simp [hk])) O' h'
structure Fl (ps : List P3) : Prop where
 pts : Pts 24 ps
 nd : ps.Nodup
 one : 1 <= ps.length
 most : ps.length <= 12
def pk (ps : List P3) (k : Nat) : P3 := ps.getD k (0, 0, 1)
theorem ze2 {ps : List P3} {k : Nat} (h : k < ps.length) : ps[k]? = some (pk ps k) := by simp [pk, h]
theorem zgK {ps : List P3} {k : Nat} (h : k < ps.length) : pk ps k ∈ ps := xbe (ze2 h)
theorem Fl.ix {ps : List P3} {k : Nat} (h : k < ps.length) : gIx (.lst (ps.map ptD)) (.int (k : Int)) = .ok (ptD (pk ps k)) := zjT (by rw [xbv, ze2 h]; rfl)
end LmJ
open L2 DL Mir
open L2 DL Mir
open L2 DL Mir
open L2 DL Mir
namespace Lk12
open Mth LmP LmD LmB LmE LmF LmH LmI LmJ
theorem ne_same {d : D} (h : zdK 9 d = true) : gNe d d = .ok (.bl false) := by
 rw [zk4 (by unfold zlT; rw [h]; rfl), zfL 9 _ h]; rfl
end Lk12
open L2 DL Mir
open L2 DL Mir
open L2 DL Mir
namespace LmM
open Mth LmP LmD LmB LmE LmF LmH LmI LmJ
theorem pow6 : zsf (.int 10) (.int 6) = .ok (.int 1000000) := rfl
theorem zw0 : zsf (.int 10) (.int 18) = .ok (.int 1000000000000000000) := rfl
theorem mod6 (x : Int) : zeH (.int x) (.int 1000000) = .ok (.int (x % 1000000)) := zau x 1000000 (by decide)
theorem zvk (n m : Nat) (x y z l : Option D) : zbp za5 zbx [x, y, z, some (.int (m : Int)), some (.int (n : Int)), l] = .ok (.nx [x, y, z, some (.int ((Nat.gcd m n : Nat) : Int)), some (.int 0), l]) := by
 induction n using Nat.strongRecOn generalizing m with
 | _ n ih =>
  by_cases hn : n = 0
  ·subst hn
   rw [zln (by unfold za5; kd_p; rfl), Nat.gcd_zero_right]; rfl
  ·have hlt : m % n < n := xcq _ (by omega)
   have h := ih (m % n) hlt n
   rw [zlm (O' := [x, y, z, some (.int (n : Int)), some (.int ((m % n : Nat) : Int)), l]) ?_ ?_, h, Mth.gcd_step]
   ·unfold za5; kd_p
    rw [decide_eq_false (by omega)]; rfl
   ·unfold zbx; kd_p
    rw [zau _ _ (by omega)]
    kd_p
    rfl
theorem zw1 {n : Nat} {p : P3} (h : BP n p) (hz : Nz p) (hn : n <= 9000) : zaq [.int p.1, .int p.2.1, .int p.2.2] = .ok (ptD (low p)) := by
 have hd := zlt h.x h.y h.z hz hn
 show _ = R.ok (lowD p.1 p.2.1 p.2.2)
 rw [zeV]; unfold zbL; kd_p
 unfold zdd; kd_p
 unfold zcS
 rw [zvk]; kd_p
 rw [zvk]; kd_p
 unfold zdc; kd_p
 rw [zon p.1 p.2.1 p.2.2 hz]; kd_p
 unfold zdb; kd_p
 rcases zhD p.1 p.2.1 p.2.2 with ⟨hl, hs⟩ | ⟨hl, hs⟩
 ·rw [decide_eq_true hl]; kd_p
  unfold zbS; kd_p
  rw [show 0 - (((Nat.gcd (Nat.gcd p.1.natAbs p.2.1.natAbs) p.2.2.natAbs : Nat)) : Int) = zdE p.1 p.2.1 p.2.2 from by rw [hs, xc7]; rfl, zbm _ _ hd, zbm _ _ hd, zbm _ _ hd]
  kd_p
 ·rw [decide_eq_false hl]; kd_p
  unfold zbS; kd_p
  rw [show (((Nat.gcd (Nat.gcd p.1.natAbs p.2.1.natAbs) p.2.2.natAbs : Nat)) : Int) = zdE p.1 p.2.1 p.2.2 from hs.symm, zbm _ _ hd, zbm _ _ hd, zbm _ _ hd]
  kd_p
end LmM
open L2 DL Mir
namespace Lk02
open Mth LmP LmD LmB
def wh : D -> Bool
 | .int _ => true
 | _ => false
def Pl (d : D) : Prop := (zky d).isSome = true
theorem zfi (d : D) (h : Pl d) : zaR [d] = .ok (.bl (wh d)) := by
 rw [zeK]; unfold zc8
 cases d with
 | cls c => cases h
 | ty c => cases h
 | exc c as => cases h
 | _ => rfl
structure Odd3 (a b c : D) : Prop where
 pa : Pl a
 pb : Pl b
 pc : Pl c
 no : (wh a && wh b && wh c) = false
theorem zos {a b c : D} (h : Odd3 a b c) : zbn [.tup [a, b, c]] = .ok (.bl false) := by
 rw [zdr]; unfold zbJ; kd_p
 rw [zjd (g := fun d => .bl (wh d)) (by simp) (fun d hd => ?_)]
 ·kd_p
  rw [show [a, b, c].map (fun d => D.bl (wh d)) = ([wh a, wh b, wh c] : List Bool).map D.bl from rfl, zfU, show ([wh a, wh b, wh c] : List Bool).all id = (wh a && wh b && wh c) by simp [Bool.and_assoc], h.no]; kd_p
 ·simp only [xaf, xaq, or_false] at hd
  rcases hd with rfl | rfl | rfl <;> kd_p
  ·exact zfi _ h.pa
  ·exact zfi _ h.pb
  ·exact zfi _ h.pc
theorem is_place_odd {a b c : D} (h : Odd3 a b c) : zas [.tup [a, b, c]] = .ok (.bl false) := by
 rw [za2]; unfold za9 zb3 zb2; kd_p
 rw [zos h]; kd_p
theorem list_no (ds : List D) : zas [.lst ds] = .ok (.bl false) := by
 rw [za2]; unfold za9 zb3 zb2; kd_p
end Lk02
open L2 DL Mir
namespace LmQ
open Mth LmP LmD LmB LmE LmF LmH LmI LmJ
theorem zj0 (keys : Nat -> List Int) : ∀ (n : Nat) (ks : List Int), ks ∈ zfQ keys n ↔ ∃ j, j < n /\ keys j = ks
 | 0, ks => ⟨(fun h => by cases h), (fun ⟨j, h, _⟩ => absurd h (by omega))⟩
 | n + 1, ks => by
  show ks ∈ zh3 (zfQ keys n) (keys n) ↔ _
  have ih := zj0 keys n
  have e : ks ∈ zh3 (zfQ keys n) (keys n) ↔ ks ∈ zfQ keys n \/ ks = keys n := by
   unfold zh3
   split
   ·rename_i hin
    exact ⟨.inl, fun h => h.elim id fun z => by rw [z]; exact hin⟩
   ·rw [xaf]; exact ⟨fun h => h.elim .inr .inl, fun h => h.elim .inr .inl⟩
  rw [e, ih]
  constructor
  ·rintro (⟨j, h1, h2⟩ | h)
   ·exact ⟨j, by omega, h2⟩
   ·exact ⟨n, by omega, h.symm⟩
  ·rintro ⟨j, h1, h2⟩
   by_cases z : j = n
   ·subst z; exact .inr h2.symm
   ·exact .inl ⟨j, by omega, h2⟩
theorem zot (keys : Nat -> List Int) : ∀ n : Nat, (zfQ keys n).length <= n
 | 0 => xad _
 | n + 1 => by
  have := zot keys n
  show (zh3 (zfQ keys n) (keys n)).length <= _
  unfold zh3; split
  ·omega
  ·rw [xas]; omega
theorem zou (keys : Nat -> List Int) : ∀ n : Nat, (∀ i j, i < j -> j < n -> keys i ≠ keys j) -> (zfQ keys n).length = n
 | 0, _ => rfl
 | n + 1, h => by
  have ih := zou keys n fun i j h1 h2 => h i j h1 (by omega)
  show (zh3 (zfQ keys n) (keys n)).length = _
  unfold zh3
  rw [if_neg, xas, ih]
  rw [zj0]
  rintro ⟨j, h1, h2⟩
  exact h j n h1 (by omega) h2
theorem zov (keys : Nat -> List Int) : ∀ (n i j : Nat), i < j -> j < n -> keys i = keys j -> (zfQ keys n).length < n
 | 0, i, j, _, h, _ => absurd h (by omega)
 | n + 1, i, j, h1, h2, h3 => by
  have l := zot keys n
  show (zh3 (zfQ keys n) (keys n)).length < _
  by_cases z : j = n
  ·subst z
   unfold zh3
   rw [if_pos ((zj0 keys j _).mpr ⟨i, h1, h3⟩)]; omega
  ·have := zov keys n i j h1 (by omega) h3
   unfold zh3; split
   ·omega
   ·rw [xas]; omega
theorem zpY {ps : List P3} {k : Nat} (h : k < ps.length) : (ps.map key).getD k [] = key (pk ps k) := by
 rw [List.getD_eq_getElem?_getD, xbv, ze2 h]; rfl
theorem zsX {ps : List P3} (nd : ps.Nodup) : (zgs (ps.map key)).length = ps.length := by
 unfold zgs
 rw [zou, xag]
 intro i j h1 h2
 rw [xag] at h2
 rw [zpY (by omega), zpY h2]
 intro e
 have e := zsV e
 have a1 := ze2 (ps := ps) (k := i) (by omega)
 have a2 := ze2 h2
 rw [e, <- a2] at a1
 exact absurd ((List.getElem?_inj (by omega) nd).mp a1) (by omega)
theorem zpZ {ps : List P3} {i j : Nat} (h1 : i < j) (h2 : j < ps.length) (e : pk ps i = pk ps j) : (zgs (ps.map key)).length < ps.length := by
 unfold zgs
 rw [xag]
 exact zov _ _ i j h1 h2 (by rw [zpY (by omega), zpY h2, e])
theorem zjv (f : DSt -> R D) (O : DSt) : zh4 f O = (f O).bind zdN := rfl
theorem zl5 {ps : List P3} (h4 : (zgs (ps.map key)).length <= 18) : zdN (.lst (ps.map ptD)) = .ok (.int (zgs (ps.map key)).length) := by
 show (match zby (ps.map ptD) with | some kss => (bif Nat.ble (zgs kss).length 18 then R.ok (D.int (zgs kss).length) else .bad) | none => .bad) = _
 rw [zlv]
 show (bif Nat.ble (zgs (ps.map key)).length 18 then R.ok (D.int (zgs (ps.map key)).length) else .bad) = _
 rw [show Nat.ble (zgs (ps.map key)).length 18 = true from by rw [Nat.ble_eq]; omega]; rfl
theorem zsY (kss : List (List Int)) : (zgs kss).length <= kss.length := zot _ _
theorem zhG {n : Nat} {ps : List P3} (h : Pts n ps) (hn : n <= 1000) (h1 : 1 <= ps.length) (h12 : ps.length <= 12) : zaz [.lst (ps.map ptD)] = .ok (.bl (decide (((zgs (ps.map key)).length : Int) = (ps.length : Int)))) := by
 rw [zb8]; unfold zbo; kd_p
 rw [show zcq = .int 12 from rfl]; kd_p
 rw [xag, show (decide (1 <= (ps.length : Int)) && decide ((ps.length : Int) <= 12)) = true from by rw [decide_eq_true (by omega), decide_eq_true (by omega)]; rfl]; kd_p
 unfold zcr; kd_p
 rw [zop (g := fun _ => .bl true) (by omega) (fun p hp => ?_)]
 ·kd_p
  rw [show ps.map (fun _ => D.bl true) = (ps.map fun _ => true).map D.bl from by rw [xb5]; rfl, zfU, show (ps.map fun _ => true).all id = true from by rw [List.all_map, xa1]; intro _ _; rfl]; kd_p
  unfold zdQ; kd_p
  rw [zjv]; kd_p
  rw [show (R.ok (D.lst (ps.map ptD))).bind zdN = .ok (.int (zgs (ps.map key)).length) from zl5 (by have := zsY (ps.map key); rw [xag] at this; omega), xag]; kd_p
 ·kd_p
  exact zfy (h.bd p hp) (h.nrm p hp) (by omega)
theorem zow {N : Nat} {ps : List P3} (h : Pts N ps) (h5 : ps.length <= 12) {i j : Nat} (h1 : i < j) (h2 : j < ps.length) (e : pk ps i = pk ps j) (hN : N <= 900 := by decide) : zaz [.lst (ps.map ptD)] = .ok (.bl false) := by
 have := zpZ h1 h2 e
 rw [zhG h (by omega) (by omega) (by omega), decide_eq_false (by omega)]
open Classical in
theorem zlw {ds : List D} (h1 : 1 <= ds.length) (h12 : ds.length <= 12) (hp : ∀ d ∈ ds, ∃ b, zas [d] = .ok (.bl b)) {w : D} (hw : w ∈ ds) (hn : zas [w] = .ok (.bl false)) : zaz [.lst ds] = .ok (.bl false) := by
 rw [zb8]; unfold zbo; kd_p
 rw [show zcq = .int 12 from rfl]; kd_p
 rw [show (decide (1 <= (ds.length : Int)) && decide ((ds.length : Int) <= 12)) = true from by rw [decide_eq_true (by omega), decide_eq_true (by omega)]; rfl]; kd_p
 unfold zcr; kd_p
 rw [zjd (g := fun d => .bl (decide (zas [d] = .ok (.bl true)))) (by omega) (fun d hd => ?_)]
 ·kd_p
  rw [show ds.map (fun d => D.bl (decide (zas [d] = .ok (.bl true)))) = (ds.map fun d => decide (zas [d] = .ok (.bl true))).map D.bl from by rw [xb5]; rfl, zfU, show (ds.map fun d => decide (zas [d] = .ok (.bl true))).all id = false from ?_]; · kd_p
  rw [List.all_map]
  refine List.all_eq_false.mpr ⟨w, hw, ?_⟩
  show ¬ (id (decide (zas [w] = .ok (.bl true))) = true)
  rw [hn]; simp
 ·kd_p
  obtain ⟨b, e⟩ := hp d hd
  rw [e]
  cases b <;> simp
end LmQ
open L2 DL Mir
namespace LmS
open Mth LmP LmD LmB LmE LmF LmH LmI LmJ LmM LmQ
def Dd (ds : List Int) : Prop := ∀ d ∈ ds, 0 <= d
theorem Dd.snoc {ds : List Int} {d : Int} (h : Dd ds) (hd : 0 <= d) : Dd (ds ++ [d]) := fun e he => by
 rcases xbd.mp he with he | he
 ·exact h e he
 ·rw [xbi.mp he]; exact hd
def dg (ds : List Int) (k : Nat) : Int := ds.getD k 0
theorem zvl {ds : List Int} {k : Nat} (h : k < ds.length) : ds[k]? = some (dg ds k) := by simp [dg, h]
theorem ixd {ds : List Int} {k : Nat} (h : k < ds.length) : gIx (.lst (ds.map .int)) (.int (k : Int)) = .ok (.int (dg ds k)) := zjT (by rw [xbv, zvl h]; rfl)
theorem zj1 (fe f g : DSt -> R D) (O : DSt) (ds : List D) (a b : Nat) (h1 : fe O = .ok (.lst ds)) (h2 : f O = .ok (.int (a : Int))) (h3 : g O = .ok (.int (b : Int))) (hb : b <= ds.length) (hab : a <= b) : eSl fe (zb0 f) (zb0 g) O = .ok (.lst ((ds.drop a).take (b - a))) := by
 unfold eSl zb0
 rw [h1, h2, h3]
 show R.ok (D.lst (zme ds (some (a : Int)) (some (b : Int)))) = _
 unfold zme
 rw [HT.sIx_nat, HT.sIx_nat, Nat.min_eq_left hb, Nat.min_eq_left (by omega)]
theorem zp1 (fe f : DSt -> R D) (O : DSt) (ds : List D) (n : Nat) (h1 : fe O = .ok (.lst ds)) (h2 : f O = .ok (.int (n : Int))) : eSl fe (zb0 f) zeu O = .ok (.lst (ds.drop n)) := by
 unfold eSl zeu zb0
 rw [h1, h2]
 show R.ok (D.lst (zme ds (some (n : Int)) none)) = _
 unfold zme
 rw [HT.sIx_none, HT.sIx_nat]
 congr 2
 by_cases h : n <= ds.length
 ·rw [Nat.min_eq_left h, List.take_of_length_le (by rw [xbw]; omega)]
 ·rw [Nat.min_eq_right (by omega), List.drop_of_length_le (by omega), List.drop_of_length_le (by omega)]; simp
theorem zj2 (ds : List Int) (a n : Nat) : ((ds.map D.int).drop a).take n = ((ds.drop a).take n).map D.int := by rw [xcx, List.map_drop]
theorem ze3 (n : Nat) (hn : n <= 1000) : zgS [.int (n : Int)] = .ok ((rg 0 n).map fun k : Nat => D.int (k : Int)) := by
 rw [zrj _ (zrk (by omega) (by omega)), show zm6 0 (n : Int).toNat = (rg 0 n).map fun k : Nat => D.int (k : Int) from by have := zsW 0 n; simpa using this]
theorem zl6 (c : Int) (many : Nat) (hm : many <= 100) : ∃ ds : List Int, zaL [.int c, .int (many : Int)] = .ok (.lst (ds.map .int)) /\ ds.length = many /\ Dd ds := by
 rw [zez]; unfold zbt; kd_p
 obtain ⟨N, hN, n0⟩ : ∃ N : Int, max c (-1 - c) = N /\ 0 <= N := ⟨_, rfl, by omega⟩
 rw [hN]
 unfold zcR; kd_p
 unfold zcQ; kd_p
 unfold zcP; kd_p
 rw [ze3 many (by omega)]; kd_p
 have turn : ∀ (j : Nat) (d : D) (O : DSt), ((rg 0 many).map fun k : Nat => D.int (k : Int))[j]? = some d -> (∃ es l x y, O = [some (.int c), some (.int (many : Int)), some (.int N), some (.int l), some (.lst (es.map D.int)), x, y] /\ es.length = j /\ Dd es /\ 0 <= l) -> ∃ O', (zaQ (O.set 5 (some d)) = .ok (.nx O') \/ zaQ (O.set 5 (some d)) = .ok (.ct O')) /\ ∃ es l x y, O' = [some (.int c), some (.int (many : Int)), some (.int N), some (.int l), some (.lst (es.map D.int)), x, y] /\ es.length = j + 1 /\ Dd es /\ 0 <= l := by
  rintro j d O hd ⟨es, l, x, y, rfl, h1, h2, h3⟩
  obtain ⟨i, hi, rfl⟩ := xbf.mp (xbe hd)
  have hi := (zcz.mp hi).2
  have hj : j < many := by
   have := (xaj.mp hd).1
   rw [xag] at this
   unfold rg at this
   simpa using this
  rw [show List.set _ 5 _ = [some (.int c), some (.int (many : Int)), some (.int N), some (.int l), some (.lst (es.map D.int)), some (.int (i : Int)), y] from rfl]
  have els : ∃ O', (zaW [some (.int c), some (.int (many : Int)), some (.int N), some (.int l), some (.lst (es.map D.int)), some (.int (i : Int)), y] = .ok (.nx O') \/ zaW [some (.int c), some (.int (many : Int)), some (.int N), some (.int l), some (.lst (es.map D.int)), some (.int (i : Int)), y] = .ok (.ct O')) /\ ∃ es l x y, O' = [some (.int c), some (.int (many : Int)), some (.int N), some (.int l), some (.lst (es.map D.int)), x, y] /\ es.length = j + 1 /\ Dd es /\ 0 <= l := by
   have bi : B 7 (i : Int) := B.of (k := 100) (by omega)
   have b101 : B 7 101 := B.of (k := 101) (by decide)
   unfold zaW; kd_p
   rw [zag 101 _ (by decide) (zal bi (by decide))]; kd_p
   rw [zag (101 * (i : Int)) _ (zal (b101.mul bi) (by decide)) (zal bi (by decide))]; kd_p
   rw [zau _ _ (by decide)]; kd_p
   have w0 := xbu (N + 101 * (i : Int) * (i : Int) + (i : Int)) (show (2147483647 : Int) ≠ 0 by decide)
   have w1 := xb0 (N + 101 * (i : Int) * (i : Int) + (i : Int)) (show (0 : Int) < 2147483647 by decide)
   generalize (N + 101 * (i : Int) * (i : Int) + (i : Int)) % 2147483647 = u at w0 w1
   rw [zag u 48271 (zal (n := 31) (B.of (k := 2147483647) (by omega)) (by decide)) (by decide)]; kd_p
   rw [zau _ _ (by decide)]; kd_p
   have v0 := xbu (u * 48271) (show (2147483647 : Int) ≠ 0 by decide)
   have v1 := xb0 (u * 48271) (show (0 : Int) < 2147483647 by decide)
   generalize (u * 48271) % 2147483647 = v at v0 v1
   have bv : zgT v = true := zal (n := 31) (B.of (k := 2147483647) (by omega)) (by decide)
   unfold zbO; kd_p
   rw [zag v v bv bv]; kd_p
   rw [zau _ _ (by decide)]; kd_p
   have t0 := xbu (v * v) (show (2147483629 : Int) ≠ 0 by decide)
   have t1 := xb0 (v * v) (show (0 : Int) < 2147483629 by decide)
   generalize (v * v) % 2147483629 = t at t0 t1
   rw [zag t 48271 (zal (n := 31) (B.of (k := 2147483647) (by omega)) (by decide)) (by decide)]; kd_p
   rw [zau _ _ (by decide)]
   rw [zev _ _ _ _ (by rw [xag]; omega)]; kd_p
   exact ⟨_, .inl rfl, es ++ [_], l, _, _, by rw [xb2]; rfl, by simp; omega, h2.snoc (xbu _ (by decide)), h3⟩
  unfold zaQ; kd_p
  rw [zw0]; kd_p
  by_cases hN18 : 1000000000000000000 <= N
  ·rw [decide_eq_true hN18]; kd_p
   by_cases hl : 0 < l
   ·rw [decide_eq_true hl]; kd_p
    unfold zch; kd_p
    rw [pow6]
    rw [znt, mod6]
    rw [zev _ _ _ _ (by rw [xag]; omega)]; kd_p
    unfold zbN; kd_p
    rw [pow6]; kd_p
    rw [show zes (.int l) (.int 1000000) = .ok (.int (l / 1000000)) from zi7 l 1000000 (by decide) (by decide)]; kd_p
    exact ⟨_, .inl rfl, es ++ [_], _, _, _, by rw [xb2]; rfl, by simp; omega, h2.snoc (xbu _ (by decide)), Int.ediv_nonneg h3 (by decide)⟩
   ·rw [decide_eq_false hl]; kd_p
    exact els
  ·rw [decide_eq_false hN18]; kd_p
   exact els
 obtain ⟨O', e, es, l, x, y, rfl, h1, h2, _⟩ := zll (i := 5) (fb := zaQ) (fun j O => ∃ es l x y, O = [some (.int c), some (.int (many : Int)), some (.int N), some (.int l), some (.lst (es.map D.int)), x, y] /\ es.length = j /\ Dd es /\ 0 <= l) _ turn [some (.int c), some (.int (many : Int)), some (.int N), some (.int N), some (.lst []), none, none] ⟨[], N, none, none, rfl, rfl, (fun d hd => by cases hd), n0⟩
 rw [e]; kd_p
 unfold zcO; kd_p
 refine ⟨es, rfl, ?_, h2⟩
 rw [h1, xag]; unfold rg; simp
theorem zlx {ds : List Int} (hl : ds.length = 4) : ∃ p, zaE [.lst (ds.map .int)] = .ok (ptD p) /\ Nrm p /\ BP 24 p := by
 have go : ∀ (most w : Int), gIx (.lst [.int 2, .int 5, .int 1000]) (.int (dg ds 3 % 3)) = .ok (.int most) -> 2 * most + 1 = w -> 0 < w -> w <= 2001 -> 0 <= most -> ∃ p, zaE [.lst (ds.map .int)] = .ok (ptD p) /\ Nrm p /\ BP 24 p := by
  intro most w he hw w0 w1 m0
  have mm : zgT most = true := zal (n := 24) (B.of (k := 2001) (by omega)) (by decide)
  rw [zfe]; unfold zbU; kd_p
  rw [show gIx (.lst (ds.map .int)) (.int 3) = _ from ixd (k := 3) (by omega)]; kd_p
  rw [zau _ _ (by decide)]; kd_p
  rw [he]; kd_p
  unfold zdw; kd_p
  rw [show gIx (.lst (ds.map .int)) (.int 0) = _ from ixd (k := 0) (by omega), zag 2 most (by decide) mm]; kd_p
  rw [hw, zau _ _ w0]; kd_p
  unfold zdv; kd_p
  rw [show gIx (.lst (ds.map .int)) (.int 1) = _ from ixd (k := 1) (by omega), zag 2 most (by decide) mm]; kd_p
  rw [hw, zau _ _ w0]; kd_p
  unfold zdu; kd_p
  rw [show gIx (.lst (ds.map .int)) (.int 2) = _ from ixd (k := 2) (by omega), zag 2 most (by decide) mm]; kd_p
  rw [hw, zau _ _ w0]; kd_p
  have rng : ∀ e : Int, -2001 <= e % w - most /\ e % w - most <= 2001 := fun e => by
   have x0 := xbu e (show w ≠ 0 by omega)
   have x1 := xb0 e w0
   omega
  have hx := rng (dg ds 0)
  have hy := rng (dg ds 1)
  have hz := rng (dg ds 2)
  generalize dg ds 0 % w - most = x at hx
  generalize dg ds 1 % w - most = y at hy
  generalize dg ds 2 % w - most = z at hz
  unfold zdt; kd_p
  have bp : ∀ z : Int, -2001 <= z /\ z <= 2001 -> BP 24 (x, y, z) := fun z hz => ⟨B.of (k := 2001) (by show x.natAbs <= 2001; omega), B.of (k := 2001) (by show y.natAbs <= 2001; omega), B.of (k := 2001) (by show z.natAbs <= 2001; omega)⟩
  have fin : ∀ z : Int, -2001 <= z /\ z <= 2001 -> Nz (x, y, z) -> ∃ p, fin (zb9 [some (.lst (ds.map .int)), some (.int most), some (.int x), some (.int y), some (.int z)]) = .ok (ptD p) /\ Nrm p /\ BP 24 p := fun z hz nz => by
   refine ⟨low (x, y, z), ?_, zbi nz, (bp z hz).low nz⟩
   unfold zb9; kd_p
   rw [zw1 (p := (x, y, z)) (bp z hz) nz (by decide)]; kd_p
  by_cases h1 : x = 0
  ·rw [decide_eq_true h1]; kd_p
   by_cases h2 : y = 0
   ·rw [decide_eq_true h2]; kd_p
    by_cases h3 : z = 0
    ·rw [decide_eq_true h3]; kd_p
     exact fin 1 (by omega) (fun q => absurd (show (1 : Int) = 0 from q.2.2) (by decide))
    ·rw [decide_eq_false h3]; kd_p
     exact fin z hz fun q => h3 q.2.2
   ·rw [decide_eq_false h2]; kd_p
    exact fin z hz fun q => h2 q.2.1
  ·rw [decide_eq_false h1]; kd_p
   exact fin z hz fun q => h1 q.1
 rcases (show dg ds 3 % 3 = 0 \/ dg ds 3 % 3 = 1 \/ dg ds 3 % 3 = 2 by omega) with z | z | z
 ·exact go 2 5 (by rw [z]; rfl) (by decide) (by decide) (by decide) (by decide)
 ·exact go 5 11 (by rw [z]; rfl) (by decide) (by decide) (by decide) (by decide)
 ·exact go 1000 2001 (by rw [z]; rfl) (by decide) (by decide) (by decide) (by decide)
theorem zgL {m n : Nat} {p q : P3} (hp : BP m p) (hq : BP n q) (hm : m <= 4000) (hn : n <= 4000) : zb5 [ptL p, ptD q] = .ok (.int (dot p q)) := by
 rw [zjq]; unfold zeW; kd_p
 rw [zag _ _ (zal hp.x (by omega)) (zal hq.x (by omega)), zag _ _ (zal hp.y (by omega)) (zal hq.y (by omega)), zag _ _ (zal hp.z (by omega)) (zal hq.z (by omega))]; kd_p
 rfl
theorem zox {n : Nat} {x y z : P3} (hx : BP n x) (hy : BP n y) (hz : BP n z) (hn : n <= 3000) {dx dy dz : D} (h : (dx = ptD x /\ dy = ptD y /\ dz = ptD z) \/ (dx = ptL x /\ dy = ptL y /\ dz = ptL z)) : zaN [dx, dy, dz] = .ok (.int (zaf x y z)) := by
 have m1 : ∀ {i : Int}, B n i -> zgT i = true := fun h => zal h (by omega)
 have m2 : ∀ {a b c d : Int}, B n a -> B n b -> B n c -> B n d -> zgT (a * b - c * d) = true := fun ha hb hc hd => zal ((ha.mul hb).sub (hc.mul hd)) (by omega)
 have e1 := zag _ _ (m1 hy.y) (m1 hz.z)
 have e2 := zag _ _ (m1 hy.z) (m1 hz.y)
 have e3 := zag _ _ (m1 hy.x) (m1 hz.z)
 have e4 := zag _ _ (m1 hy.z) (m1 hz.x)
 have e5 := zag _ _ (m1 hy.x) (m1 hz.y)
 have e6 := zag _ _ (m1 hy.y) (m1 hz.x)
 have f1 := zag _ _ (m1 hx.x) (m2 hy.y hz.z hy.z hz.y)
 have f2 := zag _ _ (m1 hx.y) (m2 hy.x hz.z hy.z hz.x)
 have f3 := zag _ _ (m1 hx.z) (m2 hy.x hz.y hy.y hz.x)
 have fin : x.1 * (y.2.1 * z.2.2 - y.2.2 * z.2.1) - x.2.1 * (y.1 * z.2.2 - y.2.2 * z.1) + x.2.2 * (y.1 * z.2.1 - y.2.1 * z.1) = zaf x y z := by unfold zaf dot crs; grind
 rw [zgE]
 rcases h with ⟨rfl, rfl, rfl⟩ | ⟨rfl, rfl, rfl⟩
 ·unfold zb6; kd_p
  unfold zc6; kd_p
  unfold zc5; kd_p
  rw [e1, e2]; kd_p
  rw [f1]; kd_p
  unfold zc4; kd_p
  rw [e3, e4]; kd_p
  rw [f2]; kd_p
  unfold zc3; kd_p
  rw [e5, e6]; kd_p
  rw [f3]; kd_p
  rw [fin]
 ·unfold zb6; kd_p
  unfold zc6; kd_p
  unfold zc5; kd_p
  rw [e1, e2]; kd_p
  rw [f1]; kd_p
  unfold zc4; kd_p
  rw [e3, e4]; kd_p
  rw [f2]; kd_p
  unfold zc3; kd_p
  rw [e5, e6]; kd_p
  rw [f3]; kd_p
  rw [fin]
abbrev zeC (m : M3) : D := .lst [ptL m.1, ptL m.2.1, ptL m.2.2]
theorem zoy {ds : List Int} (hd : Dd ds) (hl : ds.length = 10) : ∃ m, zbz [.lst (ds.map .int)] = .ok (zeC m) /\ det m ≠ 0 /\ BM 6 m := by
 have go : ∀ (most w : Int), gIx (.lst [.int 1, .int 2, .int 30]) (.int (dg ds 9 % 3)) = .ok (.int most) -> 2 * most + 1 = w -> 0 < w -> w <= 61 -> 0 <= most -> ∃ m, zbz [.lst (ds.map .int)] = .ok (zeC m) /\ det m ≠ 0 /\ BM 6 m := by
  intro most w he hw w0 w1 m0
  have mm : zgT most = true := zal (n := 24) (B.of (k := 61) (by omega)) (by decide)
  have b6 : ∀ e : Int, B 6 (e % w - most) := fun e => by
   have x0 := xbu e (show w ≠ 0 by omega)
   have x1 := xb0 e w0
   exact B.of (k := 61) (by omega)
  have f : ∀ k : Nat, ∃ x, x = dg ds k % w - most := fun k => ⟨_, rfl⟩
  have row : ∀ (j : Nat) (rs : List D) (x : Option D), j < 3 -> rs.length <= 10 -> zcv [some (.lst (ds.map .int)), some (.int most), some (.lst rs), some (.int (j : Int)), x] = .ok (.nx [some (.lst (ds.map .int)), some (.int most), some (.lst (rs ++ [ptL (dg ds (3 * j) % w - most, dg ds (3 * j + 1) % w - most, dg ds (3 * j + 2) % w - most)])), some (.int (j : Int)), some (.lst [.int (dg ds (3 * j)), .int (dg ds (3 * j + 1)), .int (dg ds (3 * j + 2))])]) := by
   intro j rs x hj hr
   have one : ∀ (k : Nat) (y0 : Option D), k < 3 -> (eOp gIx (zae 1) (eOp zcH (eOp za1 (eC (.int 3)) (zae 4)) (zae 0))) [some (.int (k : Int)), some (.lst (ds.map .int)), some (.int most), y0, some (.int (j : Int)), x] = .ok (.int (dg ds (3 * j + k))) := fun k y0 hk => by
    kd_p
    rw [zag 3 (j : Int) (by decide) (zal (n := 4) (B.of (k := 3) (by omega)) (by decide))]; kd_p
    rw [show (3 * (j : Int) + (k : Int)) = ((3 * j + k : Nat) : Int) by omega]
    exact ixd (by omega)
   unfold zcv; kd_p
   rw [show zgS [.int 3] = .ok [.int ((0 : Nat) : Int), .int ((1 : Nat) : Int), .int ((2 : Nat) : Int)] from rfl, zwY (one 0 _ (by decide)) (one 1 _ (by decide)) (one 2 _ (by decide))]; kd_p
   unfold zde; kd_p
   have two : ∀ (e : Int) (y0 y1 : Option D), (eOp gSub (eOp zeH (zae 0) (eOp zcH (eOp za1 (eC (.int 2)) (zae 2)) (eC (.int 1)))) (zae 2)) [some (.int e), some (.lst (ds.map .int)), some (.int most), y0, some (.int (j : Int)), y1] = .ok (.int (e % w - most)) := fun e y0 y1 => by
    kd_p
    rw [zag 2 most (by decide) mm]; kd_p
    rw [hw, zau _ _ w0]; kd_p
   rw [zwY (two _ _ _) (two _ _ _) (two _ _ _)]; kd_p
   rw [zev _ _ _ _ (by omega)]; kd_p
   rfl
  rw [zgF]; unfold zcT; kd_p
  rw [show gIx (.lst (ds.map .int)) (.int 9) = _ from ixd (k := 9) (by omega)]; kd_p
  rw [zau _ _ (by decide)]; kd_p
  rw [he]; kd_p
  unfold zeo; kd_p
  unfold zen; kd_p
  rw [show zgS [.int 3] = .ok [.int ((0 : Nat) : Int), .int ((1 : Nat) : Int), .int ((2 : Nat) : Int)] from rfl]; kd_p
  rw [row 0 _ _ (by decide) (by simp)]; kd_p
  rw [row 1 _ _ (by decide) (by simp)]; kd_p
  rw [row 2 _ _ (by decide) (by simp)]; kd_p
  unfold zem
  obtain ⟨m, hm⟩ : ∃ m : M3, m = ((dg ds (3 * 0) % w - most, dg ds (3 * 0 + 1) % w - most, dg ds (3 * 0 + 2) % w - most), (dg ds (3 * 1) % w - most, dg ds (3 * 1 + 1) % w - most, dg ds (3 * 1 + 2) % w - most), (dg ds (3 * 2) % w - most, dg ds (3 * 2 + 1) % w - most, dg ds (3 * 2 + 2) % w - most)) := ⟨_, rfl⟩
  have bm : BM 6 m := by rw [hm]; exact ⟨⟨b6 _, b6 _, b6 _⟩, ⟨b6 _, b6 _, b6 _⟩, ⟨b6 _, b6 _, b6 _⟩⟩
  rw [show ([] ++ [ptL (dg ds (3 * 0) % w - most, dg ds (3 * 0 + 1) % w - most, dg ds (3 * 0 + 2) % w - most)] ++ [ptL (dg ds (3 * 1) % w - most, dg ds (3 * 1 + 1) % w - most, dg ds (3 * 1 + 2) % w - most)] ++ [ptL (dg ds (3 * 2) % w - most, dg ds (3 * 2 + 1) % w - most, dg ds (3 * 2 + 2) % w - most)]) = [ptL m.1, ptL m.2.1, ptL m.2.2] from by rw [hm]; rfl]
  kd_p
  rw [zox bm.a bm.b bm.c (by decide) (.inr ⟨rfl, rfl, rfl⟩)]; kd_p
  by_cases hz : zaf m.1 m.2.1 m.2.2 = 0
  ·rw [decide_eq_true hz]; kd_p
   rw [show gIx (.lst (ds.map .int)) (.int 0) = _ from ixd (k := 0) (by omega), show gIx (.lst (ds.map .int)) (.int 1) = _ from ixd (k := 1) (by omega), show gIx (.lst (ds.map .int)) (.int 2) = _ from ixd (k := 2) (by omega), show gIx (.lst (ds.map .int)) (.int 4) = _ from ixd (k := 4) (by omega)]; kd_p
   rw [zau _ _ (by decide), zau _ _ (by decide), zau _ _ (by decide), zau _ _ (by decide)]; kd_p
   refine ⟨((1, dg ds 0 % 7, dg ds 1 % 5), (0, 1, dg ds 2 % 9), (0, 0, 1 + dg ds 4 % 4)), rfl, ?_, ⟨B.of (k := 61) (by show (1 : Int).natAbs <= 61; decide), B.of (k := 61) (by show (dg ds 0 % 7).natAbs <= 61; omega), B.of (k := 61) (by show (dg ds 1 % 5).natAbs <= 61; omega)⟩, ⟨B.of (k := 61) (by show (0 : Int).natAbs <= 61; decide), B.of (k := 61) (by show (1 : Int).natAbs <= 61; decide), B.of (k := 61) (by show (dg ds 2 % 9).natAbs <= 61; omega)⟩, ⟨B.of (k := 61) (by show (0 : Int).natAbs <= 61; decide), B.of (k := 61) (by show (0 : Int).natAbs <= 61; decide), B.of (k := 61) (by show (1 + dg ds 4 % 4).natAbs <= 61; omega)⟩⟩
   unfold det dot crs
   simp only [Int.one_mul, Int.zero_mul, xbz, Int.sub_zero, Int.add_zero]
   omega
  ·rw [decide_eq_false hz]; kd_p
   unfold zel; kd_p
   exact ⟨m, rfl, hz, bm⟩
 rcases (show dg ds 9 % 3 = 0 \/ dg ds 9 % 3 = 1 \/ dg ds 9 % 3 = 2 by omega) with z | z | z
 ·exact go 1 3 (by rw [z]; rfl) (by decide) (by decide) (by decide) (by decide)
 ·exact go 2 5 (by rw [z]; rfl) (by decide) (by decide) (by decide) (by decide)
 ·exact go 30 61 (by rw [z]; rfl) (by decide) (by decide) (by decide) (by decide)
theorem zw2 {n : Nat} {m : M3} {p : P3} (hm : BM 6 m) (hp : BP n p) (hn : n <= 3000) (hd : det m ≠ 0) (hz : Nz p) : zbA [zeC m, ptD p] = .ok (ptD (low (mul m p))) := by
 have nz := zqg hd hz
 have bm := hm.mul hp
 rw [zgG]; unfold zcU; kd_p
 rw [zgL hm.a hp (by decide) (by omega), zgL hm.b hp (by decide) (by omega), zgL hm.c hp (by decide) (by omega)]; kd_p
 rw [show zaq [.int (dot m.1 p), .int (dot m.2.1 p), .int (dot m.2.2 p)] = _ from zw1 (p := mul m p) bm nz (by omega)]; kd_p
theorem zw3 {ds : List D} {e : DSt -> R D} {O : DSt} (P : P3 -> Prop) (hl : ds.length <= 1000) (h : ∀ d ∈ ds, ∃ p, e (some d :: O) = .ok (ptD p) /\ P p) : ∃ ps : List P3, lcK 1 [0] (.ok ds) zaJ zbv e O = .ok (ps.map ptD) /\ ps.length = ds.length /\ ∀ p ∈ ps, P p := by
 have : ∃ f : D -> P3, ∀ d ∈ ds, e (some d :: O) = .ok (ptD (f d)) /\ P (f d) := by
  refine ⟨fun d => open Classical in if h : ∃ p, e (some d :: O) = .ok (ptD p) /\ P p then h.choose else (0, 0, 0), fun d hd => ?_⟩
  have hx := h d hd
  simp only [dif_pos hx]
  exact hx.choose_spec
 obtain ⟨f, hf⟩ := this
 refine ⟨ds.map f, ?_, by simp, fun p hp => ?_⟩
 ·rw [zjd (g := fun d => ptD (f d)) (by omega) (fun d hd => (hf d hd).1), xb5]; rfl
 ·obtain ⟨d, hd, rfl⟩ := xbf.mp hp
  exact (hf d hd).2
end LmS
open L2 DL Mir
namespace LmT
open Mth LmP LmD LmB LmE LmF LmH LmI LmJ LmM LmQ LmS
theorem Col3 (x y z : P3) : Col [x, y, z] ↔ C3 z y x := by
 constructor
 ·intro h; exact h z (by simp) y (by simp) x (by simp)
 ·intro h p hp q hq r hr
  have h1 := C3.s12 h
  have h2 := C3.s23 h
  have h3 := C3.rot h
  have h4 := C3.rot h3
  have h5 := C3.s12 h2
  have h6 := C3.s12 h3
  have h7 := C3.s12 h4
  show C3 p q r
  simp only [xaf, xaq, or_false] at hp hq hr
  rcases hp with rfl | rfl | rfl <;> rcases hq with rfl | rfl | rfl <;> rcases hr with rfl | rfl | rfl <;> with_reducible (first | assumption | exact C3.aab _ _ | exact C3.aba _ _ | exact C3.baa _ _)
def tri (ps : List P3) (o m i : Nat) : Option D := if zaf (pk ps o) (pk ps m) (pk ps i) = 0 then some (.bl true) else none
def thr (ps : List P3) : Option D := (rg 0 ps.length).findSome? fun o => (rg 0 o).findSome? fun m => (rg 0 m).findSome? fun i => tri ps o m i
def zly (ps : List P3) : Prop := ∀ i j k, i < ps.length -> j < ps.length -> k < ps.length -> i ≠ j -> i ≠ k -> j ≠ k -> ¬ C3 (pk ps i) (pk ps j) (pk ps k)
theorem zgM (ps : List P3) : (thr ps = some (.bl true) /\ ¬ zly ps) \/ (thr ps = none /\ zly ps) := by
 cases h : thr ps with
 | some v =>
  obtain ⟨o, ho, h⟩ := xb6 h
  obtain ⟨m, hm, h⟩ := xb6 h
  obtain ⟨i, hi, h⟩ := xb6 h
  have ho := (zcz.mp ho).2
  have hm := (zcz.mp hm).2
  have hi := (zcz.mp hi).2
  unfold tri at h
  by_cases hz : zaf (pk ps o) (pk ps m) (pk ps i) = 0
  ·rw [if_pos hz] at h
   cases h
   exact .inl ⟨rfl, fun b => b o m i ho (by omega) (by omega) (by omega) (by omega) (by omega) hz⟩
  ·rw [if_neg hz] at h; cases h
 | none =>
  refine .inr ⟨rfl, ?_⟩
  have desc : ∀ o m i, o < ps.length -> m < o -> i < m -> ¬ C3 (pk ps o) (pk ps m) (pk ps i) := fun o m i ho hm hi hz => by
   have h1 := xcf.mp h o (zcz.mpr ⟨by omega, ho⟩)
   have h2 := xcf.mp h1 m (zcz.mpr ⟨by omega, hm⟩)
   have h3 := xcf.mp h2 i (zcz.mpr ⟨by omega, hi⟩)
   unfold tri at h3
   rw [if_pos (show zaf (pk ps o) (pk ps m) (pk ps i) = 0 from hz)] at h3; cases h3
  intro i j k hi hj hk h1 h2 h3 hc
  have c1 := C3.s12 hc
  have c2 := C3.s23 hc
  have c3 := C3.rot hc
  have c4 := C3.rot c3
  have c5 := C3.s23 c3
  rcases Nat.lt_or_gt_of_ne h1 with a | a <;> rcases Nat.lt_or_gt_of_ne h2 with b | b <;> rcases Nat.lt_or_gt_of_ne h3 with c | c
  ·exact desc k j i hk c a c5
  ·exact desc j k i hj c b c4
  ·omega
  ·exact desc j i k hj a b c1
  ·exact desc k i j hk b a c3
  ·omega
  ·exact desc i k j hi b c c2
  ·exact desc i j k hi a c hc
theorem zly.nd {ps : List P3} (b : zly ps) (h3 : 3 <= ps.length) : ps.Nodup := by
 refine xcn.mpr fun i j hi hj hij e => ?_
 obtain ⟨k, hk, k1, k2⟩ : ∃ k, k < ps.length /\ k ≠ i /\ k ≠ j := by
  by_cases c0 : (0 : Nat) ≠ i /\ (0 : Nat) ≠ j
  ·exact ⟨0, by omega, c0.1, c0.2⟩
  ·by_cases c1 : (1 : Nat) ≠ i /\ (1 : Nat) ≠ j
   ·exact ⟨1, by omega, c1.1, c1.2⟩
   ·exact ⟨2, by omega, by omega, by omega⟩
 have a1 := ze2 hi
 have a2 := ze2 hj
 rw [xao hi] at a1
 rw [xao hj] at a2
 have e2 : pk ps i = pk ps j := by rw [<- Option.some.inj a1, <- Option.some.inj a2, e]
 refine b i j k hi hj hk (by omega) (xax k1) (xax k2) ?_
 rw [e2]; exact C3.aab _ _
theorem zp2 {N : Nat} {ps : List P3} (h : Pts N ps) (hl : ps.length <= 100) (hN : N <= 900 := by decide) : zcy [.lst (ps.map ptD)] = .ok ((thr ps).getD (.bl false)) := by
 have bd : ∀ {k}, k < ps.length -> BP N (pk ps k) := fun hk => h.bd _ (zgK hk)
 have t3 : ∀ o m : Nat, o < ps.length -> m < ps.length -> ∀ i ∈ rg 0 m, ∀ O, (∃ x, O = [some (.lst (ps.map ptD)), some (.int (o : Int)), some (.int (m : Int)), x]) ->
   (∃ v, tri ps o m i = some v /\ zbW (O.set 3 (some (.int (i : Int)))) = .ok (.rt v)) \/ (tri ps o m i = none /\ ∃ O', zbW (O.set 3 (some (.int (i : Int)))) = .ok (.nx O') /\ ∃ x, O' = [some (.lst (ps.map ptD)), some (.int (o : Int)), some (.int (m : Int)), x]) := by
  rintro o m ho hm i hi O ⟨x, rfl⟩
  have hi := (zcz.mp hi).2
  rw [show List.set _ 3 _ = [some (.lst (ps.map ptD)), some (.int (o : Int)), some (.int (m : Int)), some (.int (i : Int))] from rfl]
  unfold zbW; kd_p
  rw [Fl.ix ho, Fl.ix hm, Fl.ix (k := i) (by omega)]; kd_p
  rw [zox (bd ho) (bd hm) (bd (k := i) (by omega)) (by omega) (.inl ⟨rfl, rfl, rfl⟩)]; kd_p
  unfold tri
  by_cases hz : zaf (pk ps o) (pk ps m) (pk ps i) = 0
  ·rw [decide_eq_true hz, if_pos hz]; kd_p
   exact .inl ⟨_, rfl, rfl⟩
  ·rw [decide_eq_false hz, if_neg hz]; kd_p
   exact .inr ⟨trivial, _, rfl, _, rfl⟩
 have t2 : ∀ o : Nat, o < ps.length -> ∀ m ∈ rg 0 o, ∀ O, (∃ x y, O = [some (.lst (ps.map ptD)), some (.int (o : Int)), x, y]) ->
   (∃ v, ((rg 0 m).findSome? fun i => tri ps o m i) = some v /\ zcm (O.set 2 (some (.int (m : Int)))) = .ok (.rt v)) \/ (((rg 0 m).findSome? fun i => tri ps o m i) = none /\ ∃ O', zcm (O.set 2 (some (.int (m : Int)))) = .ok (.nx O') /\ ∃ x y, O' = [some (.lst (ps.map ptD)), some (.int (o : Int)), x, y]) := by
  rintro o ho m hm O ⟨x, y, rfl⟩
  have hm := (zcz.mp hm).2
  rw [show List.set _ 2 _ = [some (.lst (ps.map ptD)), some (.int (o : Int)), some (.int (m : Int)), y] from rfl]
  unfold zcm; kd_p
  rw [ze3 m (by omega)]; kd_p
  rcases zeB _ _ _ (t3 o m ho (by omega)) _ ⟨y, rfl⟩ with ⟨v, e1, e2⟩ | ⟨e1, O', e2, x', rfl⟩
  ·exact .inl ⟨v, e1, e2⟩
  ·exact .inr ⟨e1, _, e2, _, _, rfl⟩
 have t1 : ∀ o ∈ rg 0 ps.length, ∀ O, (∃ x y z, O = [some (.lst (ps.map ptD)), x, y, z]) ->
   (∃ v, ((rg 0 o).findSome? fun m => (rg 0 m).findSome? fun i => tri ps o m i) = some v /\ zcV (O.set 1 (some (.int (o : Int)))) = .ok (.rt v)) \/ (((rg 0 o).findSome? fun m => (rg 0 m).findSome? fun i => tri ps o m i) = none /\ ∃ O', zcV (O.set 1 (some (.int (o : Int)))) = .ok (.nx O') /\ ∃ x y z, O' = [some (.lst (ps.map ptD)), x, y, z]) := by
  rintro o ho O ⟨x, y, z, rfl⟩
  have ho := (zcz.mp ho).2
  rw [show List.set _ 1 _ = [some (.lst (ps.map ptD)), some (.int (o : Int)), y, z] from rfl]
  unfold zcV; kd_p
  rw [ze3 o (by omega)]; kd_p
  rcases zeB _ _ _ (t2 o ho) _ ⟨y, z, rfl⟩ with ⟨v, e1, e2⟩ | ⟨e1, O', e2, x', y', rfl⟩
  ·exact .inl ⟨v, e1, e2⟩
  ·exact .inr ⟨e1, _, e2, _, _, _, rfl⟩
 rw [zg0]; unfold zdp; kd_p
 rw [xag, ze3 _ (by omega)]; kd_p
 unfold thr
 rcases zeB _ _ _ t1 _ ⟨none, none, none, rfl⟩ with ⟨v, e1, e2⟩ | ⟨e1, O', e2, u, x, y, rfl⟩
 ·rw [e1, e2]; kd_p
  rfl
 ·rw [e1, e2]; kd_p
  unfold zeX; kd_p
  rfl
theorem on3 {N : Nat} {x y z : P3} (h : Pts N [x, y, z]) (hN : N <= 900 := by decide) : zbw [.lst [ptD x, ptD y, ptD z]] = .ok (.bl (decide (zaf z y x = 0))) := by
 obtain ⟨b, e, c⟩ := zoq h (by omega) (by simp)
 rw [show zbw [.lst [ptD x, ptD y, ptD z]] = _ from e]
 congr 2
 rw [xcl, c, Col3, decide_eq_true_eq]; rfl
theorem zlz {N : Nat} {ps : List P3} (h : Pts N ps) (hl : ps.length <= 100) (hN : N <= 900 := by decide) : zaU [.lst (ps.map ptD)] = .ok ((thr ps).getD (.bl false)) := by
 have bd : ∀ {k}, k < ps.length -> BP N (pk ps k) := fun hk => h.bd _ (zgK hk)
 have nm : ∀ {k}, k < ps.length -> Nrm (pk ps k) := fun hk => h.nrm _ (zgK hk)
 have t3 : ∀ o m : Nat, o < ps.length -> m < ps.length -> ∀ i ∈ rg 0 m, ∀ O, (∃ x, O = [some (.lst (ps.map ptD)), some (.int (o : Int)), some (.int (m : Int)), x]) ->
   (∃ v, tri ps o m i = some v /\ zaT (O.set 3 (some (.int (i : Int)))) = .ok (.rt v)) \/ (tri ps o m i = none /\ ∃ O', zaT (O.set 3 (some (.int (i : Int)))) = .ok (.nx O') /\ ∃ x, O' = [some (.lst (ps.map ptD)), some (.int (o : Int)), some (.int (m : Int)), x]) := by
  rintro o m ho hm i hi O ⟨x, rfl⟩
  have hi := (zcz.mp hi).2
  have hi' : i < ps.length := by omega
  rw [show List.set _ 3 _ = [some (.lst (ps.map ptD)), some (.int (o : Int)), some (.int (m : Int)), some (.int (i : Int))] from rfl]
  unfold zaT; kd_p
  rw [Fl.ix ho, Fl.ix hm, Fl.ix hi']; kd_p
  rw [on3 (N := N) ⟨fun p hp => by
   simp only [xaf, xaq, or_false] at hp
   rcases hp with rfl | rfl | rfl
   ·exact nm hi'
   ·exact nm hm
   ·exact nm ho, fun p hp => by
   simp only [xaf, xaq, or_false] at hp
   rcases hp with rfl | rfl | rfl
   ·exact bd hi'
   ·exact bd hm
   ·exact bd ho⟩ hN]; kd_p
  unfold tri
  by_cases hz : zaf (pk ps o) (pk ps m) (pk ps i) = 0
  ·rw [decide_eq_true hz, if_pos hz]; kd_p
   exact .inl ⟨_, rfl, rfl⟩
  ·rw [decide_eq_false hz, if_neg hz]; kd_p
   exact .inr ⟨trivial, _, rfl, _, rfl⟩
 have t2 : ∀ o : Nat, o < ps.length -> ∀ m ∈ rg 0 o, ∀ O, (∃ x y, O = [some (.lst (ps.map ptD)), some (.int (o : Int)), x, y]) ->
   (∃ v, ((rg 0 m).findSome? fun i => tri ps o m i) = some v /\ zaV (O.set 2 (some (.int (m : Int)))) = .ok (.rt v)) \/ (((rg 0 m).findSome? fun i => tri ps o m i) = none /\ ∃ O', zaV (O.set 2 (some (.int (m : Int)))) = .ok (.nx O') /\ ∃ x y, O' = [some (.lst (ps.map ptD)), some (.int (o : Int)), x, y]) := by
  rintro o ho m hm O ⟨x, y, rfl⟩
  have hm := (zcz.mp hm).2
  rw [show List.set _ 2 _ = [some (.lst (ps.map ptD)), some (.int (o : Int)), some (.int (m : Int)), y] from rfl]
  unfold zaV; kd_p
  rw [ze3 m (by omega)]; kd_p
  rcases zeB _ _ _ (t3 o m ho (by omega)) _ ⟨y, rfl⟩ with ⟨v, e1, e2⟩ | ⟨e1, O', e2, x', rfl⟩
  ·exact .inl ⟨v, e1, e2⟩
  ·exact .inr ⟨e1, _, e2, _, _, rfl⟩
 have t1 : ∀ o ∈ rg 0 ps.length, ∀ O, (∃ x y z, O = [some (.lst (ps.map ptD)), x, y, z]) ->
   (∃ v, ((rg 0 o).findSome? fun m => (rg 0 m).findSome? fun i => tri ps o m i) = some v /\ za3 (O.set 1 (some (.int (o : Int)))) = .ok (.rt v)) \/ (((rg 0 o).findSome? fun m => (rg 0 m).findSome? fun i => tri ps o m i) = none /\ ∃ O', za3 (O.set 1 (some (.int (o : Int)))) = .ok (.nx O') /\ ∃ x y z, O' = [some (.lst (ps.map ptD)), x, y, z]) := by
  rintro o ho O ⟨x, y, z, rfl⟩
  have ho := (zcz.mp ho).2
  rw [show List.set _ 1 _ = [some (.lst (ps.map ptD)), some (.int (o : Int)), y, z] from rfl]
  unfold za3; kd_p
  rw [ze3 o (by omega)]; kd_p
  rcases zeB _ _ _ (t2 o ho) _ ⟨y, z, rfl⟩ with ⟨v, e1, e2⟩ | ⟨e1, O', e2, x', y', rfl⟩
  ·exact .inl ⟨v, e1, e2⟩
  ·exact .inr ⟨e1, _, e2, _, _, _, rfl⟩
 rw [zdR]; unfold zbe; kd_p
 rw [xag, ze3 _ (by omega)]; kd_p
 unfold thr
 rcases zeB _ _ _ t1 _ ⟨none, none, none, rfl⟩ with ⟨v, e1, e2⟩ | ⟨e1, O', e2, u, x, y, rfl⟩
 ·rw [e1, e2]; kd_p
  rfl
 ·rw [e1, e2]; kd_p
  unfold zcg; kd_p
  rfl
theorem zd7 {d : D} (h : zaz [d] = .ok (.bl false)) (n : D) : zan [d, n] = .err (.exc "NoBow" []) := by
 rw [zbQ]; unfold zbb; kd_p
 rw [h]; kd_p
theorem zjw {N : Nat} {ps : List P3} (h : Pts N ps) (h1 : 1 <= ps.length) (h12 : ps.length <= 12) (hN : N <= 900 := by decide) : zaz [.lst (ps.map ptD)] = .ok (.bl (decide ps.Nodup)) := by
 by_cases nd : ps.Nodup
 ·have e := zsX nd
  rw [zhG h (by omega) h1 h12, decide_eq_true (by omega), decide_eq_true nd]
 ·have : ∃ i j, i < j /\ j < ps.length /\ pk ps i = pk ps j := by
   apply xa9
   intro z
   apply nd
   refine xcn.mpr fun i j hi hj hij e => z ⟨i, j, hij, hj, ?_⟩
   have a1 := ze2 hi
   have a2 := ze2 hj
   rw [xao hi] at a1
   rw [xao hj] at a2
   rw [<- Option.some.inj a1, <- Option.some.inj a2, e]
  obtain ⟨i, j, a, b, c⟩ := this
  rw [zow h h12 a b c hN, decide_eq_false nd]
theorem zj3 {N : Nat} {ps : List P3} (h : Pts N ps) (h1 : 1 <= ps.length) (h12 : ps.length <= 12) {n : Nat} (hb : ps.length ≠ n \/ ¬ zly ps) (hN : N <= 900 := by decide) : zan [.lst (ps.map ptD), .int (n : Int)] = .err (.exc "NoBow" []) := by
 have fl := zjw h h1 h12 hN
 by_cases nd : ps.Nodup
 ·rw [decide_eq_true nd] at fl
  rw [zbQ]; unfold zbb; kd_p
  rw [fl]; kd_p
  rw [xag]
  by_cases hn : ps.length = n
  ·rw [decide_eq_true (by omega)]; kd_p
   rw [zlz h (by omega) hN]
   rcases zgM ps with ⟨e, _⟩ | ⟨_, b⟩
   ·rw [e, show (some (D.bl true)).getD (.bl false) = .bl true from rfl]; kd_p
   ·exact absurd b (hb.resolve_left fun z => z hn)
  ·rw [decide_eq_false (by omega)]; kd_p
 ·rw [decide_eq_false nd] at fl
  exact zd7 fl _
theorem zh9 {N : Nat} {ps : List P3} (h : Pts N ps) (h3 : 3 <= ps.length) (h12 : ps.length <= 12) (hb : zly ps) (hN : N <= 900 := by decide) : zan [.lst (ps.map ptD), .int (ps.length : Int)] = .ok .non := by
 have fl := zjw h (by omega) h12 hN
 rw [decide_eq_true (hb.nd h3)] at fl
 rw [zbQ]; unfold zbb; kd_p
 rw [fl]; kd_p
 rw [xag, decide_eq_true rfl]; kd_p
 rw [zlz h (by omega) hN]
 rcases zgM ps with ⟨_, b⟩ | ⟨e, _⟩
 ·exact absurd hb b
 ·rw [e, show (none : Option D).getD (.bl false) = .bl false from rfl]; kd_p
abbrev zp3 (q : P6) : D := .tup ((zar q).map .int)
def B6 (n : Nat) (q : P6) : Prop := ∀ i ∈ zar q, B n i
theorem zp4 {n : Nat} {ns : List Int} (h : ∀ i ∈ ns, B n i) (hz : zaH ns ≠ 0) (hn : n <= 9000) (hl : ns.length <= 1000) : zeR [.lst (ns.map .int)] = .ok (.tup ((zs6 ns).map .int)) := by
 have hd := zsS (k := 0) h hz hn
 rw [zjX]; unfold zfR zhs zgB; kd_p
 obtain ⟨a', e⟩ := zpX ns (some (.lst (ns.map .int))) none
 rw [e]; kd_p
 unfold zhr zhq; kd_p
 rw [zgp (p := fun d => !eqD d (.int 0)) (g := id) (by rw [xag]; omega) (fun d hd => ?_) (fun d hd _ => rfl)]
 ·kd_p
  rw [zlu hz]; kd_p
  have hs : zd8 ns = if zaH ns < 0 then -((zrZ ns : Nat) : Int) else ((zrZ ns : Nat) : Int) := rfl
  by_cases hf : zaH ns < 0
  ·rw [if_pos hf] at hs
   rw [decide_eq_true hf]; kd_p
   rw [show -((ns.foldl (fun g n => Nat.gcd g n.natAbs) 0 : Nat) : Int) = zd8 ns from hs.symm, zoo (j := 1) hl hd rfl]; kd_p
   rfl
  ·rw [if_neg hf] at hs
   rw [decide_eq_false hf]; kd_p
   rw [show ((ns.foldl (fun g n => Nat.gcd g n.natAbs) 0 : Nat) : Int) = zd8 ns from hs.symm, zoo (j := 1) hl hd rfl]; kd_p
   rfl
 ·obtain ⟨i, _, rfl⟩ := xbf.mp hd
  kd_p; rw [zec]
theorem zoz {n : Nat} {l m : P3} (hl : BP n l) (hm : BP n m) (hn : n <= 3000) : za4 [.tup [ptD l, ptD m]] = .ok (.lst ((zar (prd l m)).map .int)) := by
 have m1 : ∀ {i : Int}, B n i -> zgT i = true := fun h => zal h (by omega)
 rw [zfG]; unfold zcl; kd_p
 rw [show gIx (.tup [ptD l, ptD m]) (.int 0) = .ok (ptD l) from rfl]; kd_p
 unfold zdV; kd_p
 rw [show gIx (.tup [ptD l, ptD m]) (.int 1) = .ok (ptD m) from rfl]; kd_p
 unfold zdU; kd_p
 have one : ∀ (k : Int) (a b : Int) (x y z : Option D), gIx (ptD l) (.int k) = .ok (.int a) -> gIx (ptD m) (.int k) = .ok (.int b) -> B n a -> B n b -> (eOp za1 (eOp gIx (zae 2) (zae 0)) (eOp gIx (zae 3) (zae 0))) [some (.int k), x, some (ptD l), some (ptD m), y, z] = .ok (.int (a * b)) := fun k a b x y z e1 e2 ha hb => by
  kd_p
  rw [e1, e2]; kd_p
  rw [zag _ _ (m1 ha) (m1 hb)]
 rw [show zgS [.int 3] = .ok [.int 0, .int 1, .int 2] from rfl, zwY (one 0 _ _ _ _ _ rfl rfl hl.x hm.x) (one 1 _ _ _ _ _ rfl rfl hl.y hm.y) (one 2 _ _ _ _ _ rfl rfl hl.z hm.z)]; kd_p
 unfold zdT; kd_p
 have two : ∀ (j k : Int) (a b c d : Int) (x y z : Option D), gIx (ptD l) (.int j) = .ok (.int a) -> gIx (ptD m) (.int k) = .ok (.int b) -> gIx (ptD l) (.int k) = .ok (.int c) -> gIx (ptD m) (.int j) = .ok (.int d) -> B n a -> B n b -> B n c -> B n d -> (eOp zcH (eOp za1 (eOp gIx (zae 3) (zae 0)) (eOp gIx (zae 4) (zae 1))) (eOp za1 (eOp gIx (zae 3) (zae 1)) (eOp gIx (zae 4) (zae 0)))) [some (.int j), some (.int k), x, some (ptD l), some (ptD m), y, z] = .ok (.int (a * b + c * d)) := fun j k a b c d x y z e1 e2 e3 e4 ha hb hc hd => by
  kd_p
  rw [e1, e2, e3, e4]; kd_p
  rw [zag _ _ (m1 ha) (m1 hb), zag _ _ (m1 hc) (m1 hd)]; kd_p
 rw [zwZ (two 0 1 _ _ _ _ _ _ _ rfl rfl rfl rfl hl.x hm.y hl.y hm.x) (two 0 2 _ _ _ _ _ _ _ rfl rfl rfl rfl hl.x hm.z hl.z hm.x) (two 1 2 _ _ _ _ _ _ _ rfl rfl rfl rfl hl.y hm.z hl.z hm.y)]; kd_p
 unfold zdS; kd_p
 rfl
theorem zsZ {a b c d f g a' b' c' d' f' g' x y z u v w : D} {e : DSt -> R D} {O : DSt} (h1 : e (some a :: some a' :: O) = .ok x) (h2 : e (some b :: some b' :: O) = .ok y) (h3 : e (some c :: some c' :: O) = .ok z) (h4 : e (some d :: some d' :: O) = .ok u) (h5 : e (some f :: some f' :: O) = .ok v) (h6 : e (some g :: some g' :: O) = .ok w) : lcK 2 [0, 1] (.ok [.tup [a, a'], .tup [b, b'], .tup [c, c'], .tup [d, d'], .tup [f, f'], .tup [g, g']]) (zbM 2) zbv e O = .ok [x, y, z, u, v, w] := by
 have t : lcD [0, 1] (zbM 2) zbv e (List.replicate 2 none ++ O) [.tup [a, a'], .tup [b, b'], .tup [c, c'], .tup [d, d'], .tup [f, f'], .tup [g, g']] = (e (some a :: some a' :: O)).bind (fun y1 => ((e (some b :: some b' :: O)).bind fun y2 => ((e (some c :: some c' :: O)).bind fun y3 => ((e (some d :: some d' :: O)).bind fun y4 => ((e (some f :: some f' :: O)).bind fun y5 => ((e (some g :: some g' :: O)).bind fun y6 => (R.ok ([] : List D)).bind fun ys => .ok (y6 :: ys)).bind fun ys => .ok (y5 :: ys)).bind fun ys => .ok (y4 :: ys)).bind fun ys => .ok (y3 :: ys)).bind fun ys => .ok (y2 :: ys)).bind fun ys => .ok (y1 :: ys)) := rfl
 show (bif most 6 then (lcD [0, 1] (zbM 2) zbv e (List.replicate 2 none ++ O) _).noerr else .bad) = _
 rw [t, h1, h2, h3, h4, h5, h6]; rfl
theorem B6.prd {n : Nat} {l m : P3} (hl : BP n l) (hm : BP n m) : B6 (n + n + 1) (prd l m) := by
 have q : ∀ {a b : Int}, B n a -> B n b -> B (n + n + 1) (a * b) := fun ha hb => (ha.mul hb).mono (by omega)
 have s : ∀ {a b c d : Int}, B n a -> B n b -> B n c -> B n d -> B (n + n + 1) (a * b + c * d) := fun ha hb hc hd => ((ha.mul hb).add (hc.mul hd)).mono (by omega)
 intro i hi
 simp only [zar, Mth.prd, xaf, xaq, or_false] at hi
 rcases hi with rfl | rfl | rfl | rfl | rfl | rfl
 ·exact q hl.x hm.x
 ·exact q hl.y hm.y
 ·exact q hl.z hm.z
 ·exact s hl.x hm.y hl.y hm.x
 ·exact s hl.x hm.z hl.z hm.x
 ·exact s hl.y hm.z hl.z hm.y
theorem B6.comb {k n : Nat} {x y : Int} {q r : P6} (hx : B k x) (hy : B k y) (hq : B6 n q) (hr : B6 n r) : B6 (k + n + 1) (comb x y q r) := by
 have s : ∀ {a b : Int}, B n a -> B n b -> B (k + n + 1) (x * a - y * b) := fun ha hb => ((hx.mul ha).sub (hy.mul hb)).mono (by omega)
 intro i hi
 simp only [zar, Mth.comb, xaf, xaq, or_false] at hi
 rcases hi with rfl | rfl | rfl | rfl | rfl | rfl <;> exact s (hq _ (by simp [zar])) (hr _ (by simp [zar]))
theorem B6.low {n : Nat} {q : P6} (h : B6 n q) (hz : Nz6 q) : B6 n (zfC q) := by
 intro i hi
 rw [ziz] at hi
 obtain ⟨x, hx, rfl⟩ := xbf.mp hi
 have := zph hz hx
 have hb := h x hx
 unfold B at *
 omega
set_option maxHeartbeats 800000 in
theorem zrm {a b c d e : P3} (h : Pts 24 [a, b, c, d, e]) (hb : zly [a, b, c, d, e]) (g : G5 a b c d e) : zdo [.lst [ptD a, ptD b, ptD c, ptD d, ptD e]] = .ok (zp3 (zfC (zeq a b c d e))) /\ B6 250 (zfC (zeq a b c d e)) := by
 have ba := h.bd a (by simp)
 have bb := h.bd b (by simp)
 have bc := h.bd c (by simp)
 have bd := h.bd d (by simp)
 have be := h.bd e (by simp)
 have zab := zav g.abc
 have zac := zav (fun h => g.abc (C3.s23 h) : ¬ C3 a c b)
 have zcd := zav g.cde
 have zbd := zav g.bde
 have ne : ∀ {x y z : P3}, ¬ C3 x y z -> x ≠ y := fun h z => h (by rw [z]; exact C3.aab _ _)
 have l1 := (ba.crs bb).low zab
 have l2 := (bc.crs bd).low zcd
 have m1 := (ba.crs bc).low zac
 have m2 := (bb.crs bd).low zbd
 have dl1 := l1.dot be
 have dl2 := l2.dot be
 have dm1 := m1.dot be
 have dm2 := m2.dot be
 have q1 := B6.prd l1 l2
 have q2 := B6.prd m1 m2
 have zn := zmM g
 have bn : B6 250 (zeq a b c d e) := by
  unfold zeq
  intro i hi
  have := B6.comb (dm1.mul dm2) (dl1.mul dl2) q1 q2 i hi
  exact B.mono this (by decide)
 refine ⟨?_, bn.low zn⟩
 rw [zjY]; unfold zfS; kd_p
 have lb := zh9 (ps := [a, b, c, d, e]) h (by simp) (by simp) hb
 rw [show (([a, b, c, d, e] : List P3).length : Int) = 5 from rfl, show ([a, b, c, d, e] : List P3).map ptD = [ptD a, ptD b, ptD c, ptD d, ptD e] from rfl] at lb
 rw [lb]; kd_p
 unfold zhy; kd_p
 rw [show gIx (.lst [ptD a, ptD b, ptD c, ptD d, ptD e]) (.int 0) = .ok (ptD a) from rfl, show gIx (.lst [ptD a, ptD b, ptD c, ptD d, ptD e]) (.int 1) = .ok (ptD b) from rfl, show gIx (.lst [ptD a, ptD b, ptD c, ptD d, ptD e]) (.int 2) = .ok (ptD c) from rfl, show gIx (.lst [ptD a, ptD b, ptD c, ptD d, ptD e]) (.int 3) = .ok (ptD d) from rfl]; kd_p
 rw [through_v1 ba bb (by decide) (ne g.abc) zab, through_v1 bc bd (by decide) (ne g.cde) zcd]; kd_p
 unfold zhx; kd_p
 rw [show gIx (.lst [ptD a, ptD b, ptD c, ptD d, ptD e]) (.int 0) = .ok (ptD a) from rfl, show gIx (.lst [ptD a, ptD b, ptD c, ptD d, ptD e]) (.int 1) = .ok (ptD b) from rfl, show gIx (.lst [ptD a, ptD b, ptD c, ptD d, ptD e]) (.int 2) = .ok (ptD c) from rfl, show gIx (.lst [ptD a, ptD b, ptD c, ptD d, ptD e]) (.int 3) = .ok (ptD d) from rfl]; kd_p
 rw [through_v1 ba bc (by decide) (ne (fun h => g.abc (C3.s23 h) : ¬ C3 a c b)) zac, through_v1 bb bd (by decide) (ne g.bde) zbd]; kd_p
 have i0 : ∀ x y : D, gIx (.tup [x, y]) (.int 0) = .ok x := fun _ _ => rfl
 have i1 : ∀ x y : D, gIx (.tup [x, y]) (.int 1) = .ok y := fun _ _ => rfl
 have i4 : gIx (.lst [ptD a, ptD b, ptD c, ptD d, ptD e]) (.int 4) = .ok (ptD e) := rfl
 unfold zhw; kd_p
 rw [i0, i1, i4]; kd_p
 rw [zju m1 be (by decide) (by decide), zju m2 be (by decide) (by decide)]; kd_p
 rw [zag _ _ (zal dm1 (by decide)) (zal dm2 (by decide))]; kd_p
 unfold zhv; kd_p
 rw [i0, i1, i4]; kd_p
 rw [zju l1 be (by decide) (by decide), zju l2 be (by decide) (by decide)]; kd_p
 rw [zag _ _ (zal dl1 (by decide)) (zal dl2 (by decide))]; kd_p
 unfold zhu; kd_p
 rw [zoz l1 l2 (by decide), zoz m1 m2 (by decide)]; kd_p
 unfold zht; kd_p
 rw [i0, i1]; kd_p
 have mP := zal (dm1.mul dm2) (by decide)
 have mL := zal (dl1.mul dl2) (by decide)
 generalize hP : dot (low (crs a c)) e * dot (low (crs b d)) e = P at mP
 generalize hL : dot (low (crs a b)) e * dot (low (crs c d)) e = L at mL
 generalize hq1 : prd (low (crs a b)) (low (crs c d)) = r1 at q1
 generalize hq2 : prd (low (crs a c)) (low (crs b d)) = r2 at q2
 have bw : zeq a b c d e = comb P L r1 r2 := by unfold zeq; rw [hP, hL, hq1, hq2]
 have one : ∀ (x y : Int) (s0 s1 s2 s5 : Option D), B 99 x -> B 99 y -> (eOp gSub (eOp za1 (zae 5) (zae 0)) (eOp za1 (zae 6) (zae 1))) [some (.int x), some (.int y), s0, s1, s2, some (.int P), some (.int L), s5] = .ok (.int (P * x - L * y)) := fun x y s0 s1 s2 s5 hx hy => by
  kd_p
  rw [zag _ _ mP (zal hx (by decide)), zag _ _ mL (zal hy (by decide))]; kd_p
 have b1 : ∀ x ∈ zar r1, B 99 x := fun x hx => (q1 x hx).mono (by decide)
 have b2 : ∀ x ∈ zar r2, B 99 x := fun x hx => (q2 x hx).mono (by decide)
 rw [show zh5 [.lst ((zar r1).map .int), .lst ((zar r2).map .int)] = .ok [.tup [.int r1.1.1, .int r2.1.1], .tup [.int r1.1.2.1, .int r2.1.2.1], .tup [.int r1.1.2.2, .int r2.1.2.2], .tup [.int r1.2.1, .int r2.2.1], .tup [.int r1.2.2.1, .int r2.2.2.1], .tup [.int r1.2.2.2, .int r2.2.2.2]] from rfl,
  zsZ (one _ _ _ _ _ _ (b1 _ (by simp [zar])) (b2 _ (by simp [zar]))) (one _ _ _ _ _ _ (b1 _ (by simp [zar])) (b2 _ (by simp [zar]))) (one _ _ _ _ _ _ (b1 _ (by simp [zar])) (b2 _ (by simp [zar]))) (one _ _ _ _ _ _ (b1 _ (by simp [zar])) (b2 _ (by simp [zar]))) (one _ _ _ _ _ _ (b1 _ (by simp [zar])) (b2 _ (by simp [zar]))) (one _ _ _ _ _ _ (b1 _ (by simp [zar])) (b2 _ (by simp [zar])))]; kd_p
 have key : D.lst [.int (P * r1.1.1 - L * r2.1.1), .int (P * r1.1.2.1 - L * r2.1.2.1), .int (P * r1.1.2.2 - L * r2.1.2.2), .int (P * r1.2.1 - L * r2.2.1), .int (P * r1.2.2.1 - L * r2.2.2.1), .int (P * r1.2.2.2 - L * r2.2.2.2)] = .lst ((zar (zeq a b c d e)).map .int) := by rw [bw]; rfl
 rw [key, zp4 (ns := zar (zeq a b c d e)) bn zn (by decide) (by simp [zar])]; kd_p
 rw [<- ziz]
theorem zjx {n k : Nat} {q : P6} {p : P3} (hq : B6 n q) (hp : BP k p) (hn : n + k + k <= 9000) : zcN [zp3 q, ptD p] = .ok (.bl (decide (qv q p = 0))) := by
 have m1 : ∀ {a b : Int}, B k a -> B k b -> za1 (.int a) (.int b) = .ok (.int (a * b)) := fun ha hb => zag _ _ (zal ha (by omega)) (zal hb (by omega))
 have one : ∀ (x y : Int) (s0 s1 s2 s3 s4 s5 : Option D), B n x -> B (k + k) y -> (eOp za1 (zae 0) (zae 1)) [some (.int x), some (.int y), s0, s1, s2, s3, s4, s5] = .ok (.int (x * y)) := fun x y s0 s1 s2 s3 s4 s5 hx hy => by
  kd_p
  rw [zag _ _ (zal hx (by omega)) (zal hy (by omega))]
 rw [zjZ]; unfold zfT; kd_p
 unfold zhC; kd_p
 unfold zhB; kd_p
 unfold zhA; kd_p
 rw [m1 hp.x hp.x, m1 hp.y hp.y, m1 hp.z hp.z, m1 hp.x hp.y, m1 hp.x hp.z, m1 hp.y hp.z]; kd_p
 unfold zhz; kd_p
 rw [show zh5 [zp3 q, .tup [.int (p.1 * p.1), .int (p.2.1 * p.2.1), .int (p.2.2 * p.2.2), .int (p.1 * p.2.1), .int (p.1 * p.2.2), .int (p.2.1 * p.2.2)]] = .ok [.tup [.int q.1.1, .int (p.1 * p.1)], .tup [.int q.1.2.1, .int (p.2.1 * p.2.1)], .tup [.int q.1.2.2, .int (p.2.2 * p.2.2)], .tup [.int q.2.1, .int (p.1 * p.2.1)], .tup [.int q.2.2.1, .int (p.1 * p.2.2)], .tup [.int q.2.2.2, .int (p.2.1 * p.2.2)]] from rfl,
  zsZ (one _ _ _ _ _ _ _ _ (hq _ (by simp [zar])) (hp.x.mul hp.x)) (one _ _ _ _ _ _ _ _ (hq _ (by simp [zar])) (hp.y.mul hp.y)) (one _ _ _ _ _ _ _ _ (hq _ (by simp [zar])) (hp.z.mul hp.z)) (one _ _ _ _ _ _ _ _ (hq _ (by simp [zar])) (hp.x.mul hp.y)) (one _ _ _ _ _ _ _ _ (hq _ (by simp [zar])) (hp.x.mul hp.z)) (one _ _ _ _ _ _ _ _ (hq _ (by simp [zar])) (hp.y.mul hp.z))]; kd_p
 rw [show zs8 [.lst [.int (q.1.1 * (p.1 * p.1)), .int (q.1.2.1 * (p.2.1 * p.2.1)), .int (q.1.2.2 * (p.2.2 * p.2.2)), .int (q.2.1 * (p.1 * p.2.1)), .int (q.2.2.1 * (p.1 * p.2.2)), .int (q.2.2.2 * (p.2.1 * p.2.2))]] = .ok (.int (q.1.1 * (p.1 * p.1) + (q.1.2.1 * (p.2.1 * p.2.1) + (q.1.2.2 * (p.2.2 * p.2.2) + (q.2.1 * (p.1 * p.2.1) + (q.2.2.1 * (p.1 * p.2.2) + (q.2.2.2 * (p.2.1 * p.2.2) + 0))))))) from rfl,
  show q.1.1 * (p.1 * p.1) + (q.1.2.1 * (p.2.1 * p.2.1) + (q.1.2.2 * (p.2.2 * p.2.2) + (q.2.1 * (p.1 * p.2.1) + (q.2.2.1 * (p.1 * p.2.2) + (q.2.2.2 * (p.2.1 * p.2.2) + 0))))) = qv q p from by unfold qv; grind]; kd_p
end LmT
open L2 DL Mir
namespace Lk46
open Mth LmP LmD LmB LmE LmF LmH
theorem crossing_ok {n : Nat} {p q : P3} (hp : BP n p) (hq : BP n q) (hn : n <= 4000) (hne : p ≠ q) (hL : Nz (crs p q)) : zbK [ptD p, ptD q] = .ok (ptD (low (crs p q))) := by
 rw [zfF]; unfold zck; kd_p
 rw [zhF hp hq hn hne hL]; kd_p
end Lk46
open L2 DL Mir
namespace LmV
open Mth LmP LmD LmB LmE LmF LmH LmI LmJ LmM LmQ LmS LmT
abbrev S2 := List P3 × List P3
structure De where
 w : Bool
 a : Nat
 b : Nat
def De.D (d : De) : D := .tup [.str (bif d.w then "peg" else "line"), .int (d.a : Int), .int (d.b : Int)]
def lof (s : S2) (w : Bool) : List P3 := bif w then s.2 else s.1
def fresh (s : S2) (d : De) : P3 := low (crs (pk (lof s d.w) d.a) (pk (lof s d.w) d.b))
def stp (s : S2) (d : De) : S2 := bif d.w then (s.1 ++ [fresh s d], s.2) else (s.1, s.2 ++ [fresh s d])
structure OkD (s : S2) (d : De) : Prop where
 a : d.a < (lof s d.w).length
 b : d.b < (lof s d.w).length
 ne : pk (lof s d.w) d.a ≠ pk (lof s d.w) d.b
structure Fine (s : S2) : Prop where
 p : ∀ p ∈ s.1, Nrm p /\ BP 1000 p
 l : ∀ p ∈ s.2, Nrm p /\ BP 1000 p
theorem Fine.of {s : S2} (h : Fine s) (w : Bool) : ∀ p ∈ lof s w, Nrm p /\ BP 1000 p := by
 cases w
 ·exact h.p
 ·exact h.l
inductive Wk : S2 -> List De -> S2 -> Prop
 | nil (s : S2) : Wk s [] s
 | cons {s t : S2} {d : De} {ds : List De} : OkD s d -> Fine (stp s d) -> Wk (stp s d) ds t -> Wk s (d :: ds) t
theorem zs0 (s : S2) (d : De) : (stp s d).1.length + (stp s d).2.length = s.1.length + s.2.length + 1 := by
 unfold stp
 cases d.w
 ·show s.1.length + (s.2 ++ [fresh s d]).length = _; simp; omega
 ·show (s.1 ++ [fresh s d]).length + s.2.length = _; simp; omega
theorem zoA (w : Bool) (i j : Int) : zb4 [.tup [.str (bif w then "peg" else "line"), .int i, .int j]] = .ok (.bl true) := by
 rw [zgC]; unfold zcL; kd_p
 unfold zeg; kd_p
 rw [show ∀ x : Str, g2 zet [.str x, .ty "str"] = .ok (.bl true) from fun _ => rfl]; kd_p
 have e : zoO (.str (bif w then "peg" else "line")) (.tup [.str "line", .str "peg"]) = .ok (.bl false) := by cases w <;> rfl
 rw [e]; kd_p
 unfold zef; kd_p
 rw [show ∀ i : Int, zaR [.int i] = .ok (.bl true) from fun _ => rfl]; kd_p
 rw [show ∀ i : Int, zaR [.int i] = .ok (.bl true) from fun _ => rfl]; kd_p
theorem zlA (w i j at_ : D) (l : List D) (n : Int) (h : 0 <= n /\ n < (l.length : Int)) (x y : Option D) : zdm [some (.lst l), some (.tup [w, i, j]), some at_, some (.int n), x, y] = .ok (.nx [some (.lst l), some (.tup [w, i, j]), some at_, some (.int n), x, y]) := by
 unfold zdm; kd_p
 rw [decide_eq_true h.1, decide_eq_true h.2]; kd_p
theorem zs1 (w : D) (at_ : D) (l : List P3) (a b : Nat) (ha : a < l.length) (hb : b < l.length) (h : pk l a ≠ pk l b) : zaS [.lst (l.map ptD), .tup [w, .int (a : Int), .int (b : Int)], at_] = .ok (.tup [ptD (pk l a), ptD (pk l b)]) := by
 rw [zgD]; unfold zcM; kd_p
 rw [zlA _ _ _ _ _ _ (by rw [xag]; omega)]; kd_p
 rw [zlA _ _ _ _ _ _ (by rw [xag]; omega)]; kd_p
 unfold zek; kd_p
 rw [Fl.ix ha]; kd_p
 unfold zej; kd_p
 rw [Fl.ix hb]; kd_p
 unfold zei; kd_p
 rw [decide_eq_false (fun z => h ((eqP _ _).mp z))]; kd_p
 unfold zeh; kd_p
theorem zp5 (i j : Nat) (fb : DSt -> R Out) (x y : D) (ds : List D) (O : DSt) : zgb [i, j] (zbM 2) fb (.tup [x, y] :: ds) O = zgU (fb ((O.set i (some x)).set j (some y))) (zgb [i, j] (zbM 2) fb ds) := by
 show (fb ((O.set i (some x)).set j (some y))).bind _ = _
 unfold zgU
 cases fb ((O.set i (some x)).set j (some y)) with
 | ok o => cases o <;> rfl
 | err e => rfl
 | bad => rfl
theorem zvL (a b : D) : gIx (.tup [a, b]) (.int 0) = .ok a := rfl
theorem zs9 (a b : D) : gIx (.tup [a, b]) (.int 1) = .ok b := rfl
theorem zvm (p q : P3) : imm (.tup [ptD p, ptD q]) = true := rfl
theorem zoB {s : S2} {d : De} (f : Fine s) (o : OkD s d) (hl : s.1.length + s.2.length <= 900) (pl pn x : Option D) (at_ : D) :
  ∃ y, zba [pl, pn, some (.lst (s.1.map ptD)), some (.lst (s.2.map ptD)), some at_, some d.D, x] = .ok (.nx [pl, pn, some (.lst ((stp s d).1.map ptD)), some (.lst ((stp s d).2.map ptD)), some at_, some d.D, y]) := by
 obtain ⟨w, a, b⟩ := d
 obtain ⟨ha, hb, hne⟩ := o
 have F := f.of w
 have na := F _ (zgK ha)
 have nb := F _ (zgK hb)
 have hz := zd0 na.1 nb.1 hne
 refine ⟨some (.tup [ptD (pk (lof s w) a), ptD (pk (lof s w) b)]), ?_⟩
 have pr := zs1 (.str (bif w then "peg" else "line")) at_ (lof s w) a b ha hb hne
 have hd := zoA w (a : Int) (b : Int)
 unfold zba
 show zaC _ _ [pl, pn, some (.lst (s.1.map ptD)), some (.lst (s.2.map ptD)), some at_, some (.tup [.str (bif w then "peg" else "line"), .int (a : Int), .int (b : Int)]), x] = _
 kd_p
 rw [hd]; kd_p
 unfold zds
 cases w with
 | false =>
  rw [cond_false] at pr ⊢
  kd_p
  rw [show gEq (.str "line") (.str "line") = .ok (.bl true) from rfl]; kd_p
  unfold zc9; kd_p
  rw [zgh]; kd_p
  rw [show zaS [.lst (s.1.map ptD), .tup [.str "line", .int (a : Int), .int (b : Int)], at_] = _ from pr, zh2 _ _ _ (zvm _ _)]; kd_p
  unfold zcs; kd_p
  rw [zvL, zs9]; kd_p
  rw [LmB.through_v1 na.2 nb.2 (by decide) hne hz, zev _ _ _ _ (by rw [xag]; omega)]; kd_p
  rw [show stp s ⟨false, a, b⟩ = (s.1, s.2 ++ [low (crs (pk (lof s false) a) (pk (lof s false) b))]) from rfl, xb2]; rfl
 | true =>
  rw [cond_true] at pr ⊢
  kd_p
  rw [show gEq (.str "peg") (.str "line") = .ok (.bl false) from rfl]; kd_p
  unfold zda; kd_p
  rw [zgh]; kd_p
  rw [show zaS [.lst (s.2.map ptD), .tup [.str "peg", .int (a : Int), .int (b : Int)], at_] = _ from pr, zh2 _ _ _ (zvm _ _)]; kd_p
  unfold zct; kd_p
  rw [zvL, zs9]; kd_p
  rw [Lk46.crossing_ok na.2 nb.2 (by decide) hne hz, zev _ _ _ _ (by rw [xag]; omega)]; kd_p
  rw [show stp s ⟨true, a, b⟩ = (s.1 ++ [low (crs (pk (lof s true) a) (pk (lof s true) b))], s.2) from rfl, xb2]; rfl
theorem zoC {s t : S2} {ds : List De} (h : Wk s ds t) : Fine s -> s.1.length + s.2.length + ds.length <= 900 -> ∀ (k : Nat) (pl pn x1 x2 x3 : Option D), ∃ y1 y2 y3, zgb [4, 5] (zbM 2) zba (zgW k (ds.map De.D)) [pl, pn, some (.lst (s.1.map ptD)), some (.lst (s.2.map ptD)), x1, x2, x3] =
  .ok (.nx [pl, pn, some (.lst (t.1.map ptD)), some (.lst (t.2.map ptD)), y1, y2, y3]) := by
 induction h with
 | nil s => exact fun _ _ k pl pn x1 x2 x3 => ⟨x1, x2, x3, rfl⟩
 | @cons s t d ds o f' _ ih =>
  intro f hl k pl pn x1 x2 x3
  rw [xas] at hl
  obtain ⟨y, e⟩ := zoB f o (by omega) pl pn x3 (.int (k : Int))
  obtain ⟨y1, y2, y3, e2⟩ := ih f' (by rw [zs0]; omega) (k + 1) pl pn (some (.int (k : Int))) (some d.D) y
  refine ⟨y1, y2, y3, ?_⟩
  rw [xa7, zgW, zp5]
  show zgU (zba [pl, pn, some (.lst (s.1.map ptD)), some (.lst (s.2.map ptD)), some (.int (k : Int)), some d.D, x3]) _ = _
  rw [e, zfO, e2]
theorem zoD {ps : List P3} {ds : List De} {t : S2} (f : Fine (ps, [])) (h : Wk (ps, []) ds t) (hl : ps.length + ds.length <= 900) : zcu [.lst (ps.map ptD), .lst (ds.map De.D)] = .ok (.tup [.lst (t.1.map ptD), .lst (t.2.map ptD)]) := by
 obtain ⟨y1, y2, y3, e⟩ := zoC h f (by simpa using hl) 0 (some (.lst (ps.map ptD))) (some (.lst (ds.map De.D))) none none none
 rw [zgY]; unfold zdn; kd_p
 rw [show (ziR [.lst (ps.map ptD)]).noerr = .ok (ps.map ptD) from rfl]; kd_p
 unfold zeU; kd_p
 unfold zeT; kd_p
 rw [show zex [.lst (ds.map De.D)] = .ok (zgW 0 (ds.map De.D)) from rfl]; kd_p
 rw [show zgb [4, 5] (zbM 2) zba (zgW 0 (ds.map De.D)) [some (.lst (ps.map ptD)), some (.lst (ds.map De.D)), some (.lst (ps.map ptD)), some (.lst []), none, none, none] = _ from e]; kd_p
 unfold zeS; kd_p
def zvM : List De := [⟨false, 0, 5⟩, ⟨false, 2, 3⟩, ⟨true, 0, 1⟩, ⟨false, 0, 1⟩, ⟨false, 3, 4⟩, ⟨true, 2, 3⟩, ⟨false, 6, 7⟩, ⟨false, 1, 2⟩, ⟨true, 4, 5⟩, ⟨false, 4, 8⟩, ⟨true, 0, 6⟩]
theorem zvn : zlq = .lst (zvM.map De.D) := rfl
theorem Fine.line {ps ls : List P3} {l : P3} (f : Fine (ps, ls)) (h : Nrm l /\ BP 1000 l) : Fine (ps, ls ++ [l]) := ⟨f.p, fun p hp => (xbd.mp hp).elim (f.l p) fun z => by rw [xbi.mp z]; exact h⟩
theorem Fine.peg {ps ls : List P3} {l : P3} (f : Fine (ps, ls)) (h : Nrm l /\ BP 1000 l) : Fine (ps ++ [l], ls) := ⟨fun p hp => (xbd.mp hp).elim (f.p p) fun z => by rw [xbi.mp z]; exact h, f.l⟩
theorem drawn {a b c d e p : P3} (h : Pts 24 [a, b, c, d, e]) (g : G5 a b c d e) (np : Nrm p) (bp : BP 320 p) (hne : p ≠ a) :
  Fine ([a, b, c, d, e, p], []) /\ ∃ ps ls, Wk ([a, b, c, d, e, p], []) zvM (ps, ls) /\ pk ps 9 = low (x9 a b c d e p) /\ ps.length = 10 /\ BP 1000 (low (x9 a b c d e p)) := by
 have na := h.nrm a (by simp)
 have nb := h.nrm b (by simp)
 have nc := h.nrm c (by simp)
 have nd := h.nrm d (by simp)
 have ne := h.nrm e (by simp)
 have ba := h.bd a (by simp)
 have bb := h.bd b (by simp)
 have bc := h.bd c (by simp)
 have bd := h.bd d (by simp)
 have be := h.bd e (by simp)
 have D := zt3 g (zd0 na np hne.symm)
 have b1 : BP 345 (low (crs a p)) := ((ba.crs bp).mono (by decide)).low D.l
 have b2 : BP 49 (low (crs c d)) := (bc.crs bd).low D.cd
 have b4 : BP 49 (low (crs a b)) := (ba.crs bb).low D.ab
 have b5 : BP 49 (low (crs d e)) := (bd.crs be).low D.de
 have b8 : BP 49 (low (crs b c)) := (bb.crs bc).low D.bc
 obtain ⟨z6, e6⟩ := ze7 D.l D.cd D.n6
 obtain ⟨z7, e7⟩ := ze7 D.ab D.de D.n7
 have e6 : low (crs (low (crs a p)) (low (crs c d))) = low (x6 a c d p) := e6
 have e7 : low (crs (low (crs a b)) (low (crs d e))) = low (x7 a b d e) := e7
 have b6 : BP 395 (low (x6 a c d p)) := by rw [<- e6]; exact (b1.crs b2).low z6
 have b7 : BP 99 (low (x7 a b d e)) := by rw [<- e7]; exact (b4.crs b5).low z7
 obtain ⟨z67, e67⟩ := ze7 D.n6 D.n7 D.l67
 have b67 : BP 495 (low (crs (x6 a c d p) (x7 a b d e))) := by rw [<- e67]; exact (b6.crs b7).low z67
 obtain ⟨z8, e8⟩ := ze7 D.l67 D.bc D.n8
 have e8 : low (crs (low (crs (x6 a c d p) (x7 a b d e))) (low (crs b c))) = low (x8 a b c d e p) := e8
 have b8' : BP 545 (low (x8 a b c d e p)) := by rw [<- e8]; exact (b67.crs b8).low z8
 obtain ⟨z48, e48⟩ := ze7 ne.nz D.n8 D.l48
 rw [ne.low] at z48 e48
 have b48 : BP 570 (low (crs e (x8 a b c d e p))) := by rw [<- e48]; exact (be.crs b8').low z48
 obtain ⟨z9, e9⟩ := ze7 D.l D.l48 D.n9
 have e9 : low (crs (low (crs a p)) (low (crs e (x8 a b c d e p)))) = low (x9 a b c d e p) := e9
 have b9 : BP 916 (low (x9 a b c d e p)) := by rw [<- e9]; exact (b1.crs b48).low z9
 have f0 : Fine ([a, b, c, d, e, p], []) := ⟨fun x hx => by
  simp only [xaf, xaq, or_false] at hx
  rcases hx with rfl | rfl | rfl | rfl | rfl | rfl
  ·exact ⟨na, ba.mono (by decide)⟩
  ·exact ⟨nb, bb.mono (by decide)⟩
  ·exact ⟨nc, bc.mono (by decide)⟩
  ·exact ⟨nd, bd.mono (by decide)⟩
  ·exact ⟨ne, be.mono (by decide)⟩
  ·exact ⟨np, bp.mono (by decide)⟩, by simp⟩
 have nz2 : ∀ {u v : P3}, Nz (crs u v) -> u ≠ v := fun h e => zf3 h (by rw [e]; exact zpi _)
 have k1 := ziC D.l D.cd D.n6
 have k2 := ziC D.ab D.de D.n7
 have k3 := ziC D.n6 D.n7 D.l67
 have k4 := ziC D.l67 D.bc D.n8
 have k5 := ziC D.l D.l48 D.n9
 have k6 := nz2 z48
 have w1 := zbi D.l
 have w2 := zbi D.cd
 have w3 := zbi D.n6
 have w4 := zbi D.ab
 have w5 := zbi D.de
 have w6 := zbi D.n7
 have w7 := zbi D.l67
 have w8 := zbi D.bc
 have w9 := zbi D.n8
 have w10 := zbi D.l48
 have w11 := zbi D.n9
 generalize hl1 : low (crs a p) = l1 at *
 generalize hl2 : low (crs c d) = l2 at *
 generalize hl3 : low (crs a b) = l3 at *
 generalize hl4 : low (crs d e) = l4 at *
 generalize hl6 : low (crs b c) = l6 at *
 generalize low (x6 a c d p) = p6 at *
 generalize low (x7 a b d e) = p7 at *
 generalize low (crs (x6 a c d p) (x7 a b d e)) = l5 at *
 generalize low (x8 a b c d e p) = p8 at *
 generalize low (crs e (x8 a b c d e p)) = l7 at *
 generalize low (x9 a b c d e p) = p9 at *
 have f1 := f0.line ⟨w1, b1.mono (by decide)⟩
 have f2 := f1.line ⟨w2, b2.mono (by decide)⟩
 have f3 := f2.peg ⟨w3, b6.mono (by decide)⟩
 have f4 := f3.line ⟨w4, b4.mono (by decide)⟩
 have f5 := f4.line ⟨w5, b5.mono (by decide)⟩
 have f6 := f5.peg ⟨w6, b7.mono (by decide)⟩
 have f7 := f6.line ⟨w7, b67.mono (by decide)⟩
 have f8 := f7.line ⟨w8, b8.mono (by decide)⟩
 have f9 := f8.peg ⟨w9, b8'.mono (by decide)⟩
 have f10 := f9.line ⟨w10, b48.mono (by decide)⟩
 have f11 := f10.peg ⟨w11, b9.mono (by decide)⟩
 have st : ∀ {s t u : S2} {d : De} {ds : List De}, OkD s d -> stp s d = t -> Fine t -> Wk t ds u -> Wk s (d :: ds) u := fun o e f w => .cons o (by rw [e]; exact f) (by rw [e]; exact w)
 refine ⟨f0, [a, b, c, d, e, p, p6, p7, p8, p9], [l1, l2, l3, l4, l5, l6, l7], ?_, rfl, rfl, b9.mono (by decide)⟩
 refine st ⟨by show 0 < 6; decide, by show 5 < 6; decide, hne.symm⟩ (by show (_, [] ++ [low (crs a p)]) = _; rw [hl1]) f1 ?_
 refine st ⟨by show 2 < 6; decide, by show 3 < 6; decide, nz2 D.cd⟩ (by show (_, [l1] ++ [low (crs c d)]) = _; rw [hl2]; rfl) f2 ?_
 refine st ⟨by show 0 < 2; decide, by show 1 < 2; decide, k1⟩ (by show (_ ++ [low (crs l1 l2)], _) = _; rw [e6]) f3 ?_
 refine st ⟨by show 0 < 7; decide, by show 1 < 7; decide, nz2 D.ab⟩ (by show (_, _ ++ [low (crs a b)]) = _; rw [hl3]) f4 ?_
 refine st ⟨by show 3 < 7; decide, by show 4 < 7; decide, nz2 D.de⟩ (by show (_, _ ++ [low (crs d e)]) = _; rw [hl4]) f5 ?_
 refine st ⟨by show 2 < 4; decide, by show 3 < 4; decide, k2⟩ (by show (_ ++ [low (crs l3 l4)], _) = _; rw [e7]) f6 ?_
 refine st ⟨by show 6 < 8; decide, by show 7 < 8; decide, k3⟩ (by show (_, _ ++ [low (crs p6 p7)]) = _; rw [e67]) f7 ?_
 refine st ⟨by show 1 < 8; decide, by show 2 < 8; decide, nz2 D.bc⟩ (by show (_, _ ++ [low (crs b c)]) = _; rw [hl6]) f8 ?_
 refine st ⟨by show 4 < 6; decide, by show 5 < 6; decide, k4⟩ (by show (_ ++ [low (crs l5 l6)], _) = _; rw [e8]) f9 ?_
 refine st ⟨by show 4 < 9; decide, by show 8 < 9; decide, k6⟩ (by show (_, _ ++ [low (crs e p8)]) = _; rw [e48]) f10 ?_
 refine st ⟨by show 0 < 7; decide, by show 6 < 7; decide, k5⟩ (by show (_ ++ [low (crs l1 l7)], _) = _; rw [e9]) f11 ?_
 exact .nil _
end LmV
open L2 DL Mir
namespace Lk77
open Mth LmP LmD LmB LmE LmF LmH LmI LmJ LmM LmQ LmS LmT
theorem G5.of {ps : List P3} (b : zly ps) {i j k l m : Nat} (hi : i < ps.length) (hj : j < ps.length) (hk : k < ps.length) (hl : l < ps.length) (hm : m < ps.length) (d : i ≠ j /\ i ≠ k /\ i ≠ l /\ i ≠ m /\ j ≠ k /\ j ≠ l /\ j ≠ m /\ k ≠ l /\ k ≠ m /\ l ≠ m) : G5 (pk ps i) (pk ps j) (pk ps k) (pk ps l) (pk ps m) := by
 obtain ⟨d1, d2, d3, d4, d5, d6, d7, d8, d9, d10⟩ := d
 exact ⟨b _ _ _ hi hj hk d1 d2 d5, b _ _ _ hi hj hl d1 d3 d6, b _ _ _ hi hj hm d1 d4 d7, b _ _ _ hi hk hl d2 d3 d8, b _ _ _ hi hk hm d2 d4 d9, b _ _ _ hi hl hm d3 d4 d10, b _ _ _ hj hk hl d5 d6 d8, b _ _ _ hj hk hm d5 d7 d9, b _ _ _ hj hl hm d6 d7 d10, b _ _ _ hk hl hm d8 d9 d10⟩
theorem eq_self' {d : D} (h : zdK 9 d = true) : gEq d d = .ok (.bl true) := by rw [zi8 (by unfold zlT; rw [h]; rfl), zfL 9 _ h]
theorem zdq {d : D} (h : d = .non \/ d = .str "a" \/ d = .tup [.int 0, .int 0, .int 0] \/ d = .tup [.int 2, .int 0, .int 2] \/ d = .tup [.int 1, .int 0] \/ d = .lst [.int 1, .int 0, .int 1] \/ d = .tup [.bl true, .int 0, .int 1]) : zas [d] = .ok (.bl false) := by
 rcases h with rfl | rfl | rfl | rfl | rfl | rfl | rfl
 ·rw [za2]; unfold za9; rfl
 ·rw [za2]; unfold za9; rfl
 ·exact zl3
 ·have nz : Nz (2, 0, 2) := fun q => absurd (show (2 : Int) = 0 from q.1) (by decide)
  have bt : BP 24 (2, 0, 2) := ⟨B.of (k := 2) (by decide), B.of (k := 2) (by decide), B.of (k := 2) (by decide)⟩
  rw [show D.tup [.int 2, .int 0, .int 2] = t3 2 0 2 from rfl, zhE (x := 2) (y := 0) (z := 2) bt.x bt.y bt.z nz (by decide), decide_eq_false (by decide)]
 ·rw [za2]; unfold za9; rfl
 ·exact Lk02.list_no _
 ·exact Lk02.is_place_odd ⟨rfl, rfl, rfl, rfl⟩
theorem floor_o {d : D} (h : (∃ xs, d = .tup xs) \/ d = .non \/ d = .lst []) : zaz [d] = .ok (.bl false) := by
 rw [zb8]; unfold zbo
 rcases h with ⟨xs, rfl⟩ | rfl | rfl <;> rfl
theorem odd_ok (r : Int) : ∃ o, gIx (.lst [.non, .str "a", .tup [.int 0, .int 0, .int 0], .tup [.int 2, .int 0, .int 2], .tup [.int 1, .int 0], .lst [.int 1, .int 0, .int 1], .tup [.bl true, .int 0, .int 1]]) (.int (r % 7)) = .ok o /\ zas [o] = .ok (.bl false) := by
 rcases (show r % 7 = 0 \/ r % 7 = 1 \/ r % 7 = 2 \/ r % 7 = 3 \/ r % 7 = 4 \/ r % 7 = 5 \/ r % 7 = 6 by omega) with z | z | z | z | z | z | z <;> rw [z]
 ·exact ⟨_, rfl, zdq (.inl rfl)⟩
 ·exact ⟨_, rfl, zdq (.inr (.inl rfl))⟩
 ·exact ⟨_, rfl, zdq (.inr (.inr (.inl rfl)))⟩
 ·exact ⟨_, rfl, zdq (.inr (.inr (.inr (.inl rfl))))⟩
 ·exact ⟨_, rfl, zdq (.inr (.inr (.inr (.inr (.inl rfl)))))⟩
 ·exact ⟨_, rfl, zdq (.inr (.inr (.inr (.inr (.inr (.inl rfl))))))⟩
 ·exact ⟨_, rfl, zdq (.inr (.inr (.inr (.inr (.inr (.inr rfl))))))⟩
theorem lstK_7 (a b c d e f g : D) : zpG (.ok [a, b, c, d, e, f, g]) = .ok [a, b, c, d, e, f, g] := rfl
end Lk77
open L2 DL Mir
namespace Lk80
open Mth LmP LmD LmB LmE LmF LmH LmI LmJ LmM LmQ LmS LmT LmV
theorem map5 (a b c d e : P3) : [a, b, c, d, e].map ptD = [ptD a, ptD b, ptD c, ptD d, ptD e] := rfl
theorem zvo (a b c d e p : P3) : [a, b, c, d, e, p].map ptD = [ptD a, ptD b, ptD c, ptD d, ptD e, ptD p] := rfl
theorem zw4 {a b c d e : P3} (h : Pts 24 [a, b, c, d, e]) (hb : zly [a, b, c, d, e]) : zan [.lst [ptD a, ptD b, ptD c, ptD d, ptD e], .int 5] = .ok .non := by
 have k := zh9 h (by show 3 <= 5; decide) (by show 5 <= 12; decide) hb
 rw [map5, show ([a, b, c, d, e] : List P3).length = 5 from rfl, show ((5 : Nat) : Int) = 5 from rfl] at k
 exact k
theorem zw5 {a b c d e p : P3} (h : Pts 32 [a, b, c, d, e, p]) (hb : zly [a, b, c, d, e, p]) : zan [.lst [ptD a, ptD b, ptD c, ptD d, ptD e, ptD p], .int 6] = .ok .non := by
 have k := zh9 h (by show 3 <= 6; decide) (by show 6 <= 12; decide) hb
 rw [zvo, show ([a, b, c, d, e, p] : List P3).length = 6 from rfl, show ((6 : Nat) : Int) = 6 from rfl] at k
 exact k
theorem zoE {a b c d e p : P3} (hb : zly [a, b, c, d, e, p]) : zly [a, b, c, d, e] := by
 have g : ∀ n, n < 5 -> pk [a, b, c, d, e] n = pk [a, b, c, d, e, p] n := fun n hn => by
  match n, hn with
  | 0, _ => rfl
  | 1, _ => rfl
  | 2, _ => rfl
  | 3, _ => rfl
  | 4, _ => rfl
 intro i j k hi hj hk d1 d2 d3
 have hi : i < 5 := hi
 have hj : j < 5 := hj
 have hk : k < 5 := hk
 rw [g i hi, g j hj, g k hk]
 exact hb i j k (show i < 6 by omega) (show j < 6 by omega) (show k < 6 by omega) d1 d2 d3
theorem ix5 (a b c d e : D) : gIx (.lst [a, b, c, d, e]) (.int 0) = .ok a := rfl
theorem zlB {a b c d e p : P3} (h : Pts 24 [a, b, c, d, e]) (hb : zly [a, b, c, d, e]) (g : G5 a b c d e) (np : Nrm p) (bp : BP 320 p) (hne : p ≠ a) :
  zbR [.lst [ptD a, ptD b, ptD c, ptD d, ptD e], ptD p] = .ok (ptD (low (x9 a b c d e p))) /\ BP 1000 (low (x9 a b c d e p)) := by
 obtain ⟨f, ps, ls, W, e9, l10, b9⟩ := drawn h g np bp hne
 refine ⟨?_, b9⟩
 have wk := zoD f W (by show 6 + 11 <= 900; decide)
 rw [zh8]; unfold zd6; kd_p
 rw [zw4 h hb]; kd_p
 unfold zfr; kd_p
 rw [ix5]; kd_p
 rw [decide_eq_false (fun z => hne ((eqP _ _).mp z))]; kd_p
 unfold zfq; kd_p
 rw [Lk42.gAdd_ll (by simp), zvn, show (ziR [.lst (zvM.map De.D)]).noerr = .ok (zvM.map De.D) from rfl]; kd_p
 rw [show [ptD a, ptD b, ptD c, ptD d, ptD e] ++ [ptD p] = [a, b, c, d, e, p].map ptD from rfl, wk]; kd_p
 rw [zvL, show zlr = .int ((9 : Nat) : Int) from rfl]; kd_p
 rw [Fl.ix (by omega), e9]; kd_p
theorem zoF {ps : List P3} (h : Pts 32 ps) {w : D} (hw : zas [w] = .ok (.bl false)) (hl : ps.length <= 11) {ds : List D} (hd : ds = ps.map ptD ++ [w] \/ ds = w :: ps.map ptD) : zaz [.lst ds] = .ok (.bl false) := by
 have pl : ∀ e ∈ ps.map ptD, ∃ b, zas [e] = .ok (.bl b) := fun e he => by
  obtain ⟨p, hp, rfl⟩ := xbf.mp he
  exact ⟨true, zfy (h.bd p hp) (h.nrm p hp) (by decide)⟩
 rcases hd with rfl | rfl
 ·refine zlw (w := w) (by simp) (by simp; omega) (fun e he => ?_) (by simp) hw
  rcases xbd.mp he with he | he
  ·exact pl e he
  ·rw [xbi.mp he]; exact ⟨false, hw⟩
 ·refine zlw (w := w) (by simp) (by simp; omega) (fun e he => ?_) (by simp) hw
  rcases xaf.mp he with rfl | he
  ·exact ⟨false, hw⟩
  ·exact pl e he
theorem zfz {x : D} (h : zan [x, .int 6] = .err (.exc "NoBow" [])) : zgZ [x] = .err (.exc "NoBow" []) := by
 rw [zls]; unfold zom; kd_p
 rw [h]; kd_p
theorem zrn {x : D} (h : zgZ [x] = .err (.exc "NoBow" [])) : zaM [x] = .ok (.bl true) := by
 rw [zeA]; unfold zbu; kd_p
 unfold zcX; kd_p
 rw [h]; kd_p
 rw [zpJ _ _ _ _ _ _ (show zjz "NoBow" "ChalkError" = some true by decide +kernel)]; kd_p
 unfold zcW; kd_p
 rw [znY (show zjz "NoBow" "NoBow" = some true by decide +kernel)]; kd_p
 rw [znY (show zjz "NoBow" "Same" = some false by decide +kernel)]; kd_p
theorem tk5 (a b c d e p : D) (O : DSt) : eSl (zae 0) zeu (zb0 (eC (.int 5))) (some (.lst [a, b, c, d, e, p]) :: O) = .ok (.lst [a, b, c, d, e]) := Lk42.eSl_to _ _ _ [a, b, c, d, e, p] 5 rfl rfl
theorem ix6 (a b c d e p : D) : gIx (.lst [a, b, c, d, e, p]) (.int 5) = .ok p := rfl
theorem zvp {a b c d e p : P3} (h : Pts 24 [a, b, c, d, e]) (np : Nrm p) (bp : BP 32 p) (h6 : Pts 32 [a, b, c, d, e, p]) (hb : zly [a, b, c, d, e, p]) (g : G5 a b c d e) (hne : p ≠ a) :
  zgZ [.lst [ptD a, ptD b, ptD c, ptD d, ptD e, ptD p]] = .ok (bif decide (qv (zfC (zeq a b c d e)) p = 0) then .tup [.str "bow", zp3 (zfC (zeq a b c d e))] else .tup [.str "off", ptD (low (x9 a b c d e p))]) := by
 have b5 := zoE hb
 obtain ⟨eb, B5⟩ := zrm h b5 g
 obtain ⟨ea, _⟩ := zlB h b5 g np (bp.mono (by decide)) hne
 rw [zls]; unfold zom; kd_p
 rw [zw5 h6 hb]; kd_p
 unfold zol; kd_p
 rw [tk5]; kd_p
 rw [eb]; kd_p
 unfold zok; kd_p
 rw [ix6]; kd_p
 rw [zjx B5 bp (by decide)]; kd_p
 by_cases hz : qv (zfC (zeq a b c d e)) p = 0
 ·rw [decide_eq_true hz]; kd_p
 ·rw [decide_eq_false hz]; kd_p
  unfold zoj; kd_p
  rw [tk5, ix6]; kd_p
  rw [ea]; kd_p
theorem zw6 {q : P6} {p : P3} (hq : B6 250 q) (hp : BP 32 p) (O0 O1 O2 O3 O4 O5 O6 O7 : Option D) :
  lcK 2 [0, 1] (zl0 [zp3 q, .lst [.int (p.1 * p.1), .int (p.2.1 * p.2.1), .int (p.2.2 * p.2.2), .int (p.1 * p.2.1), .int (p.1 * p.2.2), .int (p.2.1 * p.2.2)]]) (zbM 2) zbv (eOp za1 (zae 0) (zae 1)) [O0, O1, O2, O3, O4, O5, O6, O7] =
   .ok [.int (q.1.1 * (p.1 * p.1)), .int (q.1.2.1 * (p.2.1 * p.2.1)), .int (q.1.2.2 * (p.2.2 * p.2.2)), .int (q.2.1 * (p.1 * p.2.1)), .int (q.2.2.1 * (p.1 * p.2.2)), .int (q.2.2.2 * (p.2.1 * p.2.2))] := by
 have one : ∀ (x y : Int), B 250 x -> B (32 + 32) y -> (eOp za1 (zae 0) (zae 1)) [some (.int x), some (.int y), O0, O1, O2, O3, O4, O5, O6, O7] = .ok (.int (x * y)) := fun x y hx hy => by
  kd_p
  rw [zag _ _ (zal hx (by decide)) (zal hy (by decide))]
 rw [show zl0 [zp3 q, .lst [.int (p.1 * p.1), .int (p.2.1 * p.2.1), .int (p.2.2 * p.2.2), .int (p.1 * p.2.1), .int (p.1 * p.2.2), .int (p.2.1 * p.2.2)]] = .ok [.tup [.int q.1.1, .int (p.1 * p.1)], .tup [.int q.1.2.1, .int (p.2.1 * p.2.1)], .tup [.int q.1.2.2, .int (p.2.2 * p.2.2)], .tup [.int q.2.1, .int (p.1 * p.2.1)], .tup [.int q.2.2.1, .int (p.1 * p.2.2)], .tup [.int q.2.2.2, .int (p.2.1 * p.2.2)]] from rfl,
  zsZ (one _ _ (hq _ (by simp [zar])) (hp.x.mul hp.x)) (one _ _ (hq _ (by simp [zar])) (hp.y.mul hp.y)) (one _ _ (hq _ (by simp [zar])) (hp.z.mul hp.z)) (one _ _ (hq _ (by simp [zar])) (hp.x.mul hp.y)) (one _ _ (hq _ (by simp [zar])) (hp.x.mul hp.z)) (one _ _ (hq _ (by simp [zar])) (hp.y.mul hp.z))]
theorem zp6 {a b c d e p : P3} (h : Pts 24 [a, b, c, d, e]) (np : Nrm p) (bp : BP 32 p) : zbr [.lst [ptD a, ptD b, ptD c, ptD d, ptD e, ptD p]] = .ok (.bl true) := by
 have dat : zdK 9 (.lst [ptD a, ptD b, ptD c, ptD d, ptD e, ptD p]) = true := rfl
 have h6 : Pts 32 [a, b, c, d, e, p] := Pts.snoc (ps := [a, b, c, d, e]) ⟨h.nrm, fun p hp => (h.bd p hp).mono (by decide)⟩ np bp
 rw [zfg]; unfold zbX; kd_p
 rw [show (ziR [.lst [ptD a, ptD b, ptD c, ptD d, ptD e, ptD p]]).noerr = .ok [ptD a, ptD b, ptD c, ptD d, ptD e, ptD p] from rfl]; kd_p
 unfold zdD; kd_p
 have el := zp2 h6 (by show 6 <= 100; decide)
 rw [zvo] at el
 rw [el]
 rcases zgM [a, b, c, d, e, p] with ⟨et, nb⟩ | ⟨et, hb⟩
 ·rw [et, show (some (D.bl true)).getD (.bl false) = .bl true from rfl]; kd_p
  have bn := zj3 h6 (by show 1 <= 6; decide) (by show 6 <= 12; decide) (n := 6) (.inr nb)
  rw [zvo, show ((6 : Nat) : Int) = 6 from rfl] at bn
  rw [zrn (zfz bn)]; kd_p
  rw [Lk77.eq_self' dat]; kd_p
 ·rw [et, show (none : Option D).getD (.bl false) = .bl false from rfl]; kd_p
  have b5 := zoE hb
  have g : G5 a b c d e := Lk77.G5.of (i := 0) (j := 1) (k := 2) (l := 3) (m := 4) b5 (by show 0 < 5; decide) (by show 1 < 5; decide) (by show 2 < 5; decide) (by show 3 < 5; decide) (by show 4 < 5; decide) (by decide)
  have hne : p ≠ a := fun z => hb 0 1 5 (by show 0 < 6; decide) (by show 1 < 6; decide) (by show 5 < 6; decide) (by decide) (by decide) (by decide) (by
   show C3 a b p
   rw [z]; exact C3.aba _ _)
  have na := h.nrm a (by simp)
  have ba := h.bd a (by simp)
  have es := zvp h np bp h6 hb g hne
  obtain ⟨ea, b9⟩ := zlB h b5 g np (bp.mono (by decide)) hne
  obtain ⟨eb, B5⟩ := zrm h b5 g
  have o := zmO g
  have nzl := zd0 na np (xax hne)
  have D := zt3 g nzl
  have nm := o.meet_nz nzl
  rw [D.low9 g] at es ea b9
  generalize hq : zfC (zeq a b c d e) = q at *
  have nr := zbi nm
  have qm : qv q (low (ziD q a p)) = 0 := by
   have e1 := zr6 o.a p
   rw [zdh nm, zqj] at e1
   exact za0 (zbE (zcA nm).1 (zcA nm).1) e1
  have dm : zaf a p (low (ziD q a p)) = 0 := by
   have e1 := zpm q a p
   rw [zdh nm] at e1
   refine za0 (zcA nm).1 ?_
   rw [<- e1]
   generalize sOf (ziD q a p) = s
   generalize low (ziD q a p) = x
   unfold zaf tms dot crs; grind
  unfold zdC; kd_p
  rw [es]
  have m1 : ∀ {i j : Int}, B 32 i -> B 32 j -> za1 (.int i) (.int j) = .ok (.int (i * j)) := fun hi hj => zag _ _ (zal hi (by decide)) (zal hj (by decide))
  have mid : ∀ y : DL.D, zcb [some (.lst [ptD a, ptD b, ptD c, ptD d, ptD e, ptD p]), some (.lst [ptD a, ptD b, ptD c, ptD d, ptD e, ptD p]), some y, none, none, none, none, none] =
    bif decide (qv q p = 0) then (zvE (opK gEq (.ok y) (.ok (.tup [.str "bow", zp3 q])))) else zca [some (.lst [ptD a, ptD b, ptD c, ptD d, ptD e, ptD p]), some (.lst [ptD a, ptD b, ptD c, ptD d, ptD e, ptD p]), some y, some (zp3 q), some (.int p.1), some (.int p.2.1), some (.int p.2.2), some (.lst [.int (p.1 * p.1), .int (p.2.1 * p.2.1), .int (p.2.2 * p.2.2), .int (p.1 * p.2.1), .int (p.1 * p.2.2), .int (p.2.1 * p.2.2)])] := fun y => by
   unfold zcb; kd_p
   rw [tk5]; kd_p
   rw [eb]; kd_p
   unfold zdB; kd_p
   rw [ix6]; kd_p
   unfold zdA; kd_p
   rw [m1 bp.x bp.x, m1 bp.y bp.y, m1 bp.z bp.z, m1 bp.x bp.y, m1 bp.x bp.z, m1 bp.y bp.z]; kd_p
   unfold zdz; kd_p
   rw [zw6 B5 bp]; kd_p
   rw [show zs8 [.lst [.int (q.1.1 * (p.1 * p.1)), .int (q.1.2.1 * (p.2.1 * p.2.1)), .int (q.1.2.2 * (p.2.2 * p.2.2)), .int (q.2.1 * (p.1 * p.2.1)), .int (q.2.2.1 * (p.1 * p.2.2)), .int (q.2.2.2 * (p.2.1 * p.2.2))]] = .ok (.int (q.1.1 * (p.1 * p.1) + (q.1.2.1 * (p.2.1 * p.2.1) + (q.1.2.2 * (p.2.2 * p.2.2) + (q.2.1 * (p.1 * p.2.1) + (q.2.2.1 * (p.1 * p.2.2) + (q.2.2.2 * (p.2.1 * p.2.2) + 0))))))) from rfl,
    show q.1.1 * (p.1 * p.1) + (q.1.2.1 * (p.2.1 * p.2.1) + (q.1.2.2 * (p.2.2 * p.2.2) + (q.2.1 * (p.1 * p.2.1) + (q.2.2.1 * (p.1 * p.2.2) + (q.2.2.2 * (p.2.1 * p.2.2) + 0))))) = qv q p from by unfold qv; grind]; kd_p
   cases decide (qv q p = 0) with
   | true => rw [zst]; kd_p; cases gEq y (.tup [.str "bow", zp3 q]) <;> rfl
   | false => rw [zsu]; kd_p
  by_cases hz : qv q p = 0
  ·rw [decide_eq_true hz, cond_true] at *; kd_p
   unfold zcc; kd_p
   rw [Lk12.ne_same dat]; kd_p
   rw [mid, cond_true]
   kd_p
   rw [Lk77.eq_self' rfl]; kd_p
  ·rw [decide_eq_false hz, cond_false] at *; kd_p
   unfold zcc; kd_p
   rw [Lk12.ne_same dat]; kd_p
   rw [mid, cond_false]
   unfold zca; kd_p
   rw [zvL]; kd_p
   rw [show gNe (.str "off") (.str "off") = .ok (.bl false) from rfl]; kd_p
   rw [zs9, ix6]; kd_p
   rw [decide_eq_false (fun z => hz (by rw [<- (eqP (low (ziD q a p)) p).mp z]; exact qm))]; kd_p
   rw [show ∀ a b c d e f : DL.D, gIx (.lst [a, b, c, d, e, f]) (.int 0) = .ok a from fun _ _ _ _ _ _ => rfl, ix6, zs9]; kd_p
   rw [zox (ba.mono (show 24 <= 1000 by decide)) (bp.mono (by decide)) b9 (by decide) (.inl ⟨rfl, rfl, rfl⟩), dm]; kd_p
   unfold zdy; kd_p
   rw [zs9]; kd_p
   rw [zjx B5 b9 (by decide), decide_eq_true qm]; kd_p
   rw [tk5, ix6]; kd_p
   rw [ea, zs9]; kd_p
   rfl
theorem zp7 {ds : List Int} {m : M3} (hl : ds.length = 12) (hm : BM 6 m) (hd : det m ≠ 0) : ∃ ps, zbc [.lst (ds.map .int), zeC m] = .ok (ps.map ptD) /\ Pts 24 ps /\ ps.length = 6 := by
 have turn : ∀ (j : Nat) (d : D) (O : DSt), ((rg 0 6).map fun k : Nat => D.int (k : Int))[j]? = some d -> (∃ ps x y z, O = [some (.lst (ds.map .int)), some (zeC m), some (.lst (ps.map ptD)), x, y, z] /\ ps.length = j /\ Pts 24 ps) -> ∃ O', (zaX (O.set 3 (some d)) = .ok (.nx O') \/ zaX (O.set 3 (some d)) = .ok (.ct O')) /\ ∃ ps x y z, O' = [some (.lst (ds.map .int)), some (zeC m), some (.lst (ps.map ptD)), x, y, z] /\ ps.length = j + 1 /\ Pts 24 ps := by
  rintro j d O hk ⟨ps, x, y, z, rfl, h1, h2⟩
  obtain ⟨i, hi, rfl⟩ := xbf.mp (xbe hk)
  have hi := (zcz.mp hi).2
  have hj : j < 6 := by
   have := (xaj.mp hk).1
   rw [xag] at this
   exact this
  have bi : zgT (i : Int) = true := zal (n := 4) (B.of (k := 6) (by omega)) (by decide)
  rw [show List.set _ 3 _ = [some (.lst (ds.map .int)), some (zeC m), some (.lst (ps.map ptD)), some (.int (i : Int)), y, z] from rfl]
  have last : ∀ t s : Int, -6 <= t /\ t <= 6 -> 0 <= s /\ s <= 3 -> ¬ (t = 0 /\ s = 0) -> ∃ O', (za6 [some (.lst (ds.map .int)), some (zeC m), some (.lst (ps.map ptD)), some (.int (i : Int)), some (.int t), some (.int s)] = .ok (.nx O') \/ za6 [some (.lst (ds.map .int)), some (zeC m), some (.lst (ps.map ptD)), some (.int (i : Int)), some (.int t), some (.int s)] = .ok (.ct O')) /\ ∃ ps x y z, O' = [some (.lst (ds.map .int)), some (zeC m), some (.lst (ps.map ptD)), x, y, z] /\ ps.length = j + 1 /\ Pts 24 ps := by
   intro t s ht hs hne
   have bt : B 3 t := B.of (k := 6) (by omega)
   have bs : B 3 s := B.of (k := 6) (by omega)
   have mt := zal bt (by decide)
   have ms := zal bs (by decide)
   have bp : BP 6 (t * t, t * s, s * s) := ⟨bt.mul bt, bt.mul bs, bs.mul bs⟩
   have nz : Nz (t * t, t * s, s * s) := fun q => hne ⟨(xaz.mp q.1).elim id id, (xaz.mp q.2.2).elim id id⟩
   have n2 := zqg hd nz
   unfold za6; kd_p
   rw [zag t t mt mt, zag t s mt ms, zag s s ms ms]; kd_p
   rw [show zbA [zeC m, .tup [.int (t * t), .int (t * s), .int (s * s)]] = _ from zw2 (p := (t * t, t * s, s * s)) hm bp (by decide) hd nz]
   rw [zev _ _ _ _ (by rw [xag]; omega)]
   exact ⟨_, .inl rfl, ps ++ [_], _, _, _, by rw [xb2]; rfl, by simp; omega, Pts.snoc h2 (zbi n2) (((hm.mul bp).low n2).mono (by decide))⟩
  unfold zaX; kd_p
  rw [zag 2 _ (by decide) bi]; kd_p
  rw [show 2 * (i : Int) = ((2 * i : Nat) : Int) by omega, ixd (by omega)]; kd_p
  rw [zau _ _ (by decide)]; kd_p
  unfold zcx; kd_p
  rw [zag 2 _ (by decide) bi]; kd_p
  rw [show 2 * (i : Int) + 1 = ((2 * i + 1 : Nat) : Int) by omega, ixd (by omega)]; kd_p
  rw [zau _ _ (by decide)]; kd_p
  have ht : -6 <= dg ds (2 * i) % 13 - 6 /\ dg ds (2 * i) % 13 - 6 <= 6 := by omega
  have hs : 0 <= dg ds (2 * i + 1) % 4 /\ dg ds (2 * i + 1) % 4 <= 3 := by omega
  generalize dg ds (2 * i) % 13 - 6 = t at ht
  generalize dg ds (2 * i + 1) % 4 = s at hs
  unfold zcw; kd_p
  by_cases h0 : t = 0
  ·rw [decide_eq_true h0]; kd_p
   by_cases s0 : s = 0
   ·rw [decide_eq_true s0]; kd_p
    exact last t 1 ht (by omega) (by omega)
   ·rw [decide_eq_false s0]; kd_p
    exact last t s ht hs (by omega)
  ·rw [decide_eq_false h0]; kd_p
   exact last t s ht hs (by omega)
 rw [zff]; unfold zbV; kd_p
 unfold zdx; kd_p
 rw [xag, hl, show zes (.int ((12 : Nat) : Int)) (.int 2) = .ok (.int ((6 : Nat) : Int)) from rfl]; kd_p
 rw [ze3 6 (by decide)]; kd_p
 obtain ⟨O', e, ps, x, y, z, rfl, h1, h2⟩ := zll (i := 3) (fb := zaX) (fun j O => ∃ ps x y z, O = [some (.lst (ds.map .int)), some (zeC m), some (.lst (ps.map ptD)), x, y, z] /\ ps.length = j /\ Pts 24 ps) _ turn [some (.lst (ds.map .int)), some (zeC m), some (.lst []), none, none, none] ⟨[], _, _, _, rfl, rfl, ⟨by simp, by simp⟩⟩
 rw [e]; kd_p
 exact ⟨ps, rfl, h2, by rw [h1]; rfl⟩
theorem six6 {ps : List P3} (h : ps.length = 6) : ∃ a b c d e p, ps = [a, b, c, d, e, p] := by
 match ps, h with
 | [a, b, c, d, e, p], _ => exact ⟨a, b, c, d, e, p, rfl⟩
theorem zvq {p q : P3} (np : Nrm p) (nq : Nrm q) (bp : BP 24 p) (bq : BP 24 q) (hne : p ≠ q) {m : Int} (hm : 1 <= m /\ m <= 5) : ∃ r, zdW [ptD p, ptD q, .int m] = .ok (ptD r) /\ Nrm r /\ BP 32 r := by
 have bm : B 3 m := B.of (k := 5) (by omega)
 have nz : Nz (zc7 1 m 0 p q q) := zlO fun z => zf3 (zd0 np nq hne) (by
  have e : crs (zc7 1 m 0 p q q) q = crs p q := by unfold crs zc7; exact xap (by grind) (xap (by grind) (by grind))
  rw [<- e, z]; unfold crs; simp)
 have e3 : zc7 1 m 0 p q q = (p.1 + m * q.1, p.2.1 + m * q.2.1, p.2.2 + m * q.2.2) := by unfold zc7; exact xap (by grind) (xap (by grind) (by grind))
 rw [e3] at nz
 have br : BP 28 (p.1 + m * q.1, p.2.1 + m * q.2.1, p.2.2 + m * q.2.2) := ⟨(bp.x.add (bm.mul bq.x)).mono (by decide), (bp.y.add (bm.mul bq.y)).mono (by decide), (bp.z.add (bm.mul bq.z)).mono (by decide)⟩
 have mm : ∀ {i : Int}, B 24 i -> za1 (.int m) (.int i) = .ok (.int (m * i)) := fun h => zag _ _ (zal bm (by decide)) (zal h (by decide))
 refine ⟨_, ?_, zbi nz, (br.low nz).mono (by decide)⟩
 rw [zjr]; unfold zeY; kd_p
 rw [mm bq.x]; kd_p
 unfold zgI; kd_p
 rw [mm bq.y]; kd_p
 unfold zgH; kd_p
 rw [mm bq.z]; kd_p
 rw [show zaq [.int (p.1 + m * q.1), .int (p.2.1 + m * q.2.1), .int (p.2.2 + m * q.2.2)] = _ from zw1 br nz (by decide)]; kd_p
theorem zvr {ps : List P3} {o : D} (h : Pts 32 ps) (h6 : ps.length = 6) (h5 : Pts 24 (ps.take 5)) (hd : Pts 32 (ps.drop 1)) (ho : zas [o] = .ok (.bl false)) {v : Nat} (hv : v < 7) :
  ∃ w, gIx (.lst [.lst ((ps.map ptD).take 5), .lst (ps.map ptD ++ [ptD (pk ps 0)]), .tup (ps.map ptD), .non, .lst [], .lst ((ps.map ptD).take 5 ++ [o]), .lst ([o] ++ (ps.map ptD).drop 1)]) (.int (v : Int)) = .ok w /\ zgZ [w] = .err (.exc "NoBow" []) := by
 have lt : (ps.take 5).length = 5 := by rw [xa8]; omega
 have ld : (ps.drop 1).length = 5 := by rw [xbw]; omega
 have p0 : 0 < ps.length := by omega
 match v, hv with
 | 0, _ =>
  refine ⟨_, rfl, zfz ?_⟩
  rw [<- xcx]
  exact zj3 h5 (by omega) (by omega) (n := 6) (.inl (by omega))
 | 1, _ =>
  refine ⟨_, rfl, zfz ?_⟩
  rw [show ps.map ptD ++ [ptD (pk ps 0)] = (ps ++ [pk ps 0]).map ptD by simp]
  exact zj3 (Pts.snoc h (h.nrm _ (zgK p0)) (h.bd _ (zgK p0))) (by simp) (by simp; omega) (n := 6) (.inl (by simp; omega))
 | 2, _ => exact ⟨_, rfl, zfz (zd7 (Lk77.floor_o (.inl ⟨_, rfl⟩)) _)⟩
 | 3, _ => exact ⟨_, rfl, zfz (zd7 (Lk77.floor_o (.inr (.inl rfl))) _)⟩
 | 4, _ => exact ⟨_, rfl, zfz (zd7 (Lk77.floor_o (.inr (.inr rfl))) _)⟩
 | 5, _ =>
  refine ⟨_, rfl, zfz (zd7 (zoF ⟨h5.nrm, fun p hp => (h5.bd p hp).mono (by decide)⟩ ho (by omega) (.inl ?_)) _)⟩
  rw [<- xcx]
 | 6, _ =>
  refine ⟨_, rfl, zfz (zd7 (zoF hd ho (by omega) (.inr ?_)) _)⟩
  rw [<- List.map_drop]; rfl
theorem zj4 (ns : D) (n : Int) {ds : List Int} (hl : ds.length = 60) {a b c d e p : P3} (h : Pts 24 [a, b, c, d, e]) (np : Nrm p) (bp : BP 32 p) (x3 x5 x6 : Option D) :
  ∃ O', (zbB [some ns, some (.int n), some (.lst (ds.map .int)), x3, some (.lst [ptD a, ptD b, ptD c, ptD d, ptD e, ptD p]), x5, x6] = .ok (.nx O') \/ zbB [some ns, some (.int n), some (.lst (ds.map .int)), x3, some (.lst [ptD a, ptD b, ptD c, ptD d, ptD e, ptD p]), x5, x6] = .ok (.ct O')) /\ ∃ y1 y2 y3 y4 y5 y6, O' = [some ns, y1, y2, y3, y4, y5, y6] := by
 have h6 : Pts 32 [a, b, c, d, e, p] := Pts.snoc (ps := [a, b, c, d, e]) ⟨h.nrm, fun p hp => (h.bd p hp).mono (by decide)⟩ np bp
 obtain ⟨o, eo, ho⟩ := Lk77.odd_ok (dg ds 55)
 obtain ⟨v, hv⟩ : ∃ v : Nat, dg ds 54 % 7 = (v : Int) := ⟨(dg ds 54 % 7).toNat, by omega⟩
 obtain ⟨w, ew, hw⟩ := zvr (ps := [a, b, c, d, e, p]) (v := v) h6 rfl h ⟨fun q hq => h6.nrm q (xae _ hq), fun q hq => h6.bd q (xae _ hq)⟩ ho (by omega)
 rw [zvo] at ew
 unfold zbB; kd_p
 rw [Lk77.lstK_7]; kd_p
 rw [show gIx (.lst (ds.map .int)) (.int 55) = _ from ixd (k := 55) (by omega)]; kd_p
 rw [zau _ _ (by decide)]; kd_p
 rw [eo]; kd_p
 unfold zfu; kd_p
 rw [Lk42.eSl_to _ _ _ [ptD a, ptD b, ptD c, ptD d, ptD e, ptD p] 5 rfl rfl, zp1 _ _ _ [ptD a, ptD b, ptD c, ptD d, ptD e, ptD p] 1 rfl rfl, show ∀ a b c d e f : D, gIx (.lst [a, b, c, d, e, f]) (.int 0) = .ok a from fun _ _ _ _ _ _ => rfl]; kd_p
 rw [Lk42.gAdd_ll (by simp), Lk42.gAdd_ll (by simp), Lk42.gAdd_ll (by simp), show ziQ [.lst [ptD a, ptD b, ptD c, ptD d, ptD e, ptD p]] = .ok (.tup [ptD a, ptD b, ptD c, ptD d, ptD e, ptD p]) from rfl]; kd_p
 rw [Lk77.lstK_7]; kd_p
 unfold zft; kd_p
 rw [show gIx (.lst (ds.map .int)) (.int 54) = _ from ixd (k := 54) (by omega)]; kd_p
 rw [zau _ _ (by decide), hv]; kd_p
 rw [show gIx (.lst [.lst ([ptD a, ptD b, ptD c, ptD d, ptD e, ptD p].take 5), .lst ([ptD a, ptD b, ptD c, ptD d, ptD e, ptD p] ++ [ptD a]), .tup [ptD a, ptD b, ptD c, ptD d, ptD e, ptD p], .non, .lst [], .lst ([ptD a, ptD b, ptD c, ptD d, ptD e, ptD p].take 5 ++ [o]), .lst ([o] ++ [ptD a, ptD b, ptD c, ptD d, ptD e, ptD p].drop 1)]) (.int (v : Int)) = _ from ew]; kd_p
 unfold zfs; kd_p
 rw [zp6 h np bp]; kd_p
 rw [zrn hw]; kd_p
 exact ⟨_, .inl rfl, _, _, _, _, _, _, rfl⟩
theorem put5 (a b c d e p q : D) (O : DSt) : zvG 4 (.ok [a, b, c, d, e, p]) (.ok q) (.ok (.int 5)) O = .ok (.nx (O.set 4 (some (.lst [a, b, c, d, e, q])))) := zsT (j := 5) (by simp)
theorem zro (ns : D) (n : Int) {ds : List Int} (hl : ds.length = 60) {fs : List P3} (pf : Pts 24 fs) (lf : fs.length = 6) (x3 x5 x6 : Option D) :
  ∃ O', (zcZ [some ns, some (.int n), some (.lst (ds.map .int)), x3, some (.lst (fs.map ptD)), x5, x6] = .ok (.nx O') \/ zcZ [some ns, some (.int n), some (.lst (ds.map .int)), x3, some (.lst (fs.map ptD)), x5, x6] = .ok (.ct O')) /\ ∃ y1 y2 y3 y4 y5 y6, O' = [some ns, y1, y2, y3, y4, y5, y6] := by
 obtain ⟨a, b, c, d, e, p, rfl⟩ := six6 lf
 have h : Pts 24 [a, b, c, d, e] := ⟨fun q hq => pf.nrm q (xcb [p] hq), fun q hq => pf.bd q (xcb [p] hq)⟩
 have ix : ∀ k : Nat, k < 60 -> gIx (.lst (ds.map .int)) (.int (k : Int)) = .ok (.int (dg ds k)) := fun k hk => ixd (by omega)
 have st5 : ∀ p : P3, Nrm p -> BP 24 p -> ∃ O', (zcY [some ns, some (.int n), some (.lst (ds.map .int)), x3, some (.lst [ptD a, ptD b, ptD c, ptD d, ptD e, ptD p]), x5, x6] = .ok (.nx O') \/ zcY [some ns, some (.int n), some (.lst (ds.map .int)), x3, some (.lst [ptD a, ptD b, ptD c, ptD d, ptD e, ptD p]), x5, x6] = .ok (.ct O')) /\ ∃ y1 y2 y3 y4 y5 y6, O' = [some ns, y1, y2, y3, y4, y5, y6] := by
  intro p np bp
  unfold zcY; kd_p
  rw [show gIx (.lst (ds.map .int)) (.int 27) = _ from ix 27 (by decide)]; kd_p
  rw [zau _ _ (by decide)]; kd_p
  by_cases h1 : dg ds 27 % 8 = 1
  ·rw [decide_eq_true h1]; kd_p
   rw [show ∀ a b c d e f : D, gIx (.lst [a, b, c, d, e, f]) (.int 1) = .ok b from fun _ _ _ _ _ _ => rfl, show ∀ a b c d e f : D, gIx (.lst [a, b, c, d, e, f]) (.int 2) = .ok c from fun _ _ _ _ _ _ => rfl]; kd_p
   by_cases h2 : b = c
   ·rw [decide_eq_true ((eqP b c).mpr h2)]; kd_p
    exact zj4 ns n hl h np (bp.mono (by decide)) _ _ _
   ·rw [decide_eq_false (fun z => h2 ((eqP b c).mp z))]; kd_p
    obtain ⟨r, er, nr, br⟩ := zvq (h.nrm b (by simp)) (h.nrm c (by simp)) (h.bd b (by simp)) (h.bd c (by simp)) h2 (m := 1 + dg ds 28 % 5) (by omega)
    unfold zpL; kd_p
    rw [show ∀ a b c d e f : D, gIx (.lst [a, b, c, d, e, f]) (.int 1) = .ok b from fun _ _ _ _ _ _ => rfl, show ∀ a b c d e f : D, gIx (.lst [a, b, c, d, e, f]) (.int 2) = .ok c from fun _ _ _ _ _ _ => rfl, show gIx (.lst (ds.map .int)) (.int 28) = _ from ix 28 (by decide)]; kd_p
    rw [zau _ _ (by decide)]; kd_p
    rw [er]
    show ∃ O', (zqA (.ok (.nx [some ns, some (.int n), some (.lst (ds.map .int)), x3, some (.lst [ptD a, ptD b, ptD c, ptD d, ptD e, ptD r]), x5, x6])) zbB = .ok (.nx O') \/ zqA (.ok (.nx [some ns, some (.int n), some (.lst (ds.map .int)), x3, some (.lst [ptD a, ptD b, ptD c, ptD d, ptD e, ptD r]), x5, x6])) zbB = .ok (.ct O')) /\ _
    rw [zjS]
    exact zj4 ns n hl h nr br _ _ _
  ·rw [decide_eq_false h1]; kd_p
   exact zj4 ns n hl h np (bp.mono (by decide)) _ _ _
 rw [zvo]
 unfold zcZ; kd_p
 rw [show gIx (.lst (ds.map .int)) (.int 22) = _ from ix 22 (by decide)]; kd_p
 rw [zau _ _ (by decide)]; kd_p
 by_cases h0 : dg ds 22 % 2 = 1
 ·rw [decide_eq_true h0]; kd_p
  obtain ⟨q, eq, nq, bq⟩ := zlx (ds := (ds.drop 23).take 4) (by rw [xa8, xbw]; omega)
  unfold zvH; kd_p
  rw [zj1 _ _ _ _ (ds.map .int) 23 27 rfl rfl rfl (by rw [xag]; omega) (by decide), zj2]; kd_p
  rw [show zaE [.lst (((ds.drop 23).take (27 - 23)).map .int)] = _ from eq, put5]; kd_p
  exact st5 q nq bq
 ·rw [decide_eq_false h0]; kd_p
  exact st5 p (pf.nrm p (by simp)) (pf.bd p (by simp))
theorem zs2 (ns : D) (n : Int) (x2 x3 x4 x5 x6 : Option D) : ∃ O', (zbT [some ns, some (.int n), x2, x3, x4, x5, x6] = .ok (.nx O') \/ zbT [some ns, some (.int n), x2, x3, x4, x5, x6] = .ok (.ct O')) /\ ∃ y1 y2 y3 y4 y5 y6, O' = [some ns, y1, y2, y3, y4, y5, y6] := by
 obtain ⟨ds, eds, lds, dd⟩ := zl6 n 60 (by decide)
 obtain ⟨m, em, dm, bm⟩ := zoy (ds := ds.take 10) (fun d hd => dd d (List.mem_of_mem_take hd)) (by rw [xa8]; omega)
 obtain ⟨cs, ec, pc, lc⟩ := zp7 (ds := (ds.drop 10).take 12) (m := m) (by rw [xa8, xbw]; omega) bm dm
 unfold zbT; kd_p
 rw [show zaL [.int n, .int 60] = _ from eds]; kd_p
 unfold zfx; kd_p
 rw [Lk42.eSl_to _ _ _ (ds.map .int) 10 rfl rfl, <- xcx]; kd_p
 rw [em]; kd_p
 unfold zfw; kd_p
 rw [zlY]; kd_p
 rw [zj1 _ _ _ _ (ds.map .int) 10 22 rfl rfl rfl (by rw [xag]; omega) (by decide), zj2]; kd_p
 rw [zoe, show zbc [.lst (((ds.drop 10).take (22 - 10)).map .int), zeC m] = _ from ec]; kd_p
 unfold zfv; kd_p
 rw [show gIx (.lst (ds.map .int)) (.int 29) = _ from ixd (k := 29) (by omega)]; kd_p
 rw [zau _ _ (by decide)]; kd_p
 by_cases hz : dg ds 29 % 4 = 1
 ·rw [decide_eq_true hz]; kd_p
  rw [show zgS [.int 6] = .ok ((rg 0 6).map fun k : Nat => D.int (k : Int)) from ze3 6 (by decide)]
  obtain ⟨qs, eq, lq, pq⟩ := zw3 (ds := (rg 0 6).map fun k : Nat => D.int (k : Int)) (e := zat zaE (zaa (eSl (zae 3) (zb0 (eOp zcH (eC (.int 30)) (eOp za1 (eC (.int 4)) (zae 0)))) (zb0 (eOp zcH (eC (.int 34)) (eOp za1 (eC (.int 4)) (zae 0))))) zak)) (O := [some ns, some (.int n), some (.lst (ds.map .int)), some (zeC m), none, x5, x6]) (fun p => Nrm p /\ BP 24 p) (by simp [rg]) (fun d hd => by
   obtain ⟨k, hk, rfl⟩ := xbf.mp hd
   have hk := (zcz.mp hk).2
   obtain ⟨p, ep, np, bp⟩ := zlx (ds := (ds.drop (30 + 4 * k)).take 4) (by rw [xa8, xbw]; omega)
   have bk : zgT (k : Int) = true := zal (n := 4) (B.of (k := 6) (by omega)) (by decide)
   refine ⟨p, ?_, np, bp⟩
   rw [zgf, zgg, zj1 _ _ _ _ (ds.map .int) (30 + 4 * k) (34 + 4 * k) rfl (by kd_p; rw [zag 4 _ (by decide) bk]; kd_p; rw [show (30 : Int) + 4 * (k : Int) = ((30 + 4 * k : Nat) : Int) by omega]) (by kd_p; rw [zag 4 _ (by decide) bk]; kd_p; rw [show (34 : Int) + 4 * (k : Int) = ((34 + 4 * k : Nat) : Int) by omega]) (by rw [xag]; omega) (by omega), zj2, show 34 + 4 * k - (30 + 4 * k) = 4 by omega]; kd_p
   exact ep)
  have lq : qs.length = 6 := by rw [lq]; rfl
  rw [eq]; kd_p
  exact zro ns n lds ⟨fun p hp => (pq p hp).1, fun p hp => (pq p hp).2⟩ lq _ _ _
 ·rw [decide_eq_false hz]; kd_p
  exact zro ns n lds pc lc _ _ _
theorem law_ok (ns : List Int) (hl : ns.length <= 63) : ze0 [.lst (ns.map .int)] = .ok (.bl true) := by
 rw [zjs]; unfold zeZ; kd_p
 rw [Lk42.eSl_to _ _ _ ([.int 0] ++ ns.map .int) 16 (by kd_p; exact Lk42.gAdd_ll (by simp; omega)) rfl]; kd_p
 rw [show ([D.int 0] ++ ns.map D.int).take 16 = (([0] ++ ns).take 16).map D.int by rw [xcx, xb2]; rfl]
 have turn : ∀ d ∈ (([0] ++ ns).take 16).map D.int, ∀ O, (∃ x1 x2 x3 x4 x5 x6, O = [some (.lst (ns.map .int)), x1, x2, x3, x4, x5, x6]) -> ∃ O', (zbT (O.set 1 (some d)) = .ok (.nx O') \/ zbT (O.set 1 (some d)) = .ok (.ct O')) /\ ∃ x1 x2 x3 x4 x5 x6, O' = [some (.lst (ns.map .int)), x1, x2, x3, x4, x5, x6] := by
  rintro d hd O ⟨x1, x2, x3, x4, x5, x6, rfl⟩
  obtain ⟨n, _, rfl⟩ := xbf.mp hd
  exact zs2 _ n _ _ _ _ _
 obtain ⟨O', e, x1, x2, x3, x4, x5, x6, rfl⟩ := zlk (i := 1) (fb := zbT) _ _ turn [some (.lst (ns.map .int)), none, none, none, none, none, none] ⟨_, _, _, _, _, _, rfl⟩
 rw [e]; kd_p
 unfold zgJ; kd_p
end Lk80
end
section
namespace Kx
open L2 DL Mir
local macro_rules | `(tactic| walk_at "o3") => `(tactic| (first | exact Or.inl rfl | exact Or.inr (Or.inl rfl) | exact Or.inr (Or.inr rfl)))
local macro_rules | `(tactic| walk_at "o2") => `(tactic| (first | exact Or.inl rfl | exact Or.inr rfl))
local macro_rules | `(tactic| walk_at "o4") => `(tactic| (first | exact .inl rfl | exact .inr rfl | assumption))
local macro_rules | `(tactic| walk_at "C") => `(tactic| first | assumption | exact XC.lc (by assumption) _ _ _ _ _ _)
local macro_rules | `(tactic| walk_at "H") => `(tactic| first | assumption | exact XC.calm (by walk_at "C") | rfl)
local macro_rules | `(tactic| walk_at "F") => `(tactic| first | exact zni | exact zpw | exact zuA | exact zuB | exact zwH | exact zuE | exact zsh (by walk_at "C") | exact zwG (by walk_at "C") | exact zwR (by walk_at "C") | exact zvc (by walk_at "C"))
local macro_rules | `(tactic| walk_at "E") => `(tactic| first | ((with_reducible refine @zt6 _ _ _ _ _ ?_ ?_ ?_ ?_); rfl; (first | exact Or.inl rfl | exact Or.inr (Or.inl rfl) | exact Or.inr (Or.inr rfl)); decide; decide) | ((with_reducible refine @zaB _ _ _ _ _ _ ?_ ?_ ?_); walk_at "E"; walk_at "E"; rfl) | ((with_reducible refine @zdI _ _ _ _ _)) | ((with_reducible refine @zbF _ _)) | ((with_reducible refine @zpr _ _ _ _ _ _ _ ?_ ?_ ?_); walk_at "E"; walk_at "E"; (intro _ _ ; rfl)) | ((with_reducible refine @zm4 _ _ _ _ _ _ _ _ _ _ (by walk_at "C") ?_ ?_ ?_ ?_ ?_ ?_); walk_at "H"; walk_at "E"; rfl; decide; rfl; rfl) | ((with_reducible refine @zuw _ _ _ _ _ _ _ ?_ ?_); walk_at "E"; walk_at "E") | ((with_reducible refine @zdL _ _ _ _ _ _ _ _ _ ?_ ?_ ?_ ?_); walk_at "F"; walk_at "E"; walk_at "E"; (first | exact zaZ _ (by decide) (by decide) | rfl)) | ((with_reducible refine @zuu _ _ _ _ _ _ _ ?_ ?_); walk_at "E"; walk_at "E") | ((with_reducible refine @zux _ _ _ _ _ _ _ ?_ ?_); walk_at "E"; walk_at "E") | ((with_reducible refine @zua _ _ _ _ _ _ ?_); walk_at "E") | ((with_reducible refine @zub _ _ _ _ _ ?_); walk_at "E") | ((with_reducible refine @DF.val _ _ _ _ ?_); walk_at "E") | ((with_reducible refine @zwx _ _ _ _ _)) | ((with_reducible refine @zuv _ _ _ _ _ _ _ ?_ ?_); walk_at "E"; walk_at "E") | ((with_reducible refine @zsn _ _ _ _ ?_); walk_at "E") | ((with_reducible refine @zuf _ _ _ _ _ ?_); walk_at "E") | ((with_reducible refine @zm7 _ _ _ _ _ _ _ ?_ ?_ ?_ ?_); walk_at "H"; walk_at "E"; rfl; rfl) | ((with_reducible refine @zwM _ _ _ _ _ _ _ _ _ _ ?_ ?_ ?_); walk_at "E"; walk_at "E"; walk_at "E") | ((with_reducible refine @zuI _ _ _ _ _ _ _ ?_ ?_ ?_ ?_ ?_); walk_at "H"; walk_at "E"; rfl; rfl; rfl) | ((with_reducible refine @zsg _ _ _ _ _ _ _ ?_ ?_); walk_at "E"; walk_at "E") | ((with_reducible refine @zsm _ _)) | ((with_reducible refine @zmX _ _ _ _ _)) | ((with_reducible refine @znj _ _ _ _ _ _ _ _ _ ?_ ?_ ?_ ?_); walk_at "F"; walk_at "E"; walk_at "E"; (first | exact zaZ _ (by decide) (by decide) | rfl)) | ((with_reducible refine @zm0 _ _ _ _ _ ?_); walk_at "E") | ((with_reducible refine @DW.dt _ _ _ _ ?_); walk_at "E") | ((with_reducible refine @zjJ _ _ _ _ _ _ _ _ ?_ ?_); walk_at "E"; walk_at "E") | ((with_reducible refine @zuz _ _ _ _ _ ?_); walk_at "E") | ((with_reducible refine @zuK _ _ _ _ _ _ _ ?_ ?_ ?_ ?_ ?_); walk_at "H"; walk_at "E"; rfl; rfl; rfl) | ((with_reducible refine @zeb _ _ _ _ _ ?_); walk_at "E") | ((with_reducible refine @zm1 _ _ _ _ _ _ _ _ ?_ ?_); walk_at "E"; walk_at "E") | ((with_reducible refine @zuy _ _ _ _ _ _ _ ?_ ?_); walk_at "E"; walk_at "E") | ((with_reducible refine @zjI _ _ _ _ _ ?_); walk_at "E") | ((with_reducible refine @de_k _ _ _ _ _ ?_ ?_ ?_); walk_at "H"; rfl; decide) | ((with_reducible refine @ziG _ _ _ _ _ _ _ _ ?_ ?_); walk_at "E"; walk_at "E") | ((with_reducible refine @zsl _ _ _ _ _ _ _ ?_ ?_ ?_ ?_ ?_); walk_at "H"; walk_at "E"; rfl; rfl; rfl) | ((with_reducible refine @zt7 _ _ _ _)) | ((with_reducible refine @zsN _ _ _ _ _ _ _ _ _ _ ?_ ?_ ?_ ?_ ?_); walk_at "H"; walk_at "E"; rfl; rfl; rfl) | ((with_reducible refine @zeI _ _ _ _ _ _ _ ?_ ?_ ?_ ?_ ?_); walk_at "H"; walk_at "E"; rfl; rfl; rfl) | ((with_reducible refine @zqp _ _ _ _ _ (by assumption) ?_ ?_); rfl; decide) | ((with_reducible refine @zuM _ _ _ _ _ _ _ ?_ ?_ ?_ ?_ ?_ ?_); walk_at "H"; walk_at "H"; walk_at "E"; rfl; rfl; rfl) | ((with_reducible refine @zlX _ _ _ (by walk_at "C") ?_ ?_ _ _ _ _ _ _ ?_ ?_ ?_ ?_ ?_ ?_ ?_); walk_at "H"; walk_at "H"; walk_at "E"; rfl; rfl; rfl; rfl; rfl; rfl) | ((with_reducible refine @zh6 _ _ _ _ _ _ _ _ _ ?_ ?_ ?_ ?_); walk_at "H"; walk_at "E"; rfl; rfl) | ((with_reducible refine @zqr _ _ _ _ _ ?_); walk_at "E") | ((with_reducible refine @zsR _ _ _ _ _ _ _ _ _ _ ?_ ?_ ?_ ?_ ?_); walk_at "H"; walk_at "E"; rfl; rfl; rfl) | ((with_reducible refine @zsH _ _ _ _ _ _ _ _ _ _ (by walk_at "C") ?_ ?_ ?_ ?_ ?_ ?_); walk_at "H"; walk_at "E"; rfl; decide; rfl; rfl) | ((with_reducible refine @zkx _ _ _ _ _ _ _ ?_ ?_ ?_ ?_ ?_); walk_at "H"; walk_at "E"; rfl; rfl; rfl) | ((with_reducible refine @zfk _ _ _ _ ?_ ?_); walk_at "E"; (intro _ ; rfl)) | ((with_reducible refine @zqq _ _ _ _ _ _ ?_); walk_at "E") | ((refine @zdI _ _ _ _ _)) | ((refine @zdL _ _ _ _ _ _ _ _ _ ?_ ?_ ?_ ?_); walk_at "F"; walk_at "E"; walk_at "E"; (first | exact zaZ _ (by decide) (by decide) | rfl)) | ((refine @zmX _ _ _ _ _)) | ((refine @zm0 _ _ _ _ _ ?_); walk_at "E") | ((refine @DW.dt _ _ _ _ ?_); walk_at "E") | ((refine @zjJ _ _ _ _ _ _ _ _ ?_ ?_); walk_at "E"; walk_at "E") | ((refine @zeb _ _ _ _ _ ?_); walk_at "E") | ((refine @zm1 _ _ _ _ _ _ _ _ ?_ ?_); walk_at "E"; walk_at "E") | ((refine @zjI _ _ _ _ _ ?_); walk_at "E") | ((refine @zqp _ _ _ _ _ (by assumption) ?_ ?_); rfl; decide) | ((refine @zfk _ _ _ _ ?_ ?_); walk_at "E"; (intro _ ; rfl)))
local macro_rules | `(tactic| walk_at "GS") => `(tactic| first | exact @zrx _ | ((refine @zoT _ _ _ _ _ ?_ ?_ ?_); ((refine @zmj _ _ _ _ ?_ ?_ ?_ ?_); assumption; rfl; (first | exact Or.inl rfl | exact Or.inr rfl); (first | exact .inl rfl | exact .inr rfl | assumption)); walk_at "GS"; rfl))
local macro_rules | `(tactic| walk_at "G") => `(tactic| first | ((with_reducible refine @zr9 _ _ _ _ ?_ ?_ ?_ ?_); assumption; rfl; (first | exact Or.inl rfl | exact Or.inr rfl); (first | exact .inl rfl | exact .inr rfl | assumption)) | ((with_reducible refine @zud _ _ _ _ _ _ ?_ ?_ ?_ ?_ ?_); walk_at "H"; walk_at "GS"; rfl; rfl; rfl))
local macro_rules | `(tactic| kst_p) => `(tactic| exact @zjN _ _ _ _ _ _ _ _ _ (by assumption) (by walk_at "E") (by rfl) (by walk_at "o2") (by rfl) (by walk_at "o4"))
local macro_rules | `(tactic| walk_at "s5") => `(tactic| exact @zui _ _ _ _ _ _ _ _ _ _ _ (by assumption) (by walk_at "E") (by rfl) (by rfl) (by walk_at "o2") (by rfl) (by walk_at "o4"))
local macro_rules | `(tactic| walk_at "s7") => `(tactic| exact @zqu _ _ _ _ _ _ _ _ _ _ _ _ (by walk_at "E") (by rfl) (by rfl) (by walk_at "o3") (by decide) (by decide) (by rfl) (by rfl) (by rfl) (by rfl) (by rfl) (by rfl))
local macro_rules | `(tactic| walk_at "s1") => `(tactic| exact @zuh _ _ _ _ _ _ _ _ _ _ (by assumption) (by walk_at "E") (by rfl) (by rfl) (by walk_at "o2") (by rfl) (by walk_at "o4"))
local macro_rules | `(tactic| walk_at "s3") => `(tactic| exact @zfm _ _ _ _ _ _ _ _ (by walk_at "E"))
local macro_rules | `(tactic| walk_at "s9") => `(tactic| exact @zul _ _ _ _ _ _ _ _ _ _ (by walk_at "E") (by walk_at "G") (by rfl) (by rfl) (by rfl) (by rfl))
local macro_rules | `(tactic| walk_at "se") => `(tactic| exact @zsL _ _ _ _ _ _ _ _ _ (by rfl) (by rfl) (by walk_at "o3") (by decide) (by decide))
local macro_rules | `(tactic| walk_at "s4") => `(tactic| exact @zsa _ _ _ _ _ _ _ (by walk_at "E") (by rfl))
local macro_rules | `(tactic| walk_at "s2") => `(tactic| exact @zsb _ _ _ _ _ _ _ _ _ _ (by assumption) (by walk_at "E") (by rfl) (by rfl) (by walk_at "o2") (by rfl) (by walk_at "o4"))
local macro_rules | `(tactic| walk_at "sb") => `(tactic| exact @zu9 _ _ _ _ _ _ _ _ _ _ _ _ _ (by walk_at "E") (by walk_at "E") (by rfl) (by rfl) (by walk_at "o3") (by decide) (by decide) (by intro _ ; rfl) (by rfl) (by rfl) (by rfl))
local macro_rules | `(tactic| walk_at "sc2") => `(tactic| exact @zsC _ _ _ _ _ _ _ _ _ _ _ _ _ (by walk_at "E") (by walk_at "E") (by rfl) (by rfl) (by walk_at "o3") (by decide) (by decide) (by intro _ ; rfl) (by rfl) (by rfl) (by rfl))
local macro_rules | `(tactic| kst_p1) => `(tactic| exact (@zaj _ _ _ _ _ _ _ (by walk_at "s3")))
local macro_rules | `(tactic| walk_at "I3") => `(tactic| exact (@zcj _ _ _ _ _ _ _ _ _ _ _ _ (by walk_at "E") (by kst_p1) (@zaO _ _ _ _)))
set_option maxHeartbeats 4000000
variable {P : Program} {w : World} {K : xFg} {mg : Str -> Option Value} {base : Heap} {f : Addr} {fd : FuncData} {k : Nat}
local macro_rules | `(tactic| kd_p1) => `(tactic| exact ⟨rfl, rfl, rfl, by decide +kernel, rfl, by decide +kernel, by decide +kernel⟩)
local macro_rules | `(tactic| walk_at "b0") => `(tactic| exact fun _ _ _ _ _ _ us hl => match us, hl with | [], _ => rfl)
local macro_rules | `(tactic| kst_p2) => `(tactic| exact fun _ _ _ _ _ _ us hl => match us, hl with | [_], _ => rfl)
local macro_rules | `(tactic| kpf_c) => `(tactic| exact fun _ _ _ _ _ _ us hl => match us, hl with | [_, _], _ => rfl)
local macro_rules | `(tactic| walk_at "b3") => `(tactic| exact fun _ _ _ _ _ _ us hl => match us, hl with | [_, _, _], _ => rfl)
local macro_rules | `(tactic| walk_at "b4") => `(tactic| exact fun _ _ _ _ _ _ us hl => match us, hl with | [_, _, _, _], _ => rfl)
local macro_rules | `(tactic| walk_at "b5") => `(tactic| exact fun _ _ _ _ _ _ us hl => match us, hl with | [_, _, _, _, _], _ => rfl)
def top (i : Nat) : Stmt := PySem.Challenge.pw_chalkline_k80_six.main.body.getD i (.Pass ⟨0, 0, 0, 0⟩)
theorem zgN (F : FA K mg "_law_numbers" (top 38) ["_law_cell", "_law_many"] f fd) (q1 : mg "max" = none) (q0 : mg "range" = none) : zaF P w K mg base (k + 1) "_law_numbers" zaL := F.ok (own' := []) (N := ["_law_cell", "_law_many", "_law_number", "_law_left", "_law_found", "_law_k", "_law_one"]) (by kd_p1) rfl rfl fun _ _ _ _ _ _ C L nd => (@zad _ _ _ _ _ _ _ _ _ _ (by kst_p) (@zad _ _ _ _ _ _ _ _ _ _ (by kst_p) (@zad _ _ _ _ _ _ _ _ _ _ (by walk_at "s5") (@zad _ _ _ _ _ _ _ _ _ _ (@zcF _ _ _ _ _ _ _ _ _ _ _ _ L C.calm (by walk_at "E") (by walk_at "G") (@zaj _ _ _ _ _ _ _ (@zcj _ _ _ _ _ _ _ _ _ _ _ _ (@DW.dt _ _ _ _ (@zm1 _ _ _ _ _ _ _ _ (@zdL _ _ _ _ _ _ _ _ _ (@zuB _) (by walk_at "E") (by walk_at "E") (by first | exact zaZ _ (by decide) (by decide) | rfl)) (@zjI _ _ _ _ _ (@zdL _ _ _ _ _ _ _ _ _ (@zuA _) (by walk_at "E") (@zdI _ _ _ _ _) (by first | exact zaZ _ (by decide) (by decide) | rfl))))) (@zad _ _ _ _ _ _ _ _ _ _ (by walk_at "s7") (@zaj _ _ _ _ _ _ _ (by walk_at "s1"))) (@zad _ _ _ _ _ _ _ _ _ _ (by walk_at "s1") (@zaj _ _ _ _ _ _ _ (by walk_at "s7"))))) (by rfl) (by intro _ ; rfl)) (@ze9 _ _ _ _ _ _ _ _ 4 (by rfl) (by rfl) (by kst_p1))))))
theorem zj5 (F : FA K mg "_law_det" (top 43) ["_law_one", "_law_other", "_law_third"] f fd) : zaF P w K mg base (k + 1) "_law_det" zaN := F.ok (own' := []) (N := ["_law_one", "_law_other", "_law_third", "_law_a", "_law_b", "_law_c", "_law_d", "_law_e", "_law_f", "_law_first", "_law_second"]) (by kd_p1) rfl rfl fun _ _ _ _ _ _ C L nd => (@zad _ _ _ _ _ _ _ _ _ _ (by walk_at "s9") (@zad _ _ _ _ _ _ _ _ _ _ (by walk_at "s9") (@zad _ _ _ _ _ _ _ _ _ _ (by kst_p) (@zad _ _ _ _ _ _ _ _ _ _ (by kst_p) (by kst_p1)))))
theorem zg1 (F : FA K mg "_law_change" (top 44) ["_law_some"] f fd) (q1 : mg "range" = none) (q0 : zaF P w K mg base k "_law_det" zaN) : zaF P w K mg base (k + 1) "_law_change" zbz := F.ok (own' := []) (N := ["_law_some", "_law_most", "_law_rows", "_law_j", "_law_row"]) (by kd_p1) rfl rfl fun _ _ _ _ _ _ C L nd => (@zad _ _ _ _ _ _ _ _ _ _ (by kst_p) (@zad _ _ _ _ _ _ _ _ _ _ (by walk_at "s5") (@zad _ _ _ _ _ _ _ _ _ _ (@zcF _ _ _ _ _ _ _ _ _ _ _ _ L C.calm (by walk_at "E") (by walk_at "G") (@zad _ _ _ _ _ _ _ _ _ _ (@zfK _ _ _ _ _ _ _ _ _ _ _ _ _ _ _ _ _ _ _ _ 4 C.calm nd (LC.of (k := 1) (NY := ["_law_k", "_law_some", "_law_most", "_law_rows", "_law_j", "_law_row"]) (N := ["_law_some", "_law_most", "_law_rows", "_law_j", "_law_row"]) (sc0 := (zah (top 44))) rfl rfl (by decide +kernel)) rfl (by walk_at "E") (fun _ _ _ _ nd2 => ⟨(by walk_at "G"), (@zb7 _ _), (by walk_at "E")⟩) (by rfl) (by rfl) (by rfl) (by rfl) (by intro _ ; rfl)) (@zaj _ _ _ _ _ _ _ (@zqu _ _ _ _ _ _ _ _ 2 _ _ _ (@DF.val _ _ _ _ (@zga _ _ _ _ _ _ _ _ _ _ _ _ _ _ _ C.calm (LC.of (k := 1) (NY := ["_law_one", "_law_some", "_law_most", "_law_rows", "_law_j", "_law_row"]) (N := ["_law_some", "_law_most", "_law_rows", "_law_j", "_law_row"]) (sc0 := (zah (top 44))) rfl rfl (by decide +kernel)) rfl (by walk_at "E") (fun _ _ _ _ nd2 => ⟨(by walk_at "G"), (@zb7 _ _), (by walk_at "E")⟩) (by intro _ ; rfl))) (by rfl) (by rfl) (by walk_at "o3") (by decide) (by decide) (by rfl) (by rfl) (by rfl) (by rfl) (by rfl) (by rfl)))) (by rfl) (by intro _ ; rfl)) (@ze9 _ _ _ _ _ _ _ _ 2 (by rfl) (by rfl) (@zad _ _ _ _ _ _ _ _ _ _ (by walk_at "I3") (by kst_p1))))))
theorem zg2 (F : FA K mg "_law_lowest" (top 40) ["_law_x", "_law_y", "_law_z"] f fd) (q0 : mg "abs" = none) : zaF P w K mg base (k + 1) "_law_lowest" zaq := F.ok (own' := []) (N := ["_law_x", "_law_y", "_law_z", "_law_one", "_law_other", "_law_last"]) (by kd_p1) rfl rfl fun _ _ _ _ _ _ C L nd => (@zad _ _ _ _ _ _ _ _ _ _ (by kst_p) (@zad _ _ _ _ _ _ _ _ _ _ (@zcF _ _ _ _ _ _ _ _ _ _ _ _ L C.calm (by walk_at "E") (by walk_at "G") (@zaj _ _ _ _ _ _ _ (@zkt _ _ _ _ _ _ _ _ _ L (by walk_at "E") (@zaj _ _ _ _ _ _ _ (@zum _ _ _ _ _ 3 4 _ _ _ _ _ _ _ _ _ _ _ C.calm nd (by walk_at "E") (by decide) (by rfl) (by rfl) (by rfl) (by rfl) (by rfl) (by rfl) (by rfl))))) (by rfl) (by intro _ ; rfl)) (@zad _ _ _ _ _ _ _ _ _ _ (@zjN _ _ _ _ _ _ _ _ 5 nd (@zpr _ _ _ _ _ _ _ (@DF.val _ _ _ _ (@zga _ _ _ _ _ _ _ _ _ _ _ _ _ _ _ C.calm (LC.of (k := 1) (NY := ["_law_number", "_law_x", "_law_y", "_law_z", "_law_one", "_law_other", "_law_last"]) (N := ["_law_x", "_law_y", "_law_z", "_law_one", "_law_other", "_law_last"]) (sc0 := (zah (top 40))) rfl rfl (by decide +kernel)) rfl (by walk_at "E") (fun _ _ _ _ nd2 => ⟨(by walk_at "G"), (@zhV _ _ _ _ (by walk_at "E")), (by walk_at "E")⟩) (by intro _ ; rfl))) (by walk_at "E") (by intro _ _ ; rfl)) (by rfl) (by walk_at "o2") (by rfl) (by walk_at "o4")) (@zad _ _ _ _ _ _ _ _ _ _ (@zcj _ _ _ _ _ _ _ _ _ _ _ _ (@zdL _ _ _ _ _ _ _ _ _ (@zni _) (by walk_at "E") (@zdI _ _ _ _ _) (by first | exact zaZ _ (by decide) (by decide) | rfl)) (@zaj _ _ _ _ _ _ _ (by kst_p)) (@zaO _ _ _ _)) (by kst_p1)))))
theorem zj6 (F : FA K mg "_law_dot" (top 42) ["_law_one", "_law_other"] f fd) : zaF P w K mg base (k + 1) "_law_dot" zb5 := F.ok (own' := []) (N := ["_law_one", "_law_other"]) (by kd_p1) rfl rfl fun _ _ _ _ _ _ C L nd => (by kst_p1)
theorem zj7 (F : FA K mg "_law_led" (top 45) ["_law_rows", "_law_place_here"] f fd) (q0 : zaF P w K mg base k "_law_lowest" zaq) (q1 : zaF P w K mg base k "_law_dot" zb5) : zaF P w K mg base (k + 1) "_law_led" zbA := F.ok (own' := []) (N := ["_law_rows", "_law_place_here"]) (by kd_p1) rfl rfl fun _ _ _ _ _ _ C L nd => (by kst_p1)
theorem zia (F : FA K mg "_law_curve" (top 46) ["_law_some", "_law_rows"] f fd) (q1 : mg "range" = none) (q2 : mg "len" = none) (q0 : zaF P w K mg base k "_law_led" zbA) : zgV P w K mg base (k + 1) "_law_curve" zbc := F.okF (own' := [2]) (N := ["_law_some", "_law_rows", "_law_found", "_law_k", "_law_t", "_law_s"]) (by kd_p1) rfl rfl fun _ _ _ _ _ _ C L nd => (@zad _ _ _ _ _ _ _ _ _ _ (by walk_at "s5") (@zad _ _ _ _ _ _ _ _ _ _ (@zcF _ _ _ _ _ _ _ _ _ _ _ _ L C.calm (by walk_at "E") (by walk_at "G") (@zad _ _ _ _ _ _ _ _ _ _ (by walk_at "s1") (@zad _ _ _ _ _ _ _ _ _ _ (by walk_at "s1") (@zad _ _ _ _ _ _ _ _ _ _ (@zcj _ _ _ _ _ _ _ _ _ _ _ _ (by walk_at "E") (@zaj _ _ _ _ _ _ _ (by walk_at "s1")) (@zaO _ _ _ _)) (@zaj _ _ _ _ _ _ _ (by walk_at "s7"))))) (by rfl) (by intro _ ; rfl)) (@zaj _ _ _ _ _ _ _ (by walk_at "se"))))
theorem zib (F : FA K mg "_law_place" (top 41) ["_law_some"] f fd) (q0 : zaF P w K mg base k "_law_lowest" zaq) : zaF P w K mg base (k + 1) "_law_place" zaE := F.ok (own' := []) (N := ["_law_some", "_law_most", "_law_x", "_law_y", "_law_z"]) (by kd_p1) rfl rfl fun _ _ _ _ _ _ C L nd => (@zad _ _ _ _ _ _ _ _ _ _ (by kst_p) (@zad _ _ _ _ _ _ _ _ _ _ (by kst_p) (@zad _ _ _ _ _ _ _ _ _ _ (by kst_p) (@zad _ _ _ _ _ _ _ _ _ _ (by kst_p) (@zad _ _ _ _ _ _ _ _ _ _ (@zcj _ _ _ _ _ _ _ _ _ _ _ _ (by walk_at "E") (@zaj _ _ _ _ _ _ _ (by kst_p)) (@zaO _ _ _ _)) (by kst_p1))))))
theorem zj8 (F : FA K mg "_law_sum" (top 50) ["_law_one", "_law_other", "_law_many"] f fd) (q0 : zaF P w K mg base k "_law_lowest" zaq) : zaF P w K mg base (k + 1) "_law_sum" zdW := F.ok (own' := []) (N := ["_law_one", "_law_other", "_law_many", "_law_x", "_law_y"]) (by kd_p1) rfl rfl fun _ _ _ _ _ _ C L nd => (@zad _ _ _ _ _ _ _ _ _ _ (by kst_p) (@zad _ _ _ _ _ _ _ _ _ _ (by kst_p) (by kst_p1)))
theorem zic (F : FA K mg "_law_lines" (top 47) ["_law_places"] f fd) (q1 : mg "range" = none) (q2 : mg "len" = none) (q0 : zaF P w K mg base k "_law_det" zaN) : zaF P w K mg base (k + 1) "_law_lines" zcy := F.ok (own' := []) (N := ["_law_places", "_law_i", "_law_j", "_law_k"]) (by kd_p1) rfl rfl fun _ _ _ _ _ _ C L nd => (@zad _ _ _ _ _ _ _ _ _ _ (@zcF _ _ _ _ _ _ _ _ _ _ _ _ L C.calm (by walk_at "E") (by walk_at "G") (@zaj _ _ _ _ _ _ _ (@zcF _ _ _ _ _ _ _ _ _ _ _ _ L C.calm (by walk_at "E") (by walk_at "G") (@zaj _ _ _ _ _ _ _ (@zcF _ _ _ _ _ _ _ _ _ _ _ _ L C.calm (by walk_at "E") (by walk_at "G") (@zaj _ _ _ _ _ _ _ (by walk_at "I3")) (by rfl) (by intro _ ; rfl))) (by rfl) (by intro _ ; rfl))) (by rfl) (by intro _ ; rfl)) (by kst_p1))
theorem zl7 (F : FA K mg "divisor" (top 10) ["one", "other"] f fd) (q0 : mg "abs" = none) : zaF P w K mg base (k + 1) "divisor" zbl := F.ok (own' := []) (N := ["one", "other", "rest"]) (by kd_p1) rfl rfl fun _ _ _ _ _ _ C L nd => (@zad _ _ _ _ _ _ _ _ _ _ (by kst_p) (@zad _ _ _ _ _ _ _ _ _ _ (by kst_p) (@zad _ _ _ _ _ _ _ _ _ _ (@zkt _ _ _ _ _ _ _ _ _ L (by walk_at "E") (@zad _ _ _ _ _ _ _ _ _ _ (by kst_p) (@zad _ _ _ _ _ _ _ _ _ _ (by kst_p) (@zaj _ _ _ _ _ _ _ (by kst_p))))) (by kst_p1))))
theorem zl8 (F : FA K mg "in_form" (top 9) ["numbers"] f fd) (q0 : zaF P w K mg base k "divisor" zbl) : zaF P w K mg base (k + 1) "in_form" zb1 := F.ok (own' := []) (N := ["numbers", "part", "last"]) (by kd_p1) rfl rfl fun _ _ _ _ _ _ C L nd => (@zad _ _ _ _ _ _ _ _ _ _ (by kst_p) (@zad _ _ _ _ _ _ _ _ _ _ (@zjN _ _ _ _ _ _ _ _ 2 nd (@zpr _ _ _ _ _ _ _ (@DF.val _ _ _ _ (@zga _ _ _ _ _ _ _ _ _ _ _ _ _ _ _ C.calm (LC.of (k := 1) (NY := ["number", "numbers", "part", "last"]) (N := ["numbers", "part", "last"]) (sc0 := (zah (top 9))) rfl rfl (by decide +kernel)) rfl (by walk_at "E") (fun _ _ _ _ nd2 => ⟨(by walk_at "G"), (@zhV _ _ _ _ (by walk_at "E")), (by walk_at "E")⟩) (by intro _ ; rfl))) (by walk_at "E") (by intro _ _ ; rfl)) (by rfl) (by walk_at "o2") (by rfl) (by walk_at "o4")) (@zad _ _ _ _ _ _ _ _ _ _ (@zcj _ _ _ _ _ _ _ _ _ _ _ _ (@zdL _ _ _ _ _ _ _ _ _ (@zni _) (by walk_at "E") (@zdI _ _ _ _ _) (by first | exact zaZ _ (by decide) (by decide) | rfl)) (@zaj _ _ _ _ _ _ _ (by kst_p)) (@zaO _ _ _ _)) (by kst_p1))))
theorem zp8 (F : FA K mg "cross" (top 13) ["one", "other"] f fd) : zaF P w K mg base (k + 1) "cross" zfd := F.ok (own' := []) (N := ["one", "other", "x", "y", "z"]) (by kd_p1) rfl rfl fun _ _ _ _ _ _ C L nd => (@zad _ _ _ _ _ _ _ _ _ _ (by kst_p) (@zad _ _ _ _ _ _ _ _ _ _ (by kst_p) (@zad _ _ _ _ _ _ _ _ _ _ (by kst_p) (by kst_p1))))
theorem zg3 (F : FA K mg "between_two" (top 16) ["one", "other"] f fd) (q0 : zaF P w K mg base k "in_form" zb1) (q1 : zaF P w K mg base k "cross" zfd) : zaF P w K mg base (k + 1) "between_two" zaK := F.ok (own' := []) (N := ["one", "other"]) (by kd_p1) rfl rfl fun _ _ _ _ _ _ C L nd => (@zad _ _ _ _ _ _ _ _ _ _ (@zcj _ _ _ _ _ _ _ _ _ _ _ _ (by walk_at "E") (@zaj _ _ _ _ _ _ _ (@ziL _ _ _ _ _ _)) (@zaO _ _ _ _)) (by kst_p1))
theorem zl9 (F : FA K mg "through" (top 14) ["one", "other"] f fd) (q0 : zaF P w K mg base k "between_two" zaK) : zaF P w K mg base (k + 1) "through" zaA := F.ok (own' := []) (N := ["one", "other"]) (by kd_p1) rfl rfl fun _ _ _ _ _ _ C L nd => (by kst_p1)
theorem zvs (F : FA K mg "dot" (top 12) ["one", "other"] f fd) : zaF P w K mg base (k + 1) "dot" zgz := F.ok (own' := []) (N := ["one", "other"]) (by kd_p1) rfl rfl fun _ _ _ _ _ _ C L nd => (by kst_p1)
theorem zs3 (F : FA K mg "lies" (top 11) ["place", "line"] f fd) (q0 : zaF P w K mg base k "dot" zgz) : zaF P w K mg base (k + 1) "lies" zdP := F.ok (own' := []) (N := ["place", "line"]) (by kd_p1) rfl rfl fun _ _ _ _ _ _ C L nd => (by kst_p1)
theorem zoG (F : FA K mg "on_one" (top 17) ["places"] f fd) (q2 : mg "len" = none) (q3 : mg "all" = none) (q0 : zaF P w K mg base k "through" zaA) (q1 : zaF P w K mg base k "lies" zdP) : zaF P w K mg base (k + 1) "on_one" zbw := F.ok (own' := []) (N := ["places", "others", "line"]) (by kd_p1) rfl rfl fun _ _ _ _ _ _ C L nd => (@zad _ _ _ _ _ _ _ _ _ _ (@zfK _ _ _ _ _ _ _ _ _ _ _ _ _ _ _ _ _ _ _ _ 1 C.calm nd (LC.of (k := 1) (NY := ["place", "places", "others", "line"]) (N := ["places", "others", "line"]) (sc0 := (zah (top 17))) rfl rfl (by decide +kernel)) rfl (by walk_at "E") (fun _ _ _ _ nd2 => ⟨(by walk_at "G"), (@zhV _ _ _ _ (by walk_at "E")), (by walk_at "E")⟩) (by rfl) (by rfl) (by rfl) (by rfl) (by intro _ ; rfl)) (@zad _ _ _ _ _ _ _ _ _ _ (by walk_at "I3") (@zad _ _ _ _ _ _ _ _ _ _ (by kst_p) (@zaj _ _ _ _ _ _ _ (@zfm _ _ _ _ _ _ _ _ (@znl _ _ _ _ _ _ _ C.calm q3 (@zaB _ _ _ _ _ _ (@DF.val _ _ _ _ (@zga _ _ _ _ _ _ _ _ _ _ _ _ _ _ _ C.calm (LC.of (k := 1) (NY := ["place", "places", "others", "line"]) (N := ["places", "others", "line"]) (sc0 := (zah (top 17))) rfl rfl (by decide +kernel)) rfl (by walk_at "E") (fun _ _ _ _ nd2 => ⟨(by walk_at "G"), (@zb7 _ _), (by walk_at "E")⟩) (by intro _ ; rfl))) (@zbF _ _) (by rfl)) (by rfl) (by rfl) (by rfl)))))))
theorem zeD (F : FA K mg "has_three_on_one" (top 32) ["places"] f fd) (q1 : mg "range" = none) (q2 : mg "len" = none) (q0 : zaF P w K mg base k "on_one" zbw) : zaF P w K mg base (k + 1) "has_three_on_one" zaU := F.ok (own' := []) (N := ["places", "k", "j", "i"]) (by kd_p1) rfl rfl fun _ _ _ _ _ _ C L nd => (@zad _ _ _ _ _ _ _ _ _ _ (@zcF _ _ _ _ _ _ _ _ _ _ _ _ L C.calm (by walk_at "E") (by walk_at "G") (@zaj _ _ _ _ _ _ _ (@zcF _ _ _ _ _ _ _ _ _ _ _ _ L C.calm (by walk_at "E") (by walk_at "G") (@zaj _ _ _ _ _ _ _ (@zcF _ _ _ _ _ _ _ _ _ _ _ _ L C.calm (by walk_at "E") (by walk_at "G") (@zaj _ _ _ _ _ _ _ (by walk_at "I3")) (by rfl) (by intro _ ; rfl))) (by rfl) (by intro _ ; rfl))) (by rfl) (by intro _ ; rfl)) (by kst_p1))
theorem zj9 (F : FA K mg "is_whole" (top 6) ["thing"] f fd) (q0 : mg "isinstance" = none) (q2 : mg "int" = none) (q1 : mg "bool" = none) : zaF P w K mg base (k + 1) "is_whole" zaR := F.ok (own' := []) (N := ["thing"]) (by kd_p1) rfl rfl fun _ _ _ _ _ _ C L nd => (@zaj _ _ _ _ _ _ _ (@zfm _ _ _ _ _ _ _ _ (@ziG _ _ _ _ _ _ _ _ (@zeI _ _ _ _ _ _ _ q0 (@zaB _ _ _ _ _ _ (by walk_at "E") (@zaB _ _ _ _ _ _ (@ziF _ _ _ _ _ q2 zuF (by rfl) (by decide) (by decide)) (@zbF _ _) (by rfl)) (by rfl)) (by rfl) (by rfl) (by rfl)) (@zqq _ _ _ _ _ _ (@zqr _ _ _ _ _ (@zeI _ _ _ _ _ _ _ q0 (@zaB _ _ _ _ _ _ (by walk_at "E") (@zaB _ _ _ _ _ _ (@ziF _ _ _ _ _ q1 zsi (by rfl) (by decide) (by decide)) (@zbF _ _) (by rfl)) (by rfl)) (by rfl) (by rfl) (by rfl)))))))
theorem zg4 (F : FA K mg "makes_place" (top 8) ["three"] f fd) (q1 : mg "all" = none) (q0 : zaF P w K mg base k "is_whole" zaR) : zaF P w K mg base (k + 1) "makes_place" zbn := F.ok (own' := []) (N := ["three"]) (by kd_p1) rfl rfl fun _ _ _ _ _ _ C L nd => (@zaj _ _ _ _ _ _ _ (@zfm _ _ _ _ _ _ _ _ (@ziG _ _ _ _ _ _ _ _ (@znl _ _ _ _ _ _ _ C.calm q1 (@zaB _ _ _ _ _ _ (@DF.val _ _ _ _ (@zga _ _ _ _ _ _ _ _ _ _ _ _ _ _ _ C.calm (LC.of (k := 1) (NY := ["thing", "three"]) (N := ["three"]) (sc0 := (zah (top 8))) rfl rfl (by decide +kernel)) rfl (by walk_at "E") (fun _ _ _ _ nd2 => ⟨(by walk_at "G"), (@zb7 _ _), (by walk_at "E")⟩) (by intro _ ; rfl))) (@zbF _ _) (by rfl)) (by rfl) (by rfl) (by rfl)) (by walk_at "E"))))
theorem zka (F : FA K mg "is_place" (top 7) ["thing"] f fd) (q1 : mg "isinstance" = none) (q3 : mg "tuple" = none) (q4 : mg "len" = none) (q0 : zaF P w K mg base k "makes_place" zbn) (q2 : zaF P w K mg base k "in_form" zb1) : zaF P w K mg base (k + 1) "is_place" zas := F.ok (own' := []) (N := ["thing"]) (by kd_p1) rfl rfl fun _ _ _ _ _ _ C L nd => (@zad _ _ _ _ _ _ _ _ _ _ (@zcj _ _ _ _ _ _ _ _ _ _ _ _ (@DW.dt _ _ _ _ (@zjJ _ _ _ _ _ _ _ _ (@zeb _ _ _ _ _ (@zfk _ _ _ _ (@zeI _ _ _ _ _ _ _ q1 (@zaB _ _ _ _ _ _ (by walk_at "E") (@zaB _ _ _ _ _ _ (@ziF _ _ _ _ _ q3 zfN (by rfl) (by decide) (by decide)) (@zbF _ _) (by rfl)) (by rfl)) (by rfl) (by rfl) (by rfl)) (by intro _ ; rfl))) (by walk_at "E"))) (by kst_p1) (@zaO _ _ _ _)) (@zad _ _ _ _ _ _ _ _ _ _ (by walk_at "I3") (by kst_p1)))
theorem zkb (F : FA K mg "is_floor" (top 20) ["thing"] f fd) (q1 : mg "isinstance" = none) (q3 : mg "list" = none) (q4 : mg "len" = none) (q5 : mg "all" = none) (q6 : mg "set" = none) (q0 : ∃ u v, mg "MOST_PEGS" = some u /\ zbf v u /\ ∀ G, Rep K mg G zcq v) (q2 : zaF P w K mg base k "is_place" zas) : zaF P w K mg base (k + 1) "is_floor" zaz := F.ok (own' := []) (N := ["thing"]) (by kd_p1) rfl rfl fun _ _ _ _ _ _ C L nd => (@zad _ _ _ _ _ _ _ _ _ _ (@zcj _ _ _ _ _ _ _ _ _ _ _ _ (@DW.dt _ _ _ _ (@zjJ _ _ _ _ _ _ _ _ (@zeb _ _ _ _ _ (@zfk _ _ _ _ (@zeI _ _ _ _ _ _ _ q1 (@zaB _ _ _ _ _ _ (by walk_at "E") (@zaB _ _ _ _ _ _ (@ziF _ _ _ _ _ q3 znk (by rfl) (by decide) (by decide)) (@zbF _ _) (by rfl)) (by rfl)) (by rfl) (by rfl) (by rfl)) (by intro _ ; rfl))) (@zm0 _ _ _ _ _ (@zeb _ _ _ _ _ (@ziN _ _ _ _ _ _ _ _ _ _ _ _ _ (@zpw _) (@zpw _) (@zdI _ _ _ _ _) (by walk_at "E") (by walk_at "E") (by with_unfolding_all rfl)))))) (by kst_p1) (@zaO _ _ _ _)) (@zad _ _ _ _ _ _ _ _ _ _ (@zcj _ _ _ _ _ _ _ _ _ _ _ _ (@zeb _ _ _ _ _ (@zfk _ _ _ _ (@znl _ _ _ _ _ _ _ C.calm q5 (@zaB _ _ _ _ _ _ (@DF.val _ _ _ _ (@zga _ _ _ _ _ _ _ _ _ _ _ _ _ _ _ C.calm (LC.of (k := 1) (NY := ["member", "thing"]) (N := ["thing"]) (sc0 := (zah (top 20))) rfl rfl (by decide +kernel)) rfl (by walk_at "E") (fun _ _ _ _ nd2 => ⟨(by walk_at "G"), (@zb7 _ _), (by walk_at "E")⟩) (by intro _ ; rfl))) (@zbF _ _) (by rfl)) (by rfl) (by rfl) (by rfl)) (by intro _ ; rfl))) (by kst_p1) (@zaO _ _ _ _)) (by kst_p1)))
theorem zgO (F : FA K mg "look_at_bent" (top 31) ["places", "many"] f fd) {q2 : Addr} (q3 : mg "NoBow" = some (.ref q2)) (q4 : PySem.W.excIn K q2 [.type "ValueError", .type "Exception", .type "BaseException", .type "object"] "ValueError.__new__" = true) (q5 : zoN K mg "NoBow" q2) (q6 : mg "len" = none) (q1 : zaF P w K mg base k "is_floor" zaz) (q0 : zaF P w K mg base k "has_three_on_one" zaU) : zaF P w K mg base (k + 1) "look_at_bent" zan := F.ok (own' := []) (N := ["places", "many"]) (by kd_p1) rfl rfl fun _ _ _ _ _ _ C L nd => (@zaj _ _ _ _ _ _ _ (@zcj _ _ _ _ _ _ _ _ _ _ _ _ (by walk_at "E") (@zaj _ _ _ _ _ _ _ (@zno _ _ _ _ _ _ _ _ _ _ _ _ _ _ _ _ _ _ _ _ _ _ _ _ _ _ q4 q5 (by rfl) (by decide))) (@zaO _ _ _ _)))
theorem zoH (F : FA K mg "lowest" (top 22) ["numbers"] f fd) (q1 : mg "tuple" = none) (q0 : zaF P w K mg base k "divisor" zbl) : zaF P w K mg base (k + 1) "lowest" zeR := F.ok (own' := []) (N := ["numbers", "part", "number"]) (by kd_p1) rfl rfl fun _ _ _ _ _ _ C L nd => (@zad _ _ _ _ _ _ _ _ _ _ (by kst_p) (@zad _ _ _ _ _ _ _ _ _ _ (@zcF _ _ _ _ _ _ _ _ _ _ _ _ L C.calm (by walk_at "E") (by walk_at "G") (@zaj _ _ _ _ _ _ _ (by kst_p)) (by rfl) (by intro _ ; rfl)) (@zad _ _ _ _ _ _ _ _ _ _ (@zcj _ _ _ _ _ _ _ _ _ _ _ _ (@zdL _ _ _ _ _ _ _ _ _ (@zni _) (@zpr _ _ _ _ _ _ _ (@DF.val _ _ _ _ (@zga _ _ _ _ _ _ _ _ _ _ _ _ _ _ _ C.calm (LC.of (k := 1) (NY := ["number", "numbers", "part", "?number"]) (N := ["numbers", "part", "number"]) (sc0 := (zah (top 22))) rfl rfl (by decide +kernel)) rfl (by walk_at "E") (fun _ _ _ _ nd2 => ⟨(by walk_at "G"), (@zhV _ _ _ _ (by walk_at "E")), (by walk_at "E")⟩) (by intro _ ; rfl))) (@zdI _ _ _ _ _) (by intro _ _ ; rfl)) (@zdI _ _ _ _ _) (by first | exact zaZ _ (by decide) (by decide) | rfl)) (@zaj _ _ _ _ _ _ _ (by kst_p)) (@zaO _ _ _ _)) (@zaj _ _ _ _ _ _ _ (@zfm _ _ _ _ _ _ _ _ (@zkx _ _ _ _ _ _ _ q1 (@zaB _ _ _ _ _ _ (@DF.val _ _ _ _ (@zga _ _ _ _ _ _ _ _ _ _ _ _ _ _ _ C.calm (LC.of (k := 1) (NY := ["number", "numbers", "part", "?number"]) (N := ["numbers", "part", "number"]) (sc0 := (zah (top 22))) rfl rfl (by decide +kernel)) rfl (by walk_at "E") (fun _ _ _ _ nd2 => ⟨(by walk_at "G"), (@zb7 _ _), (by walk_at "E")⟩) (by intro _ ; rfl))) (@zbF _ _) (by rfl)) (by rfl) (by rfl) (by rfl)))))))
theorem zg5 (F : FA K mg "pair_as_bow" (top 33) ["pair"] f fd) (q0 : mg "range" = none) : zaF P w K mg base (k + 1) "pair_as_bow" za4 := F.ok (own' := []) (N := ["pair", "one", "other", "squares", "mixed"]) (by kd_p1) rfl rfl fun _ _ _ _ _ _ C L nd => (@zad _ _ _ _ _ _ _ _ _ _ (by kst_p) (@zad _ _ _ _ _ _ _ _ _ _ (by kst_p) (@zad _ _ _ _ _ _ _ _ _ _ (@zfK _ _ _ _ _ _ _ _ _ _ _ _ _ _ _ _ _ _ _ _ 3 C.calm nd (LC.of (k := 1) (NY := ["k", "pair", "one", "other", "squares", "mixed"]) (N := ["pair", "one", "other", "squares", "mixed"]) (sc0 := (zah (top 33))) rfl rfl (by decide +kernel)) rfl (by walk_at "E") (fun _ _ _ _ nd2 => ⟨(by walk_at "G"), (@zb7 _ _), (by walk_at "E")⟩) (by rfl) (by rfl) (by rfl) (by rfl) (by intro _ ; rfl)) (@zad _ _ _ _ _ _ _ _ _ _ (@zfK _ _ _ _ _ _ _ _ _ _ _ _ _ _ _ _ _ _ _ _ 4 C.calm nd (LC.of (k := 2) (NY := ["j", "k", "pair", "one", "other", "squares", "mixed"]) (N := ["pair", "one", "other", "squares", "mixed"]) (sc0 := (zah (top 33))) rfl rfl (by decide +kernel)) rfl (by walk_at "E") (fun _ _ _ _ nd2 => ⟨(by walk_at "G"), (@zb7 _ _), (by walk_at "E")⟩) (by rfl) (by rfl) (by rfl) (by rfl) (by intro _ ; rfl)) (by kst_p1)))))
theorem zoI (F : FA K mg "bow_of" (top 30) ["five"] f fd) (q4 : mg "zip" = none) (q0 : zaF P w K mg base k "look_at_bent" zan) (q2 : zaF P w K mg base k "through" zaA) (q5 : zaF P w K mg base k "dot" zgz) (q1 : zaF P w K mg base k "pair_as_bow" za4) (q3 : zaF P w K mg base k "lowest" zeR) : zaF P w K mg base (k + 1) "bow_of" zdo := F.ok (own' := []) (N := ["five", "one", "other", "part", "less", "sixes"]) (by kd_p1) rfl rfl fun _ _ _ _ _ _ C L nd => (@zad _ _ _ _ _ _ _ _ _ _ (by walk_at "s4") (@zad _ _ _ _ _ _ _ _ _ _ (by kst_p) (@zad _ _ _ _ _ _ _ _ _ _ (by kst_p) (@zad _ _ _ _ _ _ _ _ _ _ (by kst_p) (@zad _ _ _ _ _ _ _ _ _ _ (by kst_p) (@zad _ _ _ _ _ _ _ _ _ _ (by kst_p) (@zaj _ _ _ _ _ _ _ (@zfm _ _ _ _ _ _ _ _ (@zm4 _ _ _ _ _ _ _ _ _ _ C q3 (@zaB _ _ _ _ _ _ (@DF.val _ _ _ _ (@zga _ _ _ _ _ _ _ _ _ _ _ _ _ _ _ C.calm (LC.of (k := 2) (NY := ["number", "like", "five", "one", "other", "part", "less", "sixes"]) (N := ["five", "one", "other", "part", "less", "sixes"]) (sc0 := (zah (top 30))) rfl rfl (by decide +kernel)) rfl (by walk_at "E") (fun _ _ _ _ nd2 => ⟨(by walk_at "G"), (@zb7 _ _), (by walk_at "E")⟩) (by intro _ ; rfl))) (@zbF _ _) (by rfl)) (by rfl) (by decide) (by rfl) (by rfl))))))))))
theorem zoJ (F : FA K mg "on_bow" (top 34) ["bow", "place"] f fd) (q0 : mg "sum" = none) (q1 : mg "zip" = none) : zaF P w K mg base (k + 1) "on_bow" zcN := F.ok (own' := []) (N := ["bow", "place", "x", "y", "z", "parts"]) (by kd_p1) rfl rfl fun _ _ _ _ _ _ C L nd => (@zad _ _ _ _ _ _ _ _ _ _ (by kst_p) (@zad _ _ _ _ _ _ _ _ _ _ (by kst_p) (@zad _ _ _ _ _ _ _ _ _ _ (by kst_p) (@zad _ _ _ _ _ _ _ _ _ _ (by kst_p) (@zaj _ _ _ _ _ _ _ (@zfm _ _ _ _ _ _ _ _ (@znj _ _ _ _ _ _ _ _ _ (@zsh _ _ _ C) (@zqx _ _ _ _ _ _ _ C.calm q0 (@zaB _ _ _ _ _ _ (@DF.val _ _ _ _ (@zga _ _ _ _ _ _ _ _ _ _ _ _ _ _ _ C.calm (LC.of (k := 2) (NY := ["number", "part", "bow", "place", "x", "y", "z", "parts"]) (N := ["bow", "place", "x", "y", "z", "parts"]) (sc0 := (zah (top 34))) rfl rfl (by decide +kernel)) rfl (by walk_at "E") (fun _ _ _ _ nd2 => ⟨(by walk_at "G"), (@zb7 _ _), (by walk_at "E")⟩) (by intro _ ; rfl))) (@zbF _ _) (by rfl)) (by rfl) (by rfl) (by rfl)) (@zdI _ _ _ _ _) (by first | exact zaZ _ (by decide) (by decide) | rfl))))))))
theorem zma (F : FA K mg "is_deed" (top 25) ["thing"] f fd) (q0 : mg "isinstance" = none) (q2 : mg "tuple" = none) (q3 : mg "len" = none) (q4 : mg "str" = none) (q1 : zaF P w K mg base k "is_whole" zaR) : zaF P w K mg base (k + 1) "is_deed" zb4 := F.ok (own' := []) (N := ["thing"]) (by kd_p1) rfl rfl fun _ _ _ _ _ _ C L nd => (@zad _ _ _ _ _ _ _ _ _ _ (@zcj _ _ _ _ _ _ _ _ _ _ _ _ (@DW.dt _ _ _ _ (@zjJ _ _ _ _ _ _ _ _ (@zeb _ _ _ _ _ (@zfk _ _ _ _ (@zeI _ _ _ _ _ _ _ q0 (@zaB _ _ _ _ _ _ (by walk_at "E") (@zaB _ _ _ _ _ _ (@ziF _ _ _ _ _ q2 zfN (by rfl) (by decide) (by decide)) (@zbF _ _) (by rfl)) (by rfl)) (by rfl) (by rfl) (by rfl)) (by intro _ ; rfl))) (by walk_at "E"))) (by kst_p1) (@zaO _ _ _ _)) (@zad _ _ _ _ _ _ _ _ _ _ (@zcj _ _ _ _ _ _ _ _ _ _ _ _ (@DW.dt _ _ _ _ (@zjJ _ _ _ _ _ _ _ _ (@zeb _ _ _ _ _ (@zfk _ _ _ _ (@zeI _ _ _ _ _ _ _ q0 (@zaB _ _ _ _ _ _ (by walk_at "E") (@zaB _ _ _ _ _ _ (@ziF _ _ _ _ _ q4 zuG (by rfl) (by decide) (by decide)) (@zbF _ _) (by rfl)) (by rfl)) (by rfl) (by rfl) (by rfl)) (by intro _ ; rfl))) (by walk_at "E"))) (by kst_p1) (@zaO _ _ _ _)) (by kst_p1)))
theorem zmb (F : FA K mg "pair_of" (top 26) ["known", "deed", "at"] f fd) (q0 : mg "len" = none) : zaF P w K mg base (k + 1) "pair_of" zaS := F.ok (own' := []) (N := ["known", "deed", "at", "number", "one", "other"]) (by kd_p1) rfl rfl fun _ _ _ _ _ _ C L nd => (@zad _ _ _ _ _ _ _ _ _ _ (@zcF _ _ _ _ _ _ _ _ _ _ _ _ L C.calm (by walk_at "E") (by walk_at "G") (@zaj _ _ _ _ _ _ _ (@zcj _ _ _ _ _ _ _ _ _ _ _ _ (@zeb _ _ _ _ _ (@ziN _ _ _ _ _ _ _ _ _ _ _ _ _ (@zpw _) (@zni _) (@zdI _ _ _ _ _) (by walk_at "E") (by walk_at "E") (by with_unfolding_all rfl))) (@zaj _ _ _ _ _ _ _ (@ziL _ _ _ _ _ _)) (@zaO _ _ _ _))) (by rfl) (by intro _ ; rfl)) (@zad _ _ _ _ _ _ _ _ _ _ (by kst_p) (@zad _ _ _ _ _ _ _ _ _ _ (by kst_p) (@zad _ _ _ _ _ _ _ _ _ _ (@zcj _ _ _ _ _ _ _ _ _ _ _ _ (by walk_at "E") (@zaj _ _ _ _ _ _ _ (@ziL _ _ _ _ _ _)) (@zaO _ _ _ _)) (by kst_p1)))))
theorem zkc (F : FA K mg "crossing" (top 15) ["one", "other"] f fd) (q0 : zaF P w K mg base k "between_two" zaK) : zaF P w K mg base (k + 1) "crossing" zbK := F.ok (own' := []) (N := ["one", "other"]) (by kd_p1) rfl rfl fun _ _ _ _ _ _ C L nd => (by kst_p1)
theorem zoK (F : FA K mg "walked" (top 24) ["places", "plan"] f fd) (q5 : mg "list" = none) (q0 : mg "enumerate" = none) (q2 : zaF P w K mg base k "is_deed" zb4) (q3 : zaF P w K mg base k "pair_of" zaS) (q4 : zaF P w K mg base k "through" zaA) (q1 : zaF P w K mg base k "crossing" zbK) : zaF P w K mg base (k + 1) "walked" zcu := F.ok (own' := []) (N := ["places", "plan", "pegs", "lines", "at", "deed", "pair"]) (by kd_p1) rfl rfl fun _ _ _ _ _ _ C L nd => (@zad _ _ _ _ _ _ _ _ _ _ (by walk_at "s5") (@zad _ _ _ _ _ _ _ _ _ _ (by walk_at "s5") (@zad _ _ _ _ _ _ _ _ _ _ (@zcF _ _ _ _ _ _ _ _ _ _ _ _ L C.calm (by walk_at "E") (by walk_at "G") (@zad _ _ _ _ _ _ _ _ _ _ (@zcj _ _ _ _ _ _ _ _ _ _ _ _ (by walk_at "E") (@zaj _ _ _ _ _ _ _ (@ziL _ _ _ _ _ _)) (@zaO _ _ _ _)) (@zaj _ _ _ _ _ _ _ (@zcj _ _ _ _ _ _ _ _ _ _ _ _ (by walk_at "E") (@zad _ _ _ _ _ _ _ _ _ _ (by walk_at "s2") (@zaj _ _ _ _ _ _ _ (by walk_at "s7"))) (@zad _ _ _ _ _ _ _ _ _ _ (by walk_at "s2") (@zaj _ _ _ _ _ _ _ (by walk_at "s7")))))) (by rfl) (by intro _ ; rfl)) (@ze9 _ _ _ _ _ _ _ _ 3 (by rfl) (by rfl) (@ze9 _ _ _ _ _ _ _ _ 2 (by rfl) (by rfl) (by kst_p1))))))
theorem zp9 (F : FA K mg "again" (top 35) ["five", "place"] f fd) (q4 : mg "list" = none) (q1 : ∃ u v, mg "PLAN" = some u /\ zbf v u /\ ∀ G, Rep K mg G zlq v) (q2 : ∃ u v, mg "LAST" = some u /\ zbf v u /\ ∀ G, Rep K mg G zlr v) (q0 : zaF P w K mg base k "look_at_bent" zan) (q3 : zaF P w K mg base k "walked" zcu) : zaF P w K mg base (k + 1) "again" zbR := F.ok (own' := []) (N := ["five", "place"]) (by kd_p1) rfl rfl fun _ _ _ _ _ _ C L nd => (@zad _ _ _ _ _ _ _ _ _ _ (by walk_at "s4") (@zad _ _ _ _ _ _ _ _ _ _ (@zcj _ _ _ _ _ _ _ _ _ _ _ _ (by walk_at "E") (@zaj _ _ _ _ _ _ _ (@ziL _ _ _ _ _ _)) (@zaO _ _ _ _)) (by kst_p1)))
theorem zvt (F : FA K mg "six" (top 36) ["places"] f fd) (q0 : zaF P w K mg base k "look_at_bent" zan) (q1 : zaF P w K mg base k "bow_of" zdo) (q2 : zaF P w K mg base k "on_bow" zcN) (q3 : zaF P w K mg base k "again" zbR) : zaF P w K mg base (k + 1) "six" zgZ := F.ok (own' := []) (N := ["places", "bow"]) (by kd_p1) rfl rfl fun _ _ _ _ _ _ C L nd => (@zad _ _ _ _ _ _ _ _ _ _ (by walk_at "s4") (@zad _ _ _ _ _ _ _ _ _ _ (by kst_p) (@zad _ _ _ _ _ _ _ _ _ _ (by walk_at "I3") (by kst_p1))))
theorem zgP (F : FA K mg "_law_refused" (top 48) ["_law_places"] f fd) {q0 : Addr} (q1 : mg "ChalkError" = some (.ref q0)) {q4 : Addr} (q5 : mg "NoBow" = some (.ref q4)) {q6 : Addr} (q7 : mg "Same" = some (.ref q6)) (q2 : mg "isinstance" = none) (q3 : mg "ValueError" = none) (q8 : zaF P w K mg base k "six" zgZ) : zaF P w K mg base (k + 1) "_law_refused" zaM := F.ok (own' := []) (N := ["_law_places", "_law_refused_here", "_law_e"]) (by kd_p1) rfl rfl fun _ _ _ _ _ _ C L nd => (@zad _ _ _ _ _ _ _ _ _ _ (by kst_p) (@zad _ _ _ _ _ _ _ _ _ _ (@zuU _ _ _ _ 2 _ _ _ _ _ _ _ _ _ rfl rfl nd q1 (@zpB _ _ _ (@zpD _ _ _ _ _ _ _ _ _ _ C.room q8 (by walk_at "E") (by rfl) (by decide) (by rfl) (by rfl) (by rfl))) (fun _ => (@zaj _ _ _ _ _ _ _ (by kst_p))) (by rfl) (by rfl) (by rfl) (by decide)) (@zaj _ _ _ _ _ _ _ (@zfm _ _ _ _ _ _ _ _ (@ziG _ _ _ _ _ _ _ _ (by walk_at "E") (@ziG _ _ _ _ _ _ _ _ (@zeI _ _ _ _ _ _ _ q2 (@zaB _ _ _ _ _ _ (by walk_at "E") (@zaB _ _ _ _ _ _ (@ziF _ _ _ _ _ q3 zhZ (by rfl) (by decide) (by decide)) (@zbF _ _) (by rfl)) (by rfl)) (by rfl) (by rfl) (by rfl)) (by walk_at "E")))))))
theorem zid (F : FA K mg "_law_right" (top 49) ["_law_places"] f fd) (q8 : mg "list" = none) (q1 : mg "isinstance" = none) (q6 : mg "tuple" = none) (q9 : mg "len" = none) (q10 : mg "sum" = none) (q11 : mg "zip" = none) (q2 : zaF P w K mg base k "_law_lines" zcy) (q0 : zaF P w K mg base k "_law_refused" zaM) (q12 : zaF P w K mg base k "six" zgZ) (q4 : zaF P w K mg base k "bow_of" zdo) (q3 : zaF P w K mg base k "_law_det" zaN) (q5 : zaF P w K mg base k "on_bow" zcN) (q7 : zaF P w K mg base k "again" zbR) : zaF P w K mg base (k + 1) "_law_right" zbr := F.ok (own' := []) (N := ["_law_places", "_law_handed", "_law_found", "_law_bow", "_law_x", "_law_y", "_law_z", "_law_some"]) (by kd_p1) rfl rfl fun _ _ _ _ _ _ C L nd => (@zad _ _ _ _ _ _ _ _ _ _ (by kst_p) (@zad _ _ _ _ _ _ _ _ _ _ (by walk_at "I3") (@zad _ _ _ _ _ _ _ _ _ _ (by kst_p) (@zad _ _ _ _ _ _ _ _ _ _ (@zcj _ _ _ _ _ _ _ _ _ _ _ _ (@DW.dt _ _ _ _ (@zjJ _ _ _ _ _ _ _ _ (@zeb _ _ _ _ _ (@zfk _ _ _ _ (@zeI _ _ _ _ _ _ _ q1 (@zaB _ _ _ _ _ _ (by walk_at "E") (@zaB _ _ _ _ _ _ (@ziF _ _ _ _ _ q6 zfN (by rfl) (by decide) (by decide)) (@zbF _ _) (by rfl)) (by rfl)) (by rfl) (by rfl) (by rfl)) (by intro _ ; rfl))) (by walk_at "E"))) (by kst_p1) (@zaO _ _ _ _)) (@zad _ _ _ _ _ _ _ _ _ _ (by kst_p) (@zad _ _ _ _ _ _ _ _ _ _ (by walk_at "s9") (@zad _ _ _ _ _ _ _ _ _ _ (by kst_p) (@zad _ _ _ _ _ _ _ _ _ _ (@zcj _ _ _ _ _ _ _ _ _ _ _ _ (@zdL _ _ _ _ _ _ _ _ _ (@zsh _ _ _ C) (@zqx _ _ _ _ _ _ _ C.calm q10 (@zaB _ _ _ _ _ _ (@DF.val _ _ _ _ (@zga _ _ _ _ _ _ _ _ _ _ _ _ _ _ _ C.calm (LC.of (k := 2) (NY := ["_law_one", "_law_other", "_law_places", "_law_handed", "_law_found", "_law_bow", "_law_x", "_law_y", "_law_z", "_law_some"]) (N := ["_law_places", "_law_handed", "_law_found", "_law_bow", "_law_x", "_law_y", "_law_z", "_law_some"]) (sc0 := (zah (top 49))) rfl rfl (by decide +kernel)) rfl (by walk_at "E") (fun _ _ _ _ nd2 => ⟨(by walk_at "G"), (@zb7 _ _), (by walk_at "E")⟩) (by intro _ ; rfl))) (@zbF _ _) (by rfl)) (by rfl) (by rfl) (by rfl)) (@zdI _ _ _ _ _) (by first | exact zaZ _ (by decide) (by decide) | rfl)) (by kst_p1) (@zaO _ _ _ _)) (@zad _ _ _ _ _ _ _ _ _ _ (by walk_at "I3") (by kst_p1))))))))))
abbrev zg6 : Stmt := top 51
theorem zrp : zdg ["_law_script", "_law_cell", "_law_some", "_law_rows", "_law_places", "_law_odd", "_law_few"] ["_law_script"] (zah zg6) := by kd_p1
theorem zvu (F : Fun K "law" "law" zg6 f fd) (q7 : mg "range" = none) (q8 : mg "tuple" = none) (q0 : zaF P w K mg base k "_law_numbers" zaL) (q2 : zaF P w K mg base k "_law_change" zbz) (q3 : zgV P w K mg base k "_law_curve" zbc) (q4 : zaF P w K mg base k "_law_place" zaE) (q6 : zaF P w K mg base k "_law_sum" zdW) (q5 : zaF P w K mg base k "_law_right" zbr) (q1 : zaF P w K mg base k "_law_refused" zaM) : zgR P w K mg base (CXe P w) (k + 1) f fd ["_law_script"] (spD K mg ze0) := by
 refine zso (own' := []) F zrp rfl rfl fun X E hX C L => ?_
 obtain ⟨cdv, A, outer, s, H, rfl⟩ := hX
 have nd := zrp.nd
 exact (@zad _ _ _ _ _ _ _ _ _ _ (@zcF _ _ _ _ _ _ _ _ _ _ _ _ L C.calm (by walk_at "E") (by walk_at "G") (@zad _ _ _ _ _ _ _ _ _ _ (by kst_p) (@zad _ _ _ _ _ _ _ _ _ _ (by kst_p) (@zad _ _ _ _ _ _ _ _ _ _ (by walk_at "s5") (@zad _ _ _ _ _ _ _ _ _ _ (@zcj _ _ _ _ _ _ _ _ _ _ _ _ (by walk_at "E") (@zaj _ _ _ _ _ _ _ (@zpt _ _ _ _ _ _ _ _ _ _ _ _ _ _ _ _ _ _ _ _ _ 4 C.calm nd (LC.of (k := 1) (NY := ["_law_k", "_law_script", "_law_cell", "_law_some", "_law_rows", "_law_places", "_law_odd", "_law_few"]) (N := ["_law_script", "_law_cell", "_law_some", "_law_rows", "_law_places", "_law_odd", "_law_few"]) (sc0 := (zah zg6)) rfl rfl (by decide +kernel)) rfl (by walk_at "E") (fun _ _ _ _ nd2 => ⟨(by walk_at "G"), (@zb7 _ _), (by walk_at "E")⟩) (by rfl) (by rfl) (by rfl) (by rfl) (by intro _ ; rfl))) (@zaO _ _ _ _)) (@zad _ _ _ _ _ _ _ _ _ _ (@zcj _ _ _ _ _ _ _ _ _ _ _ _ (by walk_at "E") (@zaj _ _ _ _ _ _ _ (by walk_at "sb")) (@zaO _ _ _ _)) (@zad _ _ _ _ _ _ _ _ _ _ (@zcj _ _ _ _ _ _ _ _ _ _ _ _ (by walk_at "E") (@zad _ _ _ _ _ _ _ _ _ _ (by walk_at "sc2") (@ze9 _ _ _ _ _ _ _ _ 4 (by rfl) (by rfl) (@zaO _ _ _ _))) (@ze9 _ _ _ _ _ _ _ _ 4 (by rfl) (by rfl) (@zaO _ _ _ _))) (@zad _ _ _ _ _ _ _ _ _ _ (by kst_p) (@zad _ _ _ _ _ _ _ _ _ _ (by kst_p) (@zad _ _ _ _ _ _ _ _ _ _ (by kst_p) (@zaj _ _ _ _ _ _ _ (by walk_at "I3"))))))))))) (by rfl) (by intro _ ; rfl)) (by kst_p1))
set_option maxHeartbeats 4000000 in
theorem all_mk {l : PySem.W.OpenLaw} {w : World} {K : xFg} {h : Heap} {mg : Str -> Option Value} {fa f36 : Addr} (X : K.In h) (G : h.Ns mainGlobals mg) (hfa : mg "law" = some (.ref fa))
  {od36 an36 : Option Addr} {sl36 : Array (Option Value)} {oc36 kV36 dc36 pm36 cd36 ct36 : Value}
  {C_ChalkError C_Same C_NoDeed C_NoBow : Addr}
  (d0 : FD K "_law_numbers" (top 38))
  (d1 : FD K "_law_det" (top 43))
  (d2 : FD K "_law_change" (top 44))
  (d3 : FD K "_law_lowest" (top 40))
  (d4 : FD K "_law_dot" (top 42))
  (d5 : FD K "_law_led" (top 45))
  (d6 : FD K "_law_curve" (top 46))
  (d7 : FD K "_law_place" (top 41))
  (d8 : FD K "_law_sum" (top 50))
  (d9 : FD K "_law_lines" (top 47))
  (d10 : FD K "divisor" (top 10))
  (d11 : FD K "in_form" (top 9))
  (d12 : FD K "cross" (top 13))
  (d13 : FD K "between_two" (top 16))
  (d14 : FD K "through" (top 14))
  (d15 : FD K "dot" (top 12))
  (d16 : FD K "lies" (top 11))
  (d17 : FD K "on_one" (top 17))
  (d18 : FD K "has_three_on_one" (top 32))
  (d19 : FD K "is_whole" (top 6))
  (d20 : FD K "makes_place" (top 8))
  (d21 : FD K "is_place" (top 7))
  (d22 : FD K "is_floor" (top 20))
  (d23 : FD K "look_at_bent" (top 31))
  (d24 : FD K "lowest" (top 22))
  (d25 : FD K "pair_as_bow" (top 33))
  (d26 : FD K "bow_of" (top 30))
  (d27 : FD K "on_bow" (top 34))
  (d28 : FD K "is_deed" (top 25))
  (d29 : FD K "pair_of" (top 26))
  (d30 : FD K "crossing" (top 15))
  (d31 : FD K "walked" (top 24))
  (d32 : FD K "again" (top 35))
  (d33 : FD K "six" (top 36))
  (d34 : FD K "_law_refused" (top 48))
  (d35 : FD K "_law_right" (top 49))
  (a36 : PySem.W.nsIn K mainGlobals "law" = some (some (.ref f36))) (l36 : K.lookup f36 = some ⟨oc36, od36, .func (PySem.W.fnOf "law" "law" (zdF zg6) (zbC zg6) (zah zg6) .none kV36 dc36 pm36 an36 cd36 ct36), sl36⟩) (c36 : PySem.W.codeIn K cd36 "law" = true) (k36 : PySem.W.keepIn K (.ref f36) = true)
  (z_max : PySem.W.nsIn K mainGlobals "max" = some none)
  (z_range : PySem.W.nsIn K mainGlobals "range" = some none)
  (z_abs : PySem.W.nsIn K mainGlobals "abs" = some none)
  (z_len : PySem.W.nsIn K mainGlobals "len" = some none)
  (z_all : PySem.W.nsIn K mainGlobals "all" = some none)
  (z_isinstance : PySem.W.nsIn K mainGlobals "isinstance" = some none)
  (z_int : PySem.W.nsIn K mainGlobals "int" = some none)
  (z_bool : PySem.W.nsIn K mainGlobals "bool" = some none)
  (z_tuple : PySem.W.nsIn K mainGlobals "tuple" = some none)
  (z_list : PySem.W.nsIn K mainGlobals "list" = some none)
  (z_set : PySem.W.nsIn K mainGlobals "set" = some none)
  (z_zip : PySem.W.nsIn K mainGlobals "zip" = some none)
  (z_sum : PySem.W.nsIn K mainGlobals "sum" = some none)
  (z_str : PySem.W.nsIn K mainGlobals "str" = some none)
  (z_enumerate : PySem.W.nsIn K mainGlobals "enumerate" = some none)
  (z_ValueError : PySem.W.nsIn K mainGlobals "ValueError" = some none)
  (e_ChalkError : PySem.W.nsIn K mainGlobals "ChalkError" = some (some (.ref C_ChalkError)))
  (e_Same : PySem.W.nsIn K mainGlobals "Same" = some (some (.ref C_Same)))
  (e_NoDeed : PySem.W.nsIn K mainGlobals "NoDeed" = some (some (.ref C_NoDeed)))
  (e_NoBow : PySem.W.nsIn K mainGlobals "NoBow" = some (some (.ref C_NoBow)))
  (y_NoBow : PySem.W.excIn K C_NoBow [.type "ValueError", .type "Exception", .type "BaseException", .type "object"] "ValueError.__new__" = true)
  (xga_NoBow : PySem.W.findIn K (.ref C_NoBow) "__getattribute__" = some (some (.builtin "BaseException.__getattribute__")))
  (xgh_NoBow : PySem.W.findIn K (.ref C_NoBow) "__getattr__" = some none)
  (xbs_NoBow : PySem.W.mroIn K C_NoBow (.type "BaseException") = some true)
  (xob_NoBow : PySem.W.mroIn K C_NoBow (.type "object") = some true)
  (xca_NoBow : PySem.W.findIn K (.ref C_NoBow) "__class__" = some (some (.builtin "object.__class__")))
  (xvv_NoBow : PySem.W.kitOne K (.ref C_NoBow) (.type "ValueError") = some true)
  (t_NoBow_ChalkError : PySem.W.kitOne K (.ref C_NoBow) (.ref C_ChalkError) = some true)
  (u_NoBow_ChalkError : PySem.W.exmOne K (.ref C_NoBow) (.ref C_ChalkError) = some true)
  (v_NoPlace : PySem.W.nsIn K mainGlobals "NoPlace" = some none)
  (t_NoBow_Same : PySem.W.kitOne K (.ref C_NoBow) (.ref C_Same) = some false)
  (v_NoFloor : PySem.W.nsIn K mainGlobals "NoFloor" = some none)
  (v_Endless : PySem.W.nsIn K mainGlobals "Endless" = some none)
  (t_NoBow_NoDeed : PySem.W.kitOne K (.ref C_NoBow) (.ref C_NoDeed) = some false)
  (v_NoText : PySem.W.nsIn K mainGlobals "NoText" = some none)
  (v_NoName : PySem.W.nsIn K mainGlobals "NoName" = some none)
  (v_TooMany : PySem.W.nsIn K mainGlobals "TooMany" = some none)
  (v_NoChange : PySem.W.nsIn K mainGlobals "NoChange" = some none)
  (v_NoFrame : PySem.W.nsIn K mainGlobals "NoFrame" = some none)
  (v_NoValue : PySem.W.nsIn K mainGlobals "NoValue" = some none)
  (v_Unlike : PySem.W.nsIn K mainGlobals "Unlike" = some none)
  (v_NoRatio : PySem.W.nsIn K mainGlobals "NoRatio" = some none)
  (t_NoBow_NoBow : PySem.W.kitOne K (.ref C_NoBow) (.ref C_NoBow) = some true)
  (u_NoBow_NoBow : PySem.W.exmOne K (.ref C_NoBow) (.ref C_NoBow) = some true)
  (v_NoRow : PySem.W.nsIn K mainGlobals "NoRow" = some none)
  (xcg : PySem.W.specialIn K (.builtin "object.__class__") "__get__" = some (some (.builtin "getset_descriptor.__get__"))) (xct : PySem.W.takesIn K (.builtin "object.__class__") = some true)
  {t_MOST_PEGS : Tok} (q_MOST_PEGS : PySem.W.nsIn K mainGlobals "MOST_PEGS" = some (some (.int 12 t_MOST_PEGS)))
  {a_PLAN : Addr} {n_PLAN : Nat} {sl_PLAN : Array (Option Value)} {b0_PLAN b1_PLAN b2_PLAN b3_PLAN b4_PLAN b5_PLAN b6_PLAN b7_PLAN b8_PLAN b9_PLAN b10_PLAN : Addr} (q_PLAN : PySem.W.nsIn K mainGlobals "PLAN" = some (some (.ref a_PLAN))) (lq_PLAN : K.lookup a_PLAN = some ⟨.type "list", none, .seq #[.ref b0_PLAN, .ref b1_PLAN, .ref b2_PLAN, .ref b3_PLAN, .ref b4_PLAN, .ref b5_PLAN, .ref b6_PLAN, .ref b7_PLAN, .ref b8_PLAN, .ref b9_PLAN, .ref b10_PLAN] n_PLAN, sl_PLAN⟩)
  {n0_PLAN : Nat} {dd0_PLAN : Option Addr} {sl0_PLAN : Array (Option Value)} {t0_0_PLAN t0_1_PLAN t0_2_PLAN : Tok} (lq0_PLAN : K.lookup b0_PLAN = some ⟨.type "tuple", dd0_PLAN, .seq #[.str "line" t0_0_PLAN, .int 0 t0_1_PLAN, .int 5 t0_2_PLAN] n0_PLAN, sl0_PLAN⟩)
  {n1_PLAN : Nat} {dd1_PLAN : Option Addr} {sl1_PLAN : Array (Option Value)} {t1_0_PLAN t1_1_PLAN t1_2_PLAN : Tok} (lq1_PLAN : K.lookup b1_PLAN = some ⟨.type "tuple", dd1_PLAN, .seq #[.str "line" t1_0_PLAN, .int 2 t1_1_PLAN, .int 3 t1_2_PLAN] n1_PLAN, sl1_PLAN⟩)
  {n2_PLAN : Nat} {dd2_PLAN : Option Addr} {sl2_PLAN : Array (Option Value)} {t2_0_PLAN t2_1_PLAN t2_2_PLAN : Tok} (lq2_PLAN : K.lookup b2_PLAN = some ⟨.type "tuple", dd2_PLAN, .seq #[.str "peg" t2_0_PLAN, .int 0 t2_1_PLAN, .int 1 t2_2_PLAN] n2_PLAN, sl2_PLAN⟩)
  {n3_PLAN : Nat} {dd3_PLAN : Option Addr} {sl3_PLAN : Array (Option Value)} {t3_0_PLAN t3_1_PLAN t3_2_PLAN : Tok} (lq3_PLAN : K.lookup b3_PLAN = some ⟨.type "tuple", dd3_PLAN, .seq #[.str "line" t3_0_PLAN, .int 0 t3_1_PLAN, .int 1 t3_2_PLAN] n3_PLAN, sl3_PLAN⟩)
  {n4_PLAN : Nat} {dd4_PLAN : Option Addr} {sl4_PLAN : Array (Option Value)} {t4_0_PLAN t4_1_PLAN t4_2_PLAN : Tok} (lq4_PLAN : K.lookup b4_PLAN = some ⟨.type "tuple", dd4_PLAN, .seq #[.str "line" t4_0_PLAN, .int 3 t4_1_PLAN, .int 4 t4_2_PLAN] n4_PLAN, sl4_PLAN⟩)
  {n5_PLAN : Nat} {dd5_PLAN : Option Addr} {sl5_PLAN : Array (Option Value)} {t5_0_PLAN t5_1_PLAN t5_2_PLAN : Tok} (lq5_PLAN : K.lookup b5_PLAN = some ⟨.type "tuple", dd5_PLAN, .seq #[.str "peg" t5_0_PLAN, .int 2 t5_1_PLAN, .int 3 t5_2_PLAN] n5_PLAN, sl5_PLAN⟩)
  {n6_PLAN : Nat} {dd6_PLAN : Option Addr} {sl6_PLAN : Array (Option Value)} {t6_0_PLAN t6_1_PLAN t6_2_PLAN : Tok} (lq6_PLAN : K.lookup b6_PLAN = some ⟨.type "tuple", dd6_PLAN, .seq #[.str "line" t6_0_PLAN, .int 6 t6_1_PLAN, .int 7 t6_2_PLAN] n6_PLAN, sl6_PLAN⟩)
  {n7_PLAN : Nat} {dd7_PLAN : Option Addr} {sl7_PLAN : Array (Option Value)} {t7_0_PLAN t7_1_PLAN t7_2_PLAN : Tok} (lq7_PLAN : K.lookup b7_PLAN = some ⟨.type "tuple", dd7_PLAN, .seq #[.str "line" t7_0_PLAN, .int 1 t7_1_PLAN, .int 2 t7_2_PLAN] n7_PLAN, sl7_PLAN⟩)
  {n8_PLAN : Nat} {dd8_PLAN : Option Addr} {sl8_PLAN : Array (Option Value)} {t8_0_PLAN t8_1_PLAN t8_2_PLAN : Tok} (lq8_PLAN : K.lookup b8_PLAN = some ⟨.type "tuple", dd8_PLAN, .seq #[.str "peg" t8_0_PLAN, .int 4 t8_1_PLAN, .int 5 t8_2_PLAN] n8_PLAN, sl8_PLAN⟩)
  {n9_PLAN : Nat} {dd9_PLAN : Option Addr} {sl9_PLAN : Array (Option Value)} {t9_0_PLAN t9_1_PLAN t9_2_PLAN : Tok} (lq9_PLAN : K.lookup b9_PLAN = some ⟨.type "tuple", dd9_PLAN, .seq #[.str "line" t9_0_PLAN, .int 4 t9_1_PLAN, .int 8 t9_2_PLAN] n9_PLAN, sl9_PLAN⟩)
  {n10_PLAN : Nat} {dd10_PLAN : Option Addr} {sl10_PLAN : Array (Option Value)} {t10_0_PLAN t10_1_PLAN t10_2_PLAN : Tok} (lq10_PLAN : K.lookup b10_PLAN = some ⟨.type "tuple", dd10_PLAN, .seq #[.str "peg" t10_0_PLAN, .int 0 t10_1_PLAN, .int 6 t10_2_PLAN] n10_PLAN, sl10_PLAN⟩)
  {t_LAST : Tok} (q_LAST : PySem.W.nsIn K mainGlobals "LAST" = some (some (.int 9 t_LAST)))
  (hlaw : ∀ ns : List Int, ns.length <= 63 -> ze0 [.lst (ns.map .int)] = .ok (.bl true))
  : ∃ fd : FuncData, (∀ (s : Shared) (v : Value), BindsTo s fd ⟨[v], []⟩ [("_law_script", v)]) /\ ∀ base : Heap, K.In base -> base.Ns mainGlobals mg -> zgR l.prog w K mg base (CXe l.prog w) 12 fa fd ["_law_script"] (zpE K) := by
 have e := hfa.symm.trans (xbo X G a36)
 cases e
 obtain ⟨f0, v0, F0⟩ := d0.go X G ["_law_cell", "_law_many"] (by kpf_c)
 obtain ⟨f1, v1, F1⟩ := d1.go X G ["_law_one", "_law_other", "_law_third"] (by walk_at "b3")
 obtain ⟨f2, v2, F2⟩ := d2.go X G ["_law_some"] (by kst_p2)
 obtain ⟨f3, v3, F3⟩ := d3.go X G ["_law_x", "_law_y", "_law_z"] (by walk_at "b3")
 obtain ⟨f4, v4, F4⟩ := d4.go X G ["_law_one", "_law_other"] (by kpf_c)
 obtain ⟨f5, v5, F5⟩ := d5.go X G ["_law_rows", "_law_place_here"] (by kpf_c)
 obtain ⟨f6, v6, F6⟩ := d6.go X G ["_law_some", "_law_rows"] (by kpf_c)
 obtain ⟨f7, v7, F7⟩ := d7.go X G ["_law_some"] (by kst_p2)
 obtain ⟨f8, v8, F8⟩ := d8.go X G ["_law_one", "_law_other", "_law_many"] (by walk_at "b3")
 obtain ⟨f9, v9, F9⟩ := d9.go X G ["_law_places"] (by kst_p2)
 obtain ⟨f10, v10, F10⟩ := d10.go X G ["one", "other"] (by kpf_c)
 obtain ⟨f11, v11, F11⟩ := d11.go X G ["numbers"] (by kst_p2)
 obtain ⟨f12, v12, F12⟩ := d12.go X G ["one", "other"] (by kpf_c)
 obtain ⟨f13, v13, F13⟩ := d13.go X G ["one", "other"] (by kpf_c)
 obtain ⟨f14, v14, F14⟩ := d14.go X G ["one", "other"] (by kpf_c)
 obtain ⟨f15, v15, F15⟩ := d15.go X G ["one", "other"] (by kpf_c)
 obtain ⟨f16, v16, F16⟩ := d16.go X G ["place", "line"] (by kpf_c)
 obtain ⟨f17, v17, F17⟩ := d17.go X G ["places"] (by kst_p2)
 obtain ⟨f18, v18, F18⟩ := d18.go X G ["places"] (by kst_p2)
 obtain ⟨f19, v19, F19⟩ := d19.go X G ["thing"] (by kst_p2)
 obtain ⟨f20, v20, F20⟩ := d20.go X G ["three"] (by kst_p2)
 obtain ⟨f21, v21, F21⟩ := d21.go X G ["thing"] (by kst_p2)
 obtain ⟨f22, v22, F22⟩ := d22.go X G ["thing"] (by kst_p2)
 obtain ⟨f23, v23, F23⟩ := d23.go X G ["places", "many"] (by kpf_c)
 obtain ⟨f24, v24, F24⟩ := d24.go X G ["numbers"] (by kst_p2)
 obtain ⟨f25, v25, F25⟩ := d25.go X G ["pair"] (by kst_p2)
 obtain ⟨f26, v26, F26⟩ := d26.go X G ["five"] (by kst_p2)
 obtain ⟨f27, v27, F27⟩ := d27.go X G ["bow", "place"] (by kpf_c)
 obtain ⟨f28, v28, F28⟩ := d28.go X G ["thing"] (by kst_p2)
 obtain ⟨f29, v29, F29⟩ := d29.go X G ["known", "deed", "at"] (by walk_at "b3")
 obtain ⟨f30, v30, F30⟩ := d30.go X G ["one", "other"] (by kpf_c)
 obtain ⟨f31, v31, F31⟩ := d31.go X G ["places", "plan"] (by kpf_c)
 obtain ⟨f32, v32, F32⟩ := d32.go X G ["five", "place"] (by kpf_c)
 obtain ⟨f33, v33, F33⟩ := d33.go X G ["places"] (by kst_p2)
 obtain ⟨f34, v34, F34⟩ := d34.go X G ["_law_places"] (by kst_p2)
 obtain ⟨f35, v35, F35⟩ := d35.go X G ["_law_places"] (by kst_p2)
 have F36 := zqe (st := zg6) l36 c36 k36
 have m36 := xbo X G a36
 have n_max := xai X G z_max
 have n_range := xai X G z_range
 have n_abs := xai X G z_abs
 have n_len := xai X G z_len
 have n_all := xai X G z_all
 have n_isinstance := xai X G z_isinstance
 have n_int := xai X G z_int
 have n_bool := xai X G z_bool
 have n_tuple := xai X G z_tuple
 have n_list := xai X G z_list
 have n_set := xai X G z_set
 have n_zip := xai X G z_zip
 have n_sum := xai X G z_sum
 have n_str := xai X G z_str
 have n_enumerate := xai X G z_enumerate
 have n_ValueError := xai X G z_ValueError
 have c_ChalkError := xbo X G e_ChalkError
 have c_Same := xbo X G e_Same
 have c_NoDeed := xbo X G e_NoDeed
 have c_NoBow := xbo X G e_NoBow
 have nv_NoPlace := xai X G v_NoPlace
 have nv_NoFloor := xai X G v_NoFloor
 have nv_Endless := xai X G v_Endless
 have nv_NoText := xai X G v_NoText
 have nv_NoName := xai X G v_NoName
 have nv_TooMany := xai X G v_TooMany
 have nv_NoChange := xai X G v_NoChange
 have nv_NoFrame := xai X G v_NoFrame
 have nv_NoValue := xai X G v_NoValue
 have nv_Unlike := xai X G v_Unlike
 have nv_NoRatio := xai X G v_NoRatio
 have nv_NoRow := xai X G v_NoRow
 have x_NoBow : zoN K mg "NoBow" C_NoBow := zoN.mk' c_NoBow ⟨by (obtain ⟨_, hc, _⟩ := PySem.W.kw_along xga_NoBow; rw [hc]; rfl), xga_NoBow, xgh_NoBow, xbs_NoBow, xob_NoBow, xca_NoBow, xcg, xct⟩ xvv_NoBow (zuV (za8.of (b := true) c_ChalkError t_NoBow_ChalkError (fun _ => u_NoBow_ChalkError)) (za8.no nv_NoPlace) (za8.of (b := false) c_Same t_NoBow_Same (fun z => nomatch z)) (za8.no nv_NoFloor) (za8.no nv_Endless) (za8.of (b := false) c_NoDeed t_NoBow_NoDeed (fun z => nomatch z)) (za8.no nv_NoText) (za8.no nv_NoName) (za8.no nv_TooMany) (za8.no nv_NoChange) (za8.no nv_NoFrame) (za8.no nv_NoValue) (za8.no nv_Unlike) (za8.no nv_NoRatio) (za8.of (b := true) c_NoBow t_NoBow_NoBow (fun _ => u_NoBow_NoBow)) (za8.no nv_NoRow))
 refine ⟨PySem.W.fnOf "law" "law" (zdF zg6) (zbC zg6) (zah zg6) .none kV36 dc36 pm36 an36 cd36 ct36, fun s v => .of_eq rfl, fun base _ _ => ?_⟩
 have k_MOST_PEGS_is : ∃ u v, mg "MOST_PEGS" = some u /\ zbf v u /\ ∀ G, Rep K mg G zcq v := ⟨_, .int 12, xbo X G q_MOST_PEGS, ⟨_, rfl⟩, fun _ => rfl⟩
 have k_PLAN_is : ∃ u v, mg "PLAN" = some u /\ zbf v u /\ ∀ G, Rep K mg G zlq v := ⟨_, .ref a_PLAN, xbo X G q_PLAN, rfl, fun _ => zpO (l := [b0_PLAN, b1_PLAN, b2_PLAN, b3_PLAN, b4_PLAN, b5_PLAN, b6_PLAN, b7_PLAN, b8_PLAN, b9_PLAN, b10_PLAN]) lq_PLAN rfl (show 11 <= 100 by decide) (Reps.cons (zbI (l := [.s "line" t0_0_PLAN, .i 0 t0_1_PLAN, .i 5 t0_2_PLAN]) lq0_PLAN rfl (show 3 <= 100 by decide)) (Reps.cons (zbI (l := [.s "line" t1_0_PLAN, .i 2 t1_1_PLAN, .i 3 t1_2_PLAN]) lq1_PLAN rfl (show 3 <= 100 by decide)) (Reps.cons (zbI (l := [.s "peg" t2_0_PLAN, .i 0 t2_1_PLAN, .i 1 t2_2_PLAN]) lq2_PLAN rfl (show 3 <= 100 by decide)) (Reps.cons (zbI (l := [.s "line" t3_0_PLAN, .i 0 t3_1_PLAN, .i 1 t3_2_PLAN]) lq3_PLAN rfl (show 3 <= 100 by decide)) (Reps.cons (zbI (l := [.s "line" t4_0_PLAN, .i 3 t4_1_PLAN, .i 4 t4_2_PLAN]) lq4_PLAN rfl (show 3 <= 100 by decide)) (Reps.cons (zbI (l := [.s "peg" t5_0_PLAN, .i 2 t5_1_PLAN, .i 3 t5_2_PLAN]) lq5_PLAN rfl (show 3 <= 100 by decide)) (Reps.cons (zbI (l := [.s "line" t6_0_PLAN, .i 6 t6_1_PLAN, .i 7 t6_2_PLAN]) lq6_PLAN rfl (show 3 <= 100 by decide)) (Reps.cons (zbI (l := [.s "line" t7_0_PLAN, .i 1 t7_1_PLAN, .i 2 t7_2_PLAN]) lq7_PLAN rfl (show 3 <= 100 by decide)) (Reps.cons (zbI (l := [.s "peg" t8_0_PLAN, .i 4 t8_1_PLAN, .i 5 t8_2_PLAN]) lq8_PLAN rfl (show 3 <= 100 by decide)) (Reps.cons (zbI (l := [.s "line" t9_0_PLAN, .i 4 t9_1_PLAN, .i 8 t9_2_PLAN]) lq9_PLAN rfl (show 3 <= 100 by decide)) (Reps.cons (zbI (l := [.s "peg" t10_0_PLAN, .i 0 t10_1_PLAN, .i 6 t10_2_PLAN]) lq10_PLAN rfl (show 3 <= 100 by decide)) Reps.nil)))))))))))⟩
 have k_LAST_is : ∃ u v, mg "LAST" = some u /\ zbf v u /\ ∀ G, Rep K mg G zlr v := ⟨_, .int 9, xbo X G q_LAST, ⟨_, rfl⟩, fun _ => rfl⟩
 have G0 : zaF l.prog w K mg base 1 "_law_numbers" zaL := zgN (k := 0) F0 n_max n_range
 have G1 : zaF l.prog w K mg base 1 "_law_det" zaN := zj5 (k := 0) F1
 have G2 := zg1 (k := 1) F2 n_range G1
 have G3 : zaF l.prog w K mg base 1 "_law_lowest" zaq := zg2 (k := 0) F3 n_abs
 have G4 : zaF l.prog w K mg base 1 "_law_dot" zb5 := zj6 (k := 0) F4
 have G5 := zj7 (k := 1) F5 G3 G4
 have G6 := zia (k := 2) F6 n_range n_len G5
 have G7 := zib (k := 1) F7 G3
 have G8 := zj8 (k := 1) F8 G3
 have G9 := zic (k := 1) F9 n_range n_len G1
 have G10 : zaF l.prog w K mg base 1 "divisor" zbl := zl7 (k := 0) F10 n_abs
 have G11 := zl8 (k := 1) F11 G10
 have G12 : zaF l.prog w K mg base 1 "cross" zfd := zp8 (k := 0) F12
 have G13 := zg3 (k := 2) F13 G11 (G12.mono (by decide : 1 <= 2))
 have G14 := zl9 (k := 3) F14 G13
 have G15 : zaF l.prog w K mg base 1 "dot" zgz := zvs (k := 0) F15
 have G16 := zs3 (k := 1) F16 G15
 have G17 := zoG (k := 4) F17 n_len n_all G14 (G16.mono (by decide : 2 <= 4))
 have G18 := zeD (k := 5) F18 n_range n_len G17
 have G19 : zaF l.prog w K mg base 1 "is_whole" zaR := zj9 (k := 0) F19 n_isinstance n_int n_bool
 have G20 := zg4 (k := 1) F20 n_all G19
 have G21 := zka (k := 2) F21 n_isinstance n_tuple n_len G20 G11
 have G22 := zkb (k := 3) F22 n_isinstance n_list n_len n_all n_set k_MOST_PEGS_is G21
 have G23 := zgO (k := 6) F23 c_NoBow y_NoBow x_NoBow n_len (G22.mono (by decide : 4 <= 6)) G18
 have G24 := zoH (k := 1) F24 n_tuple G10
 have G25 : zaF l.prog w K mg base 1 "pair_as_bow" za4 := zg5 (k := 0) F25 n_range
 have G26 := zoI (k := 7) F26 n_zip G23 (G14.mono (by decide : 4 <= 7)) (G15.mono (by decide : 1 <= 7)) (G25.mono (by decide : 1 <= 7)) (G24.mono (by decide : 2 <= 7))
 have G27 : zaF l.prog w K mg base 1 "on_bow" zcN := zoJ (k := 0) F27 n_sum n_zip
 have G28 := zma (k := 1) F28 n_isinstance n_tuple n_len n_str G19
 have G29 : zaF l.prog w K mg base 1 "pair_of" zaS := zmb (k := 0) F29 n_len
 have G30 := zkc (k := 3) F30 G13
 have G31 := zoK (k := 4) F31 n_list n_enumerate (G28.mono (by decide : 2 <= 4)) (G29.mono (by decide : 1 <= 4)) G14 G30
 have G32 := zp9 (k := 7) F32 n_list k_PLAN_is k_LAST_is G23 (G31.mono (by decide : 5 <= 7))
 have G33 := zvt (k := 8) F33 (G23.mono (by decide : 7 <= 8)) G26 (G27.mono (by decide : 1 <= 8)) G32
 have G34 := zgP (k := 9) F34 c_ChalkError c_NoBow c_Same n_isinstance n_ValueError G33
 have G35 := zid (k := 10) F35 n_list n_isinstance n_tuple n_len n_sum n_zip (G9.mono (by decide : 2 <= 10)) G34 (G33.mono (by decide : 9 <= 10)) (G26.mono (by decide : 8 <= 10)) (G1.mono (by decide : 1 <= 10)) (G27.mono (by decide : 1 <= 10)) (G32.mono (by decide : 8 <= 10))
 exact zuW (zvu (P := l.prog) (w := w) (base := base) (k := 11) F36 n_range n_tuple (G0.mono (by decide : 1 <= 11)) (G2.mono (by decide : 2 <= 11)) (G6.mono (by decide : 3 <= 11)) (G7.mono (by decide : 2 <= 11)) (G8.mono (by decide : 2 <= 11)) G35 (G34.mono (by decide : 10 <= 11))) hlaw
end Kx
def PySem.W.Fast.tw16735066756233023489 := 0
def PySem.W.Fast.tw9990924537785394342 := 0
def PySem.W.Fast.tw3574551460630537451 := 0
def PySem.W.Fast.tw12469389742850619340 := 0
def PySem.W.Fast.tw7053554655886250158 := 0
def PySem.W.Fast.tw17567489569286024497 := 0
def PySem.W.Fast.tw9478251344860101009 := 0
def PySem.W.Fast.tw14456377684530989747 := 0
def PySem.W.Fast.tw17246355273216660566 := 0
def PySem.W.Fast.tw13651551032004365559 := 0
def PySem.W.Fast.tw17343113144938155319 := 0
def PySem.W.Fast.tw15970548612432047767 := 0
def PySem.W.Fast.tw17327492749397485178 := 0
def PySem.W.Fast.tw11899082157407563546 := 0
def PySem.W.Fast.tw1321131382869490427 := 0
def PySem.W.Fast.tw5172888200106915486 := 0
def PySem.W.Fast.tw13500494320564613854 := 0
def PySem.W.Fast.tw4917477362352643870 := 0
def PySem.W.Fast.tw1185629690589045855 := 0
open PySem.W PyProof.Rows
local macro_rules | `(tactic| walk_at "FD") => `(tactic| (refine' DL.FD.mk' ?a ?l ?c ?k; (case a => k_is); (case l => k_is); (case c => k_is); (case k => k_is)))
set_option maxRecDepth 100000 in
set_option maxHeartbeats 0 in
theorem PySem.Challenge.cw_chalkline_k80_six_holds : PySem.Challenge.rw_chalkline_k80_six.Holds := by
 w_on; o_law; k_head; (case hw => w_witness2)
 k_fill
 refine DL.walkD (l := PySem.Challenge.rw_chalkline_k80_six) 12 ⟨rfl, by decide, by decide⟩ rfl rfl (fun w h Y => PySem.W.kIn_of Y) ?F
 case F =>
  intro w mg fa h KX G hmg
  refine' Kx.all_mk KX G hmg ?d0 ?d1 ?d2 ?d3 ?d4 ?d5 ?d6 ?d7 ?d8 ?d9 ?d10 ?d11 ?d12 ?d13 ?d14 ?d15 ?d16 ?d17 ?d18 ?d19 ?d20 ?d21 ?d22 ?d23 ?d24 ?d25 ?d26 ?d27 ?d28 ?d29 ?d30 ?d31 ?d32 ?d33 ?d34 ?d35 ?a36 ?l36 ?c36 ?k36 ?z_max ?z_range ?z_abs ?z_len ?z_all ?z_isinstance ?z_int ?z_bool ?z_tuple ?z_list ?z_set ?z_zip ?z_sum ?z_str ?z_enumerate ?z_ValueError ?e_ChalkError ?e_Same ?e_NoDeed ?e_NoBow ?y_NoBow ?xga_NoBow ?xgh_NoBow ?xbs_NoBow ?xob_NoBow ?xca_NoBow ?xvv_NoBow ?t_NoBow_ChalkError ?u_NoBow_ChalkError ?v_NoPlace ?t_NoBow_Same ?v_NoFloor ?v_Endless ?t_NoBow_NoDeed ?v_NoText ?v_NoName ?v_TooMany ?v_NoChange ?v_NoFrame ?v_NoValue ?v_Unlike ?v_NoRatio ?t_NoBow_NoBow ?u_NoBow_NoBow ?v_NoRow ?xcg ?xct ?q_MOST_PEGS ?q_PLAN ?lq_PLAN ?lq0_PLAN ?lq1_PLAN ?lq2_PLAN ?lq3_PLAN ?lq4_PLAN ?lq5_PLAN ?lq6_PLAN ?lq7_PLAN ?lq8_PLAN ?lq9_PLAN ?lq10_PLAN ?q_LAST ?hlaw
  (case d0 | d1 | d2 | d3 | d4 | d5 | d6 | d7 | d8 | d9 | d10 | d11 | d12 | d13 | d14 | d15 | d16 | d17 | d18 | d19 | d20 | d21 | d22 | d23 | d24 | d25 | d26 | d27 | d28 | d29 | d30 | d31 | d32 | d33 | d34 | d35 => walk_at "FD")
  (case a36 | l36 | c36 | k36 | z_max | z_range | z_abs | z_len | z_all | z_isinstance | z_int | z_bool | z_tuple | z_list | z_set | z_zip | z_sum | z_str | z_enumerate | z_ValueError | e_ChalkError | e_Same | e_NoDeed | e_NoBow => k_is)
  (case y_NoBow => k_exc)
  (case xga_NoBow | xgh_NoBow | xbs_NoBow | xob_NoBow | xca_NoBow => k_is)
  (case xvv_NoBow | t_NoBow_ChalkError => kit_is)
  (case u_NoBow_ChalkError => kts_exm)
  (case v_NoPlace => k_is)
  (case t_NoBow_Same => kit_is)
  (case v_NoFloor | v_Endless => k_is)
  (case t_NoBow_NoDeed => kit_is)
  (case v_NoText | v_NoName | v_TooMany | v_NoChange | v_NoFrame | v_NoValue | v_Unlike | v_NoRatio => k_is)
  (case t_NoBow_NoBow => kit_is)
  (case u_NoBow_NoBow => kts_exm)
  (case v_NoRow | xcg | xct | q_MOST_PEGS | q_PLAN | lq_PLAN | lq0_PLAN | lq1_PLAN | lq2_PLAN | lq3_PLAN | lq4_PLAN | lq5_PLAN | lq6_PLAN | lq7_PLAN | lq8_PLAN | lq9_PLAN | lq10_PLAN | q_LAST => k_is)
  (case hlaw => exact Lk80.law_ok)
end